import PyProof.Rows.All
import Wide.All
import OpenK.AllK
import Wide.FinOn
import Lean
import PyProof.EqAt
import PyProof.EqKinds
import PyProof.TupleCall
import PySem.Challenge.RW_knotless_k14_opens
set_option Elab.async false
set_option linter.all false
set_option maxRecDepth 100000
/-! THE HAND LAYER, for ints, bools, texts, own classes, LISTS and tuples (index, slices, in, append, pop ..), calls, loops. Paste it whole ahead of your own text; what your proof does not reach may be deleted. -/
namespace L2
open PySem PySem.Spec PyProof.Rows

/-- a key: an int or a str -/
abbrev Key := Sum Int Str
def keyIs : Key → Value → Bool
  | .inl k, v => Value.isInt k v
  | .inr x, v => Value.isStrOf x v
def keyH (w : World) : Key → Int
  | .inl k => hashInt k
  | .inr x => hashStr w x
theorem keyIs_shape : ∀ {k : Key} {v : Value}, keyIs k v = true → (∃ i t, k = Sum.inl i ∧ v = Value.int i t) ∨ (∃ x t, k = Sum.inr x ∧ v = Value.str x t)
  | .inl i, v, h => by
    obtain ⟨t, e⟩ := Value.isInt_shape (k := i) (v := v) h
    exact .inl ⟨i, t, rfl, e⟩
  | .inr x, v, h => by
    obtain ⟨t, e⟩ := Value.isStrOf_shape (x := x) (v := v) h
    exact .inr ⟨x, t, rfl, e⟩
theorem key_ll (a b : Int) : decide ((Sum.inl a : Key) = Sum.inl b) = (a == b) := by
  by_cases e : a = b
  · subst e; simp
  · have h : ¬ (Sum.inl a : Key) = Sum.inl b := fun q => e (Sum.inl.inj q)
    rw [decide_eq_false h]
    exact (beq_eq_false_iff_ne.mpr e).symm
theorem key_rr (a b : Str) : decide ((Sum.inr a : Key) = Sum.inr b) = decide (a = b) := by
  by_cases e : a = b
  · subst e; simp
  · have h : ¬ (Sum.inr a : Key) = Sum.inr b := fun q => e (Sum.inr.inj q)
    rw [decide_eq_false h, decide_eq_false e]
theorem key_lr (a : Int) (b : Str) : decide ((Sum.inl a : Key) = Sum.inr b) = false := decide_eq_false (fun q => nomatch q)
theorem key_rl (a : Str) (b : Int) : decide ((Sum.inr a : Key) = Sum.inl b) = false := decide_eq_false (fun q => nomatch q)

def mixKind (prog : Program) (w : World) : PySem.KeyKind prog w Key where
  is := keyIs
  hash := keyH w
  inj := fun v a b ha hb => by
    rcases keyIs_shape ha with ⟨i, t, rfl, rfl⟩ | ⟨x, t, rfl, rfl⟩
    · rcases keyIs_shape hb with ⟨j, u, rfl, e⟩ | ⟨y, u, rfl, e⟩
      · injection e with e1 _; rw [e1]
      · exact nomatch e
    · rcases keyIs_shape hb with ⟨j, u, rfl, e⟩ | ⟨y, u, rfl, e⟩
      · exact nomatch e
      · injection e with e1 _; rw [e1]
  byValue := fun k v h => by
    rcases keyIs_shape h with ⟨i, t, rfl, rfl⟩ | ⟨x, t, rfl, rfl⟩ <;> rfl
  pyHash := fun hv h => by
    rcases keyIs_shape hv with ⟨i, t, rfl, rfl⟩ | ⟨x, t, rfl, rfl⟩
    · exact wpAny_pyHash_int h
    · exact wpAny_pyHash_str h
  eqBool := fun hu hv h => by
    rcases keyIs_shape hu with ⟨i, t, rfl, rfl⟩ | ⟨x, t, rfl, rfl⟩
    · rcases keyIs_shape hv with ⟨j, u, rfl, rfl⟩ | ⟨y, u, rfl, rfl⟩
      · rw [key_ll] at h; exact wpAny_eqBool_int h
      · rw [key_lr] at h; exact SeqAt.EqAt.int_str i t y u _ _ _ _ h
    · rcases keyIs_shape hv with ⟨j, u, rfl, rfl⟩ | ⟨y, u, rfl, rfl⟩
      · rw [key_rl] at h; exact SeqAt.EqAt.str_int x t j u _ _ _ _ h
      · rw [key_rr] at h; exact wpAny_eqBool_str h
  «strs» := fun k x t v h => by
    rcases keyIs_shape h with ⟨i, u, rfl, e⟩ | ⟨y, u, rfl, e⟩
    · exact nomatch e
    · injection e with e1 _
      subst e1
      cases v <;> rfl

end L2

namespace L2
open PySem PySem.Spec PyProof.Rows

/-- a value, without the heap -/
inductive V where
  | non | bl (b : Bool) | int (i : Int) | str (x : Str) | byt (b : Array UInt8) | flt (b : UInt64) | ref (a : Addr) | ty (n : String)
  deriving DecidableEq

def RelV : V → Value → Prop
  | .non, u => u = Value.none
  | .bl b, u => u = Value.bool b
  | .int i, u => ∃ t, u = Value.int i t
  | .str x, u => ∃ t, u = Value.str x t
  | .byt b, u => ∃ t, u = Value.bytes b t
  | .flt b, u => ∃ t, u = Value.float b t
  | .ref a, u => u = Value.ref a
  | .ty n, u => u = Value.type n

abbrev Vals : List V → List Value → Prop := Paired RelV
theorem Vals.length {xs : List V} {us : List Value} (r : Vals xs us) : xs.length = us.length := Paired.length r
theorem Vals.get : ∀ {xs : List V} {us : List Value} {i : Nat} {x : V}, Vals xs us → xs[i]? = some x → ∃ u, us[i]? = some u ∧ RelV x u
  | _, _, _, _, .nil, e => by simp at e
  | _, _, 0, _, .cons r _, e => by simp at e; subst e; exact ⟨_, rfl, r⟩
  | _, _, i + 1, x, .cons _ t, e => by
    obtain ⟨u, h1, h2⟩ := Vals.get (i := i) (x := x) t (by simpa using e)
    exact ⟨u, by simpa using h1, h2⟩
theorem Vals.set {x : V} {u : Value} (r : RelV x u) : ∀ {xs : List V} {us : List Value} (i : Nat), Vals xs us → Vals (xs.set i x) (us.set i u)
  | _, _, _, .nil => .nil
  | _, _, 0, .cons _ t => .cons r t
  | _, _, i + 1, .cons q t => .cons q (Vals.set r i t)
theorem Vals.append : ∀ {xs ys : List V} {us ws : List Value}, Vals xs us → Vals ys ws → Vals (xs ++ ys) (us ++ ws)
  | _, _, _, _, .nil, s => s
  | _, _, _, _, .cons r t, s => .cons r (Vals.append t s)
theorem Vals.take : ∀ {xs : List V} {us : List Value} (n : Nat), Vals xs us → Vals (xs.take n) (us.take n)
  | _, _, 0, _ => .nil
  | _, _, _ + 1, .nil => .nil
  | _, _, n + 1, .cons r t => .cons r (Vals.take n t)
theorem Vals.drop : ∀ {xs : List V} {us : List Value} (n : Nat), Vals xs us → Vals (xs.drop n) (us.drop n)
  | _, _, 0, r => r
  | _, _, _ + 1, .nil => .nil
  | _, _, n + 1, .cons _ t => Vals.drop n t
def RelO : Option V → Option Value → Prop
  | some v, some u => RelV v u
  | none, none => True
  | _, _ => False
def KV {κ : Type} : List (κ × V) → List (κ × Value) → Prop := Paired fun (p : κ × V) (q : κ × Value) => p.1 = q.1 ∧ RelV p.2 q.2

/-- a key of a dict (00_mix): an int or a text -/
def kV : Key → V
  | .inl i => .int i
  | .inr x => .str x

/-- what stands at a tracked address -/
inductive HO where
  /-- a list -/
  | lst (xs : List V)
  /-- a tuple (never changes) -/
  | tup (xs : List V)
  /-- a dict whose keys are ints and texts; one whose keys are tuples of ints and texts (the empty one is both) -/
  | dK (kvs : List (Key × V)) | dT (kvs : List (List Key × V))
  /-- a set of ints: its members, its size -/
  | set (S : Int → Bool) (n : Nat)
  /-- an instance of the class at C, its dict at dx, its attributes -/
  | ins (C dx : Addr) (fs : List (Str × V))
  /-- the dict of the instance at x -/
  | own (x : Addr)
  /-- the dict of an exception -/
  | xd (fs : List (Str × V))
  /-- a bound method, f of x -/
  | met (f x : Addr)
  /-- a range object lo, lo + 1, .. below hi -/
  | rng (lo hi : Int)
  /-- a thing that is known to the object (the script; a dict while a loop walks it): read, never written while it is so -/
  | frz (o : Obj) (u : HO)
  /-- a code object's table -/
  | tbl (ps : Array Value)
  /-- any other thing, by what is true of its one object (a def of one's own: SetO a S n := HO.ext fun h => ..) -/
  | ext (φ : Heap → Prop)

abbrev Hp := Addr → Option HO
def upd (H : Hp) (a : Addr) (o : HO) : Hp := fun b => if b = a then some o else H b
theorem upd_same {H : Hp} {a : Addr} {o : HO} : upd H a o a = some o := by unfold upd; rw [if_pos rfl]
theorem upd_ne {H : Hp} {a b : Addr} {o : HO} (h : b ≠ a) : upd H a o b = H b := by unfold upd; rw [if_neg h]
/-- two objects of different content stand apart -/
theorem ne_of {H : Hp} {a b : Addr} {o u : HO} (h : H a = some o) (h' : H b = some u) (d : o ≠ u) : a ≠ b := by
  intro e; subst e; rw [h] at h'; exact d (Option.some.inj h')
theorem ne_of_none {H : Hp} {a b : Addr} {o : HO} (h : H a = some o) (h' : H b = none) : a ≠ b := by
  intro e; subst e; rw [h] at h'; cases h'

section
variable (P : Program) (w : World)
def ObjOk (H : Hp) (h : Heap) (a : Addr) : HO → Prop
  | .lst xs => xs.length ≤ sizeLine ∧ ∃ (its : List Value) (n : Nat), Vals xs its ∧ h.get? a = some { cls := .type "list", data := .seq its.toArray n }
  | .tup xs => xs.length ≤ sizeLine ∧ ∃ its : List Value, Vals xs its ∧ IsTup h a its.toArray
  | .dK kvs => kvs.length ≤ sizeLine ∧ (a == sysModules) = false ∧ ∃ vs, KV kvs vs ∧ h.DictOf (mixKind P w) a vs
  | .dT kvs => kvs.length ≤ sizeLine ∧ (a == sysModules) = false ∧ ∃ xs : List (List Key × Addr × Value),
      Paired (fun (p : List Key × V) (q : List Key × Addr × Value) => p.1 = q.1 ∧ H q.2.1 = some (.tup (p.1.map kV)) ∧ RelV p.2 q.2.2) kvs xs ∧
      ∃ o es ep, h.get? a = some o ∧ o.ExactDict ∧ o.data = .dict es ep ∧ es.toList = xs.map (entryOfKey (tupleKind (mixKind P w))) ∧ (xs.map (·.1)).Nodup
  | .set S n => h.SetOf (intKind P w) a S n
  | .ins C dx fs => H dx = some (.own a) ∧ fs.length ≤ 1000 ∧ dx ≠ a ∧ h.get? a = some (PySem.W.instObj C dx) ∧
      ∃ mA, h.Ns1 dx mA ∧ (∀ f, RelO (fs.lookup f) (mA f)) ∧ PySem.Within mA (fs.map (·.1))
  | .own _ => ∃ o, h.get? a = some o
  | .xd fs => ∃ mA, h.Ns1 a mA ∧ ∀ f, RelO (fs.lookup f) (mA f)
  | .rng lo hi => ∃ t u v, h.get? a = some { cls := .type "range", data := .fields #[.int lo t, .int hi u, .int 1 v] }
  | .frz o u => h.get? a = some o ∧ ObjOk H h a u
  | .tbl ps => h.get? a = some { cls := .none, data := .fields ps }
  | .met f x => h.get? a = some (PySem.W.methodObj (.ref f) (.ref x))
  | .ext φ => φ h ∧ (∃ o, h.get? a = some o) ∧ ∀ h1 h2 : Heap, φ h1 → (∀ o, h1.get? a = some o → h2.get? a = some o) → φ h2
/-- the abstract heap is held -/
def HOk (H : Hp) (h : Heap) : Prop := ∀ a o, H a = some o → ObjOk P w H h a o
end

section
variable {P : Program} {w : World} {H H' : Hp} {h h' : Heap} {a : Addr} {o : HO}
theorem ObjOk.lt (x : ObjOk P w H h a o) : a < h.objs.size := by
  cases o with
  | lst xs => obtain ⟨_, _, _, _, e⟩ := x; exact Heap.lt_size e
  | tup xs => obtain ⟨_, _, _, p⟩ := x; exact p.lt
  | dK kvs => obtain ⟨_, _, _, _, o, _, _, e, _⟩ := x; exact Heap.lt_size e
  | dT kvs => obtain ⟨_, _, _, _, o, _, _, e, _⟩ := x; exact Heap.lt_size e
  | set S n => obtain ⟨o, _, _, _, e, _⟩ := x; exact Heap.lt_size e
  | ins C dx fs => obtain ⟨_, _, _, e, _⟩ := x; exact Heap.lt_size e
  | own y => obtain ⟨_, e⟩ := x; exact Heap.lt_size e
  | xd fs => obtain ⟨_, ⟨_, _, _, e, _⟩, _⟩ := x; exact Heap.lt_size e
  | rng lo hi => obtain ⟨_, _, _, e⟩ := x; exact Heap.lt_size e
  | frz ob u => obtain ⟨e, _⟩ := x; exact Heap.lt_size e
  | tbl ps => exact Heap.lt_size (show h.get? a = some _ from x)
  | met f y => exact Heap.lt_size (show h.get? a = some _ from x)
  | ext φ => obtain ⟨_, ⟨_, e⟩, _⟩ := x; exact Heap.lt_size e
theorem Paired.mapP {α β : Type} {F G : α → β → Prop} : ∀ {l₁ : List α} {l₂ : List β}, Paired F l₁ l₂ → (∀ a b, F a b → G a b) → Paired G l₁ l₂
  | _, _, .nil, _ => .nil
  | _, _, .cons r t, f => .cons (f _ _ r) (Paired.mapP t f)
/-- what an object's description leans on: its own object, its own dict, the tuples -/
theorem ObjOk.stay (x : ObjOk P w H h a o) (k : ∀ b u, (b = a ∨ H b = some (.own a)) → h.get? b = some u → h'.get? b = some u)
    (ho : ∀ b, H b = some (.own a) → H' b = some (.own a)) (ht : ∀ b xs, H b = some (.tup xs) → H' b = some (.tup xs)) : ObjOk P w H' h' a o := by
  induction o with
  | lst xs => obtain ⟨z, its, n, r, e⟩ := x; exact ⟨z, its, n, r, k _ _ (.inl rfl) e⟩
  | tup xs => obtain ⟨z, its, r, ob, e, c⟩ := x; exact ⟨z, its, r, ob, k _ _ (.inl rfl) e, c⟩
  | dK kvs => obtain ⟨z, y, vs, r, ob, es, ep, e, c⟩ := x; exact ⟨z, y, vs, r, ob, es, ep, k _ _ (.inl rfl) e, c⟩
  | dT kvs =>
    obtain ⟨z, y, xs, r, ob, es, ep, e, c⟩ := x
    exact ⟨z, y, xs, Paired.mapP r fun p q z => ⟨z.1, ht _ _ z.2.1, z.2.2⟩, ob, es, ep, k _ _ (.inl rfl) e, c⟩
  | set S n => obtain ⟨ob, es, ep, t, e, c⟩ := x; exact ⟨ob, es, ep, t, k _ _ (.inl rfl) e, c⟩
  | ins C dx fs =>
    obtain ⟨d, z, ne, e, mA, ⟨od, es, ep, e2, c⟩, r⟩ := x
    exact ⟨ho _ d, z, ne, k _ _ (.inl rfl) e, mA, ⟨od, es, ep, k _ _ (.inr d) e2, c⟩, r⟩
  | own y => obtain ⟨ob, e⟩ := x; exact ⟨ob, k _ _ (.inl rfl) e⟩
  | xd fs => obtain ⟨mA, ⟨od, es, ep, e, c⟩, r⟩ := x; exact ⟨mA, ⟨od, es, ep, k _ _ (.inl rfl) e, c⟩, r⟩
  | rng lo hi => obtain ⟨t, u, v, e⟩ := x; exact ⟨t, u, v, k _ _ (.inl rfl) e⟩
  | frz ob u ih => obtain ⟨e, q⟩ := x; exact ⟨k _ _ (.inl rfl) e, ih q⟩
  | tbl ps =>
    have e : h.get? a = some { cls := .none, data := .fields ps } := x
    show h'.get? a = some { cls := .none, data := .fields ps }
    exact k a _ (.inl rfl) e
  | met f y =>
    have e : h.get? a = some (PySem.W.methodObj (.ref f) (.ref y)) := x
    show h'.get? a = some (PySem.W.methodObj (.ref f) (.ref y))
    exact k a _ (.inl rfl) e
  | ext φ => obtain ⟨p, ⟨o, e⟩, st⟩ := x; exact ⟨st _ _ p fun o q => k _ _ (.inl rfl) q, ⟨o, k _ _ (.inl rfl) e⟩, st⟩
theorem HOk.lt (x : HOk P w H h) (e : H a = some o) : a < h.objs.size := (x a o e).lt
theorem HOk.fresh (x : HOk P w H h) (e : h.objs.size ≤ a) : H a = none := by
  cases q : H a with
  | none => rfl
  | some u => exact absurd (Nat.lt_of_lt_of_le (x.lt q) e) (Nat.lt_irrefl _)
/-- every object of the heap is kept -/
theorem HOk.kept (x : HOk P w H h) (k : ∀ b u, h.get? b = some u → h'.get? b = some u) : HOk P w H h' := fun a o e =>
  (x a o e).stay (fun b u _ q => k b u q) (fun _ q => q) fun _ _ q => q
/-- a new object is laid and tracked -/
theorem HOk.laid (x : HOk P w H h) (k : ∀ b u, h.get? b = some u → h'.get? b = some u) (hp : h.objs.size ≤ a) (new : ObjOk P w (upd H a o) h' a o) : HOk P w (upd H a o) h' := fun b u e => by
  have hn := x.fresh hp
  by_cases hb : b = a
  · subst hb; rw [upd_same] at e; cases e; exact new
  · rw [upd_ne hb] at e
    exact (x b u e).stay (fun c v _ q => k c v q) (fun c q => by rw [upd_ne (ne_of_none q hn)]; exact q) fun c xs q => by rw [upd_ne (ne_of_none q hn)]; exact q
end

/-- what may be read as u: it is u, or a known u -/
def Rd (H : Hp) (a : Addr) (u : HO) : Prop := H a = some u ∨ ∃ o, H a = some (.frz o u)
theorem Rd.ok {P : Program} {w : World} {H : Hp} {h : Heap} {a : Addr} {u : HO} (r : Rd H a u) (x : HOk P w H h) : ObjOk P w H h a u := by
  rcases r with r | ⟨o, r⟩
  · exact x a u r
  · obtain ⟨_, q⟩ := x a _ r
    exact q
/-- what may be written -/
def Mut : Option HO → Prop
  | some (.lst _) => True
  | some (.dK _) => True
  | some (.dT _) => True
  | some (.set _ _) => True
  | some (.ins _ _ _) => True
  | some (.ext _) => True
  | _ => False
section
variable {P : Program} {w : World} {H : Hp} {h h' : Heap} {x e : Addr} {o' : HO}
/-- the object at e is changed: x itself, or the dict of the instance x -/
theorem HOk.write (ok : HOk P w H h) (mu : Mut (H x)) (he : e = x ∨ H e = some (.own x)) (k : ∀ b u, b ≠ e → h.get? b = some u → h'.get? b = some u) (heo : ∃ u, h'.get? e = some u)
    (new : ObjOk P w (upd H x o') h' x o') : HOk P w (upd H x o') h' := fun b u q => by
  have nown : ∀ c y, H c = some (.own y) → c ≠ x := fun c y r z => by subst z; rw [r] at mu; exact mu
  have ntup : ∀ c xs, H c = some (.tup xs) → c ≠ x := fun c xs r z => by subst z; rw [r] at mu; exact mu
  by_cases hb : b = x
  · subst hb; rw [upd_same] at q; cases q; exact new
  · rw [upd_ne hb] at q
    by_cases hbe : b = e
    · have q' : H b = some (.own x) := by
        rcases he with z | z
        · exact absurd (hbe.trans z) hb
        · rw [hbe]; exact z
      rw [q] at q'; cases q'
      obtain ⟨v, hv⟩ := heo
      exact ⟨v, by rw [hbe]; exact hv⟩
    · refine (ok b u q).stay (fun c v hc r => k c v ?_ r) (fun c r => by rw [upd_ne (nown c b r)]; exact r) fun c xs r => by rw [upd_ne (ntup c xs r)]; exact r
      rcases hc with rfl | hc
      · exact hbe
      · rintro rfl
        rcases he with z | z
        · exact nown c b hc z
        · rw [hc] at z; cases z; exact hb rfl
end

/-! ### kept unless tracked; of the frames at fs (the callers') the slots may change (an exception that passes writes there); of the records at ex (iterators) nothing is said -/
structure Un (fs ex : List Addr) (H H' : Hp) (h h' : Heap) : Prop where
  keep : ∀ b o, h.get? b = some o → H b = none → b ∉ fs → b ∉ ex → h'.get? b = some o
  slot : ∀ b o, h.get? b = some o → H b = none → b ∈ fs → b ∉ ex → ∃ sl, h'.get? b = some { o with slots := sl }
  free : ∀ b o, h.get? b = some o → H b = none → b ∉ ex → H' b = none
  there : ∀ b o, h.get? b = some o → b ∉ ex → ∃ o', h'.get? b = some o'
  tups : ∀ b xs, H b = some (.tup xs) → H' b = some (.tup xs)
  frzs : ∀ b o u, H b = some (.frz o u) → H' b = some (.frz o u)
  tbls : ∀ b ps, H b = some (.tbl ps) → ∃ more, H' b = some (.tbl (ps ++ more))
section
variable {fs fs' ex ex' : List Addr} {H H1 H2 : Hp} {h h1 h2 h' : Heap} {a x e : Addr} {o : HO}
theorem Un.any (u : Un fs ex H H1 h h1) {b : Addr} {ob : Obj} (q : h.get? b = some ob) (n : H b = none) (hx : b ∉ ex) : ∃ sl, h1.get? b = some { ob with slots := sl } := by
  by_cases hb : b ∈ fs
  · exact u.slot b ob q n hb hx
  · exact ⟨ob.slots, u.keep b ob q n hb hx⟩
theorem Un.trans (a : Un fs ex H H1 h h1) (b : Un fs ex H1 H2 h1 h2) : Un fs ex H H2 h h2 where
  keep := fun c ob q n hc hx => b.keep c ob (a.keep c ob q n hc hx) (a.free c ob q n hx) hc hx
  slot := fun c ob q n hc hx => by
    obtain ⟨sl, e1⟩ := a.slot c ob q n hc hx
    obtain ⟨sl', e2⟩ := b.slot c _ e1 (a.free c ob q n hx) hc hx
    exact ⟨sl', e2⟩
  free := fun c ob q n hx => by
    obtain ⟨o', e1⟩ := a.there c ob q hx
    exact b.free c o' e1 (a.free c ob q n hx) hx
  there := fun c ob q hx => by
    obtain ⟨o', e1⟩ := a.there c ob q hx
    exact b.there c o' e1 hx
  tups := fun c xs q => b.tups c xs (a.tups c xs q)
  frzs := fun c ob xs q => b.frzs c ob xs (a.frzs c ob xs q)
  tbls := fun c ps q => by
    obtain ⟨m1, e1⟩ := a.tbls c ps q
    obtain ⟨m2, e2⟩ := b.tbls c _ e1
    exact ⟨m1 ++ m2, by rw [e2, Array.append_assoc]⟩
theorem Un.kept (k : ∀ b u, h.get? b = some u → h'.get? b = some u) : Un fs ex H H h h' :=
  ⟨fun b ob q _ _ _ => k b ob q, fun b ob q _ _ _ => ⟨ob.slots, k b ob q⟩, fun _ _ _ n _ => n, fun b ob q _ => ⟨ob, k b ob q⟩, fun _ _ q => q, fun _ _ _ q => q, fun _ ps q => ⟨#[], by rw [q]; simp⟩⟩
theorem Un.refl : Un fs ex H H h h := Un.kept fun _ _ q => q
theorem Un.laid (k : ∀ b u, h.get? b = some u → h'.get? b = some u) (hp : h.objs.size ≤ a) (hn : H a = none) : Un fs ex H (upd H a o) h h' where
  keep := fun b u q _ _ _ => k b u q
  slot := fun b u q _ _ _ => ⟨u.slots, k b u q⟩
  free := fun b u q n _ => by rw [upd_ne (Nat.ne_of_lt (Nat.lt_of_lt_of_le (Heap.lt_size q) hp))]; exact n
  there := fun b u q _ => ⟨u, k b u q⟩
  tups := fun b xs q => by rw [upd_ne (ne_of_none q hn)]; exact q
  frzs := fun b u xs q => by rw [upd_ne (ne_of_none q hn)]; exact q
  tbls := fun b ps q => ⟨#[], by rw [upd_ne (ne_of_none q hn), q]; simp⟩
theorem Un.write (mu : Mut (H x)) (he : e = x ∨ H e = some (.own x)) (k : ∀ b u, b ≠ e → h.get? b = some u → h'.get? b = some u) (heo : ∃ u, h'.get? e = some u) : Un fs ex H (upd H x o) h h' := by
  have hx : ∀ b, H b = none → b ≠ x := fun b n z => by subst z; rw [n] at mu; exact mu
  have hb : ∀ b, H b = none → b ≠ e := fun b n z => by
    subst z
    rcases he with r | r
    · exact hx b n r
    · rw [n] at r; cases r
  have hm : ∀ b u, H b = some u → ¬ Mut (some u) → b ≠ x := fun b u q nm z => by subst z; rw [q] at mu; exact nm mu
  refine ⟨fun b u q n _ _ => k b u (hb b n) q, fun b u q n _ _ => ⟨u.slots, k b u (hb b n) q⟩, fun b u q n _ => by rw [upd_ne (hx b n)]; exact n, fun b u q _ => ?_,
    fun b xs q => by rw [upd_ne (hm b _ q fun z => z)]; exact q, fun b u xs q => by rw [upd_ne (hm b _ q fun z => z)]; exact q, fun b ps q => ⟨#[], by rw [upd_ne (hm b _ q fun z => z), q]; simp⟩⟩
  by_cases hbe : b = e
  · subst hbe; exact heo
  · exact ⟨u, k b u hbe q⟩
end

/-! ### the heap without what is tracked -/
def trk (h : Heap) (H : Hp) : List Addr := (List.range h.objs.size).filter fun a => (H a).isSome
def hidT (h : Heap) (H : Hp) : Heap := PySem.W.hideAll h (trk h H)
theorem hidT_size (h : Heap) (H : Hp) : (hidT h H).objs.size = h.objs.size := PySem.W.hideAll_size _ _
theorem hidT_get {h : Heap} {H : Hp} {b : Addr} {o : Obj} (e : h.get? b = some o) (n : H b = none) : (hidT h H).get? b = some o :=
  PySem.W.hideAll_get _ e fun hm => by
    have q : (H b).isSome = true := (List.mem_filter.mp hm).2
    rw [n] at q; simp at q
theorem of_hidT {h : Heap} {H : Hp} {b : Addr} {o : Obj} (e : (hidT h H).get? b = some o) : h.get? b = some o ∧ H b = none := by
  have e' : h.get? b = some o := PySem.W.of_hideAll (trk h H) e
  refine ⟨e', ?_⟩
  cases q : H b with
  | none => rfl
  | some x =>
    have hm : b ∈ trk h H := List.mem_filter.mpr ⟨List.mem_range.mpr (Heap.lt_size e'), by simp [q]⟩
    have z : (hidT h H).get? b = none := PySem.W.hideAll_none (trk h H) hm
    rw [z] at e; cases e

/-! ### OpenK's ledger, filled with every new object but one -/
def allNews (g h : Heap) (L : Addr) : List (Addr × Obj) := (List.range h.objs.size).filterMap fun a => if a = L ∨ (g.get? a).isSome = true then none else (h.get? a).map fun o => (a, o)
def rest (g h : Heap) (L d : Addr) : List (Addr × Obj) := (allNews g h L).filter fun p => decide (p.1 ≠ d)
end L2

namespace L2
open PySem PySem.Spec PyProof.Rows

/-- the module's facts, over the base: the heap at the law's entry without what is tracked there -/
structure Mod (K : PySem.W.Frag) (mg : Str → Option Value) (base : Heap) : Prop where
  kin : K.In base
  glob : base.Ns mainGlobals mg
  blt : ∃ mb, base.Ns builtinsNs mb ∧ ∀ x : Str, x ≠ "__name__" → mb x = bootBuiltins x
  nolimit : base.NoLimit

/-- the context: a def's body (or a comprehension's block) running. base: fixed through the whole law; s₀, H₀: the entry; outer: the frames whose slots others may change (a def's callers); stack: all frames that run;
   ex: iterators that were made ahead of the entry and are walked here (a comprehension's); fn: the names whose cells were made at the entry (a def: all; a comprehension's block: its own); calm: not within an except suite; pn: pins that every state bears; xe: what is wanted of an exception that leaves the code -/
structure Cx where
  prog : Program
  w : World
  K : PySem.W.Frag
  mg : Str → Option Value
  base : Heap
  A : Around
  N : List Str
  s₀ : Shared
  H₀ : Hp
  env : Env
  outer : List Env
  stack : List Env
  ex : List Addr
  fn : Str → Bool
  calm : Bool
  pn : List (Addr × Obj)
  xe : Value → Shared → Prop
/-- the callers' frames -/
def frs (l : List Env) : List Addr := l.filterMap (·.frame)
abbrev Cx.fs (X : Cx) : List Addr := frs X.outer

def Vis (sc : Scope) (x : Str) : Prop := sc.names.lookup x = some .local ∨ sc.names.lookup x = some .cell ∨ sc.names.lookup x = some .free
def Loc (sc : Scope) (x : Str) : Prop := sc.names.lookup x = some .local ∨ sc.names.lookup x = some .cell
def Look (env : Env) (h : Heap) (m : Str → Option Value) (x : Str) (u : Value) : Prop :=
  (env.kindOf x = some .local ∧ m x = some u) ∨ ((env.kindOf x = some .cell ∨ env.kindOf x = some .free) ∧ ∃ c, env.cells.lookup x = some c ∧ h.IsCell c (some u))

structure Cx.Ok (X : Cx) : Prop where
  mod : Mod X.K X.mg X.base
  kind : X.env.scope.kind = .function
  glob : X.env.globals = mainGlobals
  blt : X.env.builtins = builtinsNs
  above : X.s₀.heap.objs.size ≤ X.env.locals
  inj : ∀ x y c, X.env.cells.lookup x = some c → X.env.cells.lookup y = some c → x = y
  has : ∀ x, (X.env.kindOf x = some .cell ∨ X.env.kindOf x = some .free) → ∃ c, X.env.cells.lookup x = some c
  cab : ∀ x c, X.fn x = true → X.env.cells.lookup x = some c → X.s₀.heap.objs.size ≤ c
  hd : X.calm = true → X.A.handled = none
  frames : X.A.frames = some X.stack
  stk : X.stack = X.outer ∨ (X.stack = X.env :: X.outer ∧ X.env.frame = some X.env.locals)
  exf : ∀ b ∈ X.ex, b ≠ X.env.locals ∧ ∀ x c, X.env.cells.lookup x = some c → c ≠ b
  bs : ∀ b o, X.base.get? b = some o → X.s₀.heap.get? b = some o ∧ X.H₀ b = none
  bsz : X.base.objs.size ≤ X.s₀.heap.objs.size
  noex : ∀ b o, X.base.get? b = some o → b ∉ X.ex
  exfs : ∀ b ∈ X.ex, b ∉ X.fs
  funs : X.s₀.heap.FunFrames X.base X.outer
  frf : ∀ b ∈ X.fs, X.H₀ b = none

structure Inv (X : Cx) (pins : List (Addr × Obj)) (σ : List (Option V)) (H : Hp) (s : Shared) : Prop where
  ok : X.Ok
  os : s.os = X.s₀.os
  bare : AllBare s.gens
  base : Un X.fs X.ex X.H₀ H X.s₀.heap s.heap
  loc : ∃ m, s.heap.Ns X.env.locals m ∧ ∀ (i : Nat) (x : Str) (v : V), X.N[i]? = some x → σ[i]? = some (some v) → Vis X.env.scope x → ∃ u, RelV v u ∧ Look X.env s.heap m x u
  cell : ∀ x c, X.env.cells.lookup x = some c → ∃ v, s.heap.IsCell c v
  free : H X.env.locals = none
  freeC : ∀ x c, X.env.cells.lookup x = some c → H c = none
  pin : ∀ p ∈ X.pn ++ pins, s.heap.get? p.1 = some p.2 ∧ H p.1 = none ∧ p.1 ≠ X.env.locals ∧ p.1 ∉ X.fs ∧ ∀ v, p.2.data ≠ .cell v
  hok : HOk X.prog X.w H s.heap
  len : σ.length = X.N.length

section
variable {X : Cx} {pins : List (Addr × Obj)} {σ : List (Option V)} {H H' : Hp} {s : Shared} {h' : Heap}

theorem Cx.Ok.nofr (ok : X.Ok) {b : Addr} {o : Obj} (e : X.base.get? b = some o) : b ∉ X.fs := fun hb => by
  have := (ok.funs.mem hb).1
  rw [e] at this; cases this
theorem Inv.bs (I : Inv X pins σ H s) : ∀ b o, X.base.get? b = some o → s.heap.get? b = some o ∧ H b = none := fun b o e =>
  ⟨I.base.keep b o (I.ok.bs b o e).1 (I.ok.bs b o e).2 (I.ok.nofr e) (I.ok.noex b o e), I.base.free b o (I.ok.bs b o e).1 (I.ok.bs b o e).2 (I.ok.noex b o e)⟩
theorem Inv.bk (I : Inv X pins σ H s) : ∀ b o, X.base.get? b = some o → s.heap.get? b = some o := fun b o e => (I.bs b o e).1
theorem Inv.mod (I : Inv X pins σ H s) : Mod X.K X.mg X.base := I.ok.mod
theorem Inv.kIn (I : Inv X pins σ H s) : X.K.In s.heap := I.ok.mod.kin.keeps I.bk
theorem Inv.lt (I : Inv X pins σ H s) : X.env.locals < s.heap.objs.size := let ⟨_, hn, _⟩ := I.loc; hn.lt
theorem Inv.sz (I : Inv X pins σ H s) : X.s₀.heap.objs.size ≤ s.heap.objs.size := Nat.le_trans I.ok.above (Nat.le_of_lt I.lt)
theorem Inv.nofs (I : Inv X pins σ H s) {a : Addr} (h : s.heap.objs.size ≤ a) : a ∉ X.fs := fun hb => by
  obtain ⟨_, o, ho, _⟩ := I.ok.funs.mem hb
  exact absurd (Nat.lt_of_lt_of_le (Heap.lt_size ho) (Nat.le_trans I.sz h)) (Nat.lt_irrefl _)
theorem Inv.cne (I : Inv X pins σ H s) : ∀ x c, X.env.cells.lookup x = some c → c ≠ X.env.locals := fun x c e z => by
  obtain ⟨v, o, ho, hd⟩ := I.cell x c e
  obtain ⟨m, ⟨o', es, ep, ho', hd', _⟩, _⟩ := I.loc
  rw [z, ho'] at ho; cases ho; rw [hd'] at hd; cases hd
theorem Inv.funs (I : Inv X pins σ H s) : s.heap.FunFrames X.base X.outer := by
  have all : ∀ (l : List Env), (∀ b ∈ frs l, b ∈ X.fs) → X.s₀.heap.FunFrames X.base l → s.heap.FunFrames X.base l := by
    intro l
    induction l with
    | nil => intro _ _; trivial
    | cons env r ih =>
      intro hs hl
      obtain ⟨hk, ⟨L, o, hf, hn, ho, hd⟩, hr⟩ := hl
      have hL : L ∈ X.fs := hs L (by unfold frs; rw [List.filterMap_cons, hf]; exact List.mem_cons_self)
      obtain ⟨sl, e⟩ := I.base.slot L o ho (I.ok.frf L hL) hL fun z => I.ok.exfs L z hL
      exact ⟨hk, ⟨L, _, hf, hn, e, hd⟩, ih (fun b hb => hs b (by unfold frs; rw [List.filterMap_cons, hf]; exact List.mem_cons_of_mem _ hb)) hr⟩
  exact all X.outer (fun _ hb => hb) I.ok.funs

/-- the frames that run, for a call -/
theorem Inv.stack (I : Inv X pins σ H s) : s.heap.FunFrames X.base X.stack := by
  rcases I.ok.stk with e | ⟨e, hf⟩
  · rw [e]; exact I.funs
  · rw [e]
    obtain ⟨m, hn, _⟩ := I.loc
    refine .cons (by rw [I.ok.kind]; decide) hf hn ?_ I.funs
    exact Heap.get?_none_of_le (Nat.le_trans I.ok.bsz I.ok.above)
theorem Inv.stkSub (I : Inv X pins σ H s) : ∀ b ∈ frs X.stack, b ∈ X.env.locals :: X.fs := fun b hb => by
  rcases I.ok.stk with e | ⟨e, hf⟩
  · rw [e] at hb; exact List.mem_cons_of_mem _ hb
  · rw [e] at hb
    unfold frs at hb
    rw [List.filterMap_cons, hf] at hb
    exact hb
theorem Inv.stkFree (I : Inv X pins σ H s) : ∀ b ∈ frs X.stack, H b = none := fun b hb => by
  rcases List.mem_cons.mp (I.stkSub b hb) with e | hb
  · rw [e]; exact I.free
  · obtain ⟨_, o, ho, _⟩ := I.ok.funs.mem hb
    exact I.base.free b o ho (I.ok.frf b hb) fun z => I.ok.exfs b z hb

/-- THE STEP: the untracked objects but the frame and the records at ch are kept (the callers' frames up to slots), the frame's map is kept, the new abstract heap is held -/
theorem Inv.step {g' : Array GenState} {t' : Nat} {d' : Drawn} {ch : List Addr} (I : Inv X pins σ H s)
    (hch : ∀ b ∈ ch, (b ∈ X.ex ∨ X.s₀.heap.objs.size ≤ b) ∧ b ≠ X.env.locals ∧ (∀ x c, X.env.cells.lookup x = some c → c ≠ b) ∧ ∀ p ∈ X.pn ++ pins, p.1 ≠ b)
    (keep : ∀ b o, b ≠ X.env.locals → b ∉ X.fs → b ∉ ch → s.heap.get? b = some o → H b = none → h'.get? b = some o)
    (slot : ∀ b o, b ≠ X.env.locals → b ∈ X.fs → b ∉ ch → s.heap.get? b = some o → H b = none → ∃ sl, h'.get? b = some { o with slots := sl }) (free : ∀ b o, b ∉ ch → s.heap.get? b = some o → H b = none → H' b = none)
    (there : ∀ b o, b ∉ ch → s.heap.get? b = some o → ∃ o', h'.get? b = some o')
    (tups : ∀ b xs, H b = some (.tup xs) → H' b = some (.tup xs)) (frzs : ∀ b o u, H b = some (.frz o u) → H' b = some (.frz o u)) (tbls : ∀ b ps, H b = some (.tbl ps) → ∃ more, H' b = some (.tbl (ps ++ more)))
    (ns : ∀ m, s.heap.Ns X.env.locals m → h'.Ns X.env.locals m) (hok : HOk X.prog X.w H' h') (hg : AllBare g') :
    Inv X pins σ H' { s with heap := h', gens := g', drawn := d', toks := t' } := by
  have neL : ∀ b o, X.s₀.heap.get? b = some o → b ≠ X.env.locals := fun b o e => Nat.ne_of_lt (Nat.lt_of_lt_of_le (Heap.lt_size e) I.ok.above)
  have neC : ∀ b o, X.s₀.heap.get? b = some o → b ∉ X.ex → b ∉ ch := fun b o e hx hb => by
    rcases (hch b hb).1 with z | z
    · exact hx z
    · exact absurd (Nat.lt_of_lt_of_le (Heap.lt_size e) z) (Nat.lt_irrefl _)
  have cellK : ∀ x c, X.env.cells.lookup x = some c → ∀ v, s.heap.IsCell c v → h'.IsCell c v := fun x c e v ⟨o, ho, hd⟩ => by
    have nch : c ∉ ch := fun z => (hch c z).2.2.1 x c e rfl
    by_cases hc : c ∈ X.fs
    · obtain ⟨sl, q⟩ := slot c o (I.cne x c e) hc nch ho (I.freeC x c e)
      exact ⟨_, q, hd⟩
    · exact ⟨o, keep c o (I.cne x c e) hc nch ho (I.freeC x c e), hd⟩
  refine ⟨I.ok, I.os, hg, ⟨fun b o e n hb hx => ?_, fun b o e n hb hx => ?_, fun b o e n hx => ?_, fun b o e hx => ?_, fun b xs e => tups b xs (I.base.tups b xs e), fun b o xs e => frzs b o xs (I.base.frzs b o xs e), fun b ps e => ?_⟩, ?_, fun x c e => ?_, ?_, fun x c e => ?_, fun p hp => ?_, hok, I.len⟩
  · exact keep b o (neL b o e) hb (neC b o e hx) (I.base.keep b o e n hb hx) (I.base.free b o e n hx)
  · obtain ⟨sl, e1⟩ := I.base.slot b o e n hb hx
    obtain ⟨sl', e2⟩ := slot b _ (neL b o e) hb (neC b o e hx) e1 (I.base.free b o e n hx)
    exact ⟨sl', e2⟩
  · obtain ⟨o', e1⟩ := I.base.there b o e hx
    exact free b o' (neC b o e hx) e1 (I.base.free b o e n hx)
  · obtain ⟨o', e1⟩ := I.base.there b o e hx
    exact there b o' (neC b o e hx) e1
  · obtain ⟨m1, e1⟩ := I.base.tbls b ps e
    obtain ⟨m2, e2⟩ := tbls b _ e1
    exact ⟨m1 ++ m2, by rw [e2, Array.append_assoc]⟩
  · obtain ⟨m, hn, hl⟩ := I.loc
    refine ⟨m, ns m hn, fun i x v e1 e2 e3 => ?_⟩
    obtain ⟨u, r, l⟩ := hl i x v e1 e2 e3
    refine ⟨u, r, ?_⟩
    rcases l with l | ⟨k, c, e, z⟩
    · exact .inl l
    · exact .inr ⟨k, c, e, cellK x c e _ z⟩
  · obtain ⟨v, z⟩ := I.cell x c e
    exact ⟨v, cellK x c e v z⟩
  · obtain ⟨m, ⟨o, _, _, ho, _⟩, _⟩ := I.loc
    exact free _ o (fun z => (hch _ z).2.1 rfl) ho I.free
  · obtain ⟨v, o, ho, hd⟩ := I.cell x c e
    exact free c o (fun z => (hch c z).2.2.1 x c e rfl) ho (I.freeC x c e)
  · obtain ⟨e, n, ne, nf, d⟩ := I.pin p hp
    have nch : p.1 ∉ ch := fun z => (hch p.1 z).2.2.2 p hp rfl
    exact ⟨keep p.1 p.2 ne nf nch e n, free p.1 p.2 nch e n, ne, nf, d⟩
/-- .. where the frame's own object is kept too -/
theorem Inv.un {t' : Nat} (I : Inv X pins σ H s) (u : Un X.fs [] H H' s.heap h') (hok : HOk X.prog X.w H' h') : Inv X pins σ H' { s with heap := h', toks := t' } := by
  obtain ⟨m, ⟨o, es, ep, ho, r⟩, _⟩ := id I.loc
  obtain ⟨sl, hL⟩ := u.any ho I.free (by simp)
  exact I.step (g' := s.gens) (d' := s.drawn) (ch := []) (fun _ z => nomatch z) (fun b o _ hb _ e n => u.keep b o e n hb (by simp)) (fun b o _ hb _ e n => u.slot b o e n hb (by simp)) (fun b o _ e n => u.free b o e n (by simp)) (fun b o _ e => u.there b o e (by simp)) u.tups u.frzs u.tbls (fun m' hm => by
    obtain ⟨o', es', ep', ho', r'⟩ := hm
    rw [ho] at ho'; cases ho'
    exact ⟨_, es', ep', hL, r'⟩) hok I.bare
/-- behind a call (or a comprehension's block): the slots of this frame may have changed too, the records at ch may have turned -/
theorem Inv.call {g' : Array GenState} {t' : Nat} {d' : Drawn} {ch : List Addr} (I : Inv X pins σ H s) (u : Un (frs X.stack) ch H H' s.heap h') (hok : HOk X.prog X.w H' h') (hg : AllBare g')
    (hch : ∀ b ∈ ch, (b ∈ X.ex ∨ X.s₀.heap.objs.size ≤ b) ∧ b ≠ X.env.locals ∧ (∀ x c, X.env.cells.lookup x = some c → c ≠ b) ∧ ∀ p ∈ X.pn ++ pins, p.1 ≠ b) :
    Inv X pins σ H' { s with heap := h', gens := g', drawn := d', toks := t' } := by
  obtain ⟨m, ⟨o, es, ep, ho, r⟩, _⟩ := id I.loc
  obtain ⟨sl, hL⟩ := u.any ho I.free fun z => (hch _ z).2.1 rfl
  exact I.step (ch := ch) hch (fun b o hL hb hc e n => u.keep b o e n (fun z => (List.mem_cons.mp (I.stkSub b z)).elim hL hb) hc) (fun b o _ _ hc e n => u.any e n hc) (fun b o hc e n => u.free b o e n hc) (fun b o hc e => u.there b o e hc) u.tups u.frzs u.tbls (fun m' hm => by
    obtain ⟨o', es', ep', ho', r'⟩ := hm
    rw [ho] at ho'; cases ho'
    exact ⟨_, es', ep', hL, r'⟩) hok hg
/-- an untracked record of ours (an iterator) has turned -/
theorem Inv.turned {t' : Nat} {it : Addr} (I : Inv X pins σ H s) (k : ∀ b o, b ≠ it → s.heap.get? b = some o → h'.get? b = some o) (hn : H it = none) (hL : it ≠ X.env.locals)
    (h1 : it ∈ X.ex ∨ X.s₀.heap.objs.size ≤ it) (h2 : ∀ x c, X.env.cells.lookup x = some c → c ≠ it) (h3 : ∀ p ∈ X.pn ++ pins, p.1 ≠ it) : Inv X pins σ H { s with heap := h', toks := t' } := by
  have nit : ∀ b u, H b = some u → b ≠ it := fun b u e z => by rw [z, hn] at e; cases e
  refine I.step (g' := s.gens) (d' := s.drawn) (ch := [it]) (fun b hb => ?_) (fun b o _ _ hc e _ => k b o (fun z => hc (by simp [z])) e) (fun b o _ _ hc e _ => ⟨o.slots, k b o (fun z => hc (by simp [z])) e⟩) (fun _ _ _ _ n => n)
    (fun b o hc e => ⟨o, k b o (fun z => hc (by simp [z])) e⟩) (fun _ _ e => e) (fun _ _ _ e => e) (fun b ps e => ⟨#[], by rw [e]; simp⟩) (fun m hm => ?_) (fun b u e => ?_) I.bare
  · have e : b = it := by simpa using hb
    subst e
    exact ⟨h1, hL, h2, h3⟩
  · obtain ⟨o, es, ep, ho, r⟩ := hm
    exact ⟨o, es, ep, k _ o (Ne.symm hL) ho, r⟩
  · refine (I.hok b u e).stay (fun c v hc q => k c v ?_ q) (fun _ q => q) fun _ _ q => q
    rcases hc with z | z
    · rw [z]; exact nit b u e
    · exact nit c _ z
theorem Inv.tok (I : Inv X pins σ H s) (t : Nat) : Inv X pins σ H { s with toks := t } := I.un (h' := s.heap) (t' := t) Un.refl I.hok
/-- all objects kept -/
theorem Inv.kept {t' : Nat} (I : Inv X pins σ H s) (k : ∀ b u, s.heap.get? b = some u → h'.get? b = some u) : Inv X pins σ H { s with heap := h', toks := t' } := I.un (Un.kept k) (I.hok.kept k)
/-- a new object laid and tracked -/
theorem Inv.laid {a : Addr} {o : HO} {t' : Nat} (I : Inv X pins σ H s) (k : ∀ b u, s.heap.get? b = some u → h'.get? b = some u) (hp : s.heap.objs.size ≤ a) (new : ObjOk X.prog X.w (upd H a o) h' a o) :
    Inv X pins σ (upd H a o) { s with heap := h', toks := t' } := I.un (Un.laid k hp (I.hok.fresh hp)) (I.hok.laid k hp new)
/-- an object written -/
theorem Inv.write {x e : Addr} {o : HO} {t' : Nat} (I : Inv X pins σ H s) (mu : Mut (H x)) (he : e = x ∨ H e = some (.own x)) (k : ∀ b u, b ≠ e → s.heap.get? b = some u → h'.get? b = some u) (heo : ∃ u, h'.get? e = some u)
    (new : ObjOk X.prog X.w (upd H x o) h' x o) : Inv X pins σ (upd H x o) { s with heap := h', toks := t' } := I.un (Un.write mu he k heo) (I.hok.write mu he k heo new)
theorem Inv.pins_of {pins' : List (Addr × Obj)} (I : Inv X pins σ H s) (h : ∀ p ∈ pins', s.heap.get? p.1 = some p.2 ∧ H p.1 = none ∧ p.1 ≠ X.env.locals ∧ p.1 ∉ X.fs ∧ ∀ v, p.2.data ≠ .cell v) : Inv X pins' σ H s :=
  ⟨I.ok, I.os, I.bare, I.base, I.loc, I.cell, I.free, I.freeC, fun p hp => (List.mem_append.mp hp).elim (fun z => I.pin p (List.mem_append_left _ z)) (h p), I.hok, I.len⟩

theorem nodup_ix {N : List Str} (hN : N.Nodup) {i j : Nat} {x : Str} (a : N[i]? = some x) (b : N[j]? = some x) : i = j := by
  obtain ⟨h1, e1⟩ := List.getElem?_eq_some_iff.mp a
  obtain ⟨h2, e2⟩ := List.getElem?_eq_some_iff.mp b
  exact (List.getElem_inj hN).mp (e1.trans e2.symm)

/-- a name is stored; what changed -/
theorem store_ok2 {M : Model} {A : Around} {E : Value → Shared → Prop} {i : Nat} {x : Str} {v : V} {u : Value} {Q : Unit → Shared → Prop} (I : Inv X pins σ H s) (hN : X.N.Nodup) (hi : X.N[i]? = some x) (hx : Loc X.env.scope x) (r : RelV v u)
    (h : ∀ s', Inv X pins (σ.set i (some v)) H s' → (∃ a, Heap.SameBut a s.heap s'.heap ∧ (a = X.env.locals ∨ X.env.cells.lookup x = some a)) → Q () s') (hf : X.fn x = true ∨ X.env.scope.names.lookup x = some .local := by first | exact .inl rfl | exact .inr rfl | assumption) : wpAny M A (storeName X.env x u) Q E s := by
  obtain ⟨m, hn, hl⟩ := id I.loc
  have hcls : (X.env.scope.kind == .class || (X.env.scope.kind == .module && X.env.locals != X.env.globals)) = false := by rw [I.ok.kind]; rfl
  have hiσ : i < σ.length := by rw [I.len]; exact (List.getElem?_eq_some_iff.mp hi).1
  have cne := I.cne
  have tracked : ∀ {a : Addr} {h' : Heap}, (∃ o, s.heap.get? a = some o ∧ H a = none) → Heap.SameBut a s.heap h' → HOk X.prog X.w H h' := fun {a h'} ha hs b ob e => by
    obtain ⟨_, _, hfree⟩ := ha
    refine (I.hok b ob e).stay (fun c w' hc q => (hs.2 c ?_).trans q) (fun _ q => q) fun _ _ q => q
    rintro rfl
    rcases hc with rfl | hc
    · rw [hfree] at e; cases e
    · rw [hfree] at hc; cases hc
  rcases hx with hk | hk
  · refine wpAny_storeName_local hk hn (fun h' hn' hs => ?_) hcls
    obtain ⟨oL, _, _, hoL, _⟩ := id hn
    refine h _ ⟨I.ok, I.os, I.bare, ⟨fun b o e n hb hx => ?_, fun b o e n hb hx => ?_, I.base.free, fun b o e hx => ?_, I.base.tups, I.base.frzs, I.base.tbls⟩, ⟨_, hn', fun j y v' e1 e2 e3 => ?_⟩, fun y c e => ?_, I.free, I.freeC, fun p hp => ?_, tracked ⟨oL, hoL, I.free⟩ hs, by simpa using I.len⟩ ⟨_, hs, .inl rfl⟩
    · exact (hs.2 b (Nat.ne_of_lt (Nat.lt_of_lt_of_le (Heap.lt_size e) I.ok.above))).trans (I.base.keep b o e n hb hx)
    · obtain ⟨sl, e1⟩ := I.base.slot b o e n hb hx
      exact ⟨sl, (hs.2 b (Nat.ne_of_lt (Nat.lt_of_lt_of_le (Heap.lt_size e) I.ok.above))).trans e1⟩
    · obtain ⟨o', e1⟩ := I.base.there b o e hx
      exact ⟨o', (hs.2 b (Nat.ne_of_lt (Nat.lt_of_lt_of_le (Heap.lt_size e) I.ok.above))).trans e1⟩
    · by_cases hj : j = i
      · subst hj
        rw [hi] at e1; cases e1
        rw [List.getElem?_set_self hiσ] at e2
        cases e2
        exact ⟨u, r, .inl ⟨hk, by simp⟩⟩
      · rw [List.getElem?_set_ne (Ne.symm hj)] at e2
        obtain ⟨u', r', q⟩ := hl j y v' e1 e2 e3
        refine ⟨u', r', ?_⟩
        rcases q with ⟨k, e⟩ | ⟨k, c, e, z⟩
        · refine .inl ⟨k, ?_⟩
          have : y ≠ x := fun e => hj (nodup_ix hN e1 (e ▸ hi))
          simp [this, e]
        · exact .inr ⟨k, c, e, z.sameBut hs (cne y c e)⟩
    · obtain ⟨w', z⟩ := I.cell y c e
      exact ⟨w', z.sameBut hs (cne y c e)⟩
    · obtain ⟨e, n, ne, nf, d⟩ := I.pin p hp
      exact ⟨(hs.2 p.1 ne).trans e, n, ne, nf, d⟩
  · have hfn : X.fn x = true := by
      rcases hf with z | z
      · exact z
      · rw [z] at hk; cases hk
    obtain ⟨c, hc⟩ := I.ok.has x (.inl hk)
    obtain ⟨w', z⟩ := I.cell x c hc
    refine wpAny_storeName_cell I.ok.kind hk hc z (fun h' hc' hs => ?_)
    obtain ⟨oc, hoc, hocd⟩ := id z
    refine h { s with heap := h' } ⟨I.ok, I.os, I.bare, ⟨fun b o e n hb hx => ?_, fun b o e n hb hx => ?_, I.base.free, fun b o e hx => ?_, I.base.tups, I.base.frzs, I.base.tbls⟩, ⟨m, hn.sameBut hs (Ne.symm (cne x c hc)), fun j y v' e1 e2 e3 => ?_⟩, fun y c' e => ?_, I.free, I.freeC, fun p hp => ?_, tracked ⟨oc, hoc, I.freeC x c hc⟩ hs, by simpa using I.len⟩ ⟨c, hs, .inr hc⟩
    · exact (hs.2 b (Nat.ne_of_lt (Nat.lt_of_lt_of_le (Heap.lt_size e) (I.ok.cab x c hfn hc)))).trans (I.base.keep b o e n hb hx)
    · obtain ⟨sl, e1⟩ := I.base.slot b o e n hb hx
      exact ⟨sl, (hs.2 b (Nat.ne_of_lt (Nat.lt_of_lt_of_le (Heap.lt_size e) (I.ok.cab x c hfn hc)))).trans e1⟩
    · obtain ⟨o', e1⟩ := I.base.there b o e hx
      exact ⟨o', (hs.2 b (Nat.ne_of_lt (Nat.lt_of_lt_of_le (Heap.lt_size e) (I.ok.cab x c hfn hc)))).trans e1⟩
    · by_cases hj : j = i
      · subst hj
        rw [hi] at e1; cases e1
        rw [List.getElem?_set_self hiσ] at e2
        cases e2
        exact ⟨u, r, .inr ⟨.inl hk, c, hc, hc'⟩⟩
      · rw [List.getElem?_set_ne (Ne.symm hj)] at e2
        obtain ⟨u', r', q⟩ := hl j y v' e1 e2 e3
        refine ⟨u', r', ?_⟩
        rcases q with q | ⟨k, c', e, z'⟩
        · exact .inl q
        · refine .inr ⟨k, c', e, z'.sameBut hs ?_⟩
          rintro rfl
          exact hj (nodup_ix hN e1 (I.ok.inj _ _ _ e hc ▸ hi))
    · by_cases hcc : c' = c
      · subst hcc; exact ⟨_, hc'⟩
      · obtain ⟨w2, z2⟩ := I.cell y c' e
        exact ⟨w2, z2.sameBut hs hcc⟩
    · obtain ⟨e, n, ne, nf, d⟩ := I.pin p hp
      refine ⟨(hs.2 p.1 ?_).trans e, n, ne, nf, d⟩
      intro q
      rw [q, hoc] at e
      have q' : oc = p.2 := Option.some.inj e
      exact d w' (by rw [← q']; exact hocd)
theorem store_ok {M : Model} {A : Around} {E : Value → Shared → Prop} {i : Nat} {x : Str} {v : V} {u : Value} {Q : Unit → Shared → Prop} (I : Inv X pins σ H s) (hN : X.N.Nodup) (hi : X.N[i]? = some x) (hx : Loc X.env.scope x) (r : RelV v u)
    (h : ∀ s', Inv X pins (σ.set i (some v)) H s' → Q () s') (hf : X.fn x = true ∨ X.env.scope.names.lookup x = some .local := by first | exact .inl rfl | exact .inr rfl | assumption) : wpAny M A (storeName X.env x u) Q E s :=
  store_ok2 I hN hi hx r (fun s' I' _ => h s' I') hf
/-- behind a call or a block, the state as it is -/
theorem Inv.call' {s' : Shared} {ch : List Addr} (I : Inv X pins σ H s) (ho : s'.os = s.os) (u : Un (frs X.stack) ch H H' s.heap s'.heap) (hok : HOk X.prog X.w H' s'.heap) (hg : AllBare s'.gens)
    (hch : ∀ b ∈ ch, (b ∈ X.ex ∨ X.s₀.heap.objs.size ≤ b) ∧ b ≠ X.env.locals ∧ (∀ x c, X.env.cells.lookup x = some c → c ≠ b) ∧ ∀ p ∈ X.pn ++ pins, p.1 ≠ b) : Inv X pins σ H' s' := by
  obtain ⟨h', g', d', t', o'⟩ := s'
  have e : o' = s.os := ho
  subst e
  exact I.call (g' := g') (t' := t') (d' := d') u hok hg hch
end

/-! ### the judgements -/
/-- an exception: its class, its own dict's address (where it has one), the abstract heap behind it -/
abbrev XK := Value → Option Addr → Hp → Prop
abbrev St := List (Option V)
abbrev VK := V → Hp → Prop
/-- an expression's reading; a test's; an argument list's -/
abbrev TE := St → Hp → VK → Prop
abbrev TT := St → Hp → (Bool → Hp → Prop) → Prop
abbrev TA := St → Hp → (List V → Hp → Prop) → Prop
/-- what is wanted behind a statement -/
structure Ends where
  nx : St → Hp → Prop
  rt : VK
  bk : St → Hp → Prop := fun _ _ => False
  ct : St → Hp → Prop := fun _ _ => False
abbrev TS := Ends → St → Hp → Prop

def EP (X : Cx) (pins : List (Addr × Obj)) (σ : St) (Q : VK) (u : Value) (s' : Shared) : Prop := ∃ v H', Inv X pins σ H' s' ∧ RelV v u ∧ Q v H'
def TP (X : Cx) (pins : List (Addr × Obj)) (σ : St) (Q : Bool → Hp → Prop) (b : Bool) (s' : Shared) : Prop := ∃ H', Inv X pins σ H' s' ∧ Q b H'
def AP (X : Cx) (pins : List (Addr × Obj)) (σ : St) (Q : List V → Hp → Prop) (us : List Value) (s' : Shared) : Prop := ∃ vs H', Inv X pins σ H' s' ∧ Vals vs us ∧ Q vs H'
def SP (X : Cx) (pins : List (Addr × Obj)) (D : Ends) (f : Flow) (s' : Shared) : Prop :=
  match f with
  | .next => ∃ σ' H', Inv X pins σ' H' s' ∧ D.nx σ' H'
  | .brk => ∃ σ' H', Inv X pins σ' H' s' ∧ D.bk σ' H'
  | .cont => ∃ σ' H', Inv X pins σ' H' s' ∧ D.ct σ' H'
  | .ret u => ∃ v σ' H', Inv X pins σ' H' s' ∧ RelV v u ∧ D.rt v H'

def PE (X : Cx) (e : Expr) (t : TE) : Prop :=
  ∀ (pins : List (Addr × Obj)) (s : Shared) (σ : St) (H : Hp) (Q : VK), Inv X pins σ H s → t σ H Q → wpAny (model X.prog X.w) X.A (eval e X.env) (EP X pins σ Q) X.xe s
def PT (X : Cx) (e : Expr) (t : TT) : Prop :=
  ∀ (pins : List (Addr × Obj)) (s : Shared) (σ : St) (H : Hp) (Q : Bool → Hp → Prop), Inv X pins σ H s → t σ H Q → wpAny (model X.prog X.w) X.A (isTrue e X.env (eval e X.env)) (TP X pins σ Q) X.xe s
/-- a test whatever its 'whole' is (and, or) -/
def PW (X : Cx) (e : Expr) (t : TT) : Prop :=
  ∀ (whole : Sem Value) (pins : List (Addr × Obj)) (s : Shared) (σ : St) (H : Hp) (Q : Bool → Hp → Prop), Inv X pins σ H s → t σ H Q → wpAny (model X.prog X.w) X.A (isTrue e X.env whole) (TP X pins σ Q) X.xe s
theorem PW.pt {X : Cx} {e : Expr} {t : TT} (h : PW X e t) : PT X e t := h _
/-- an argument list (no star), from the left -/
def PA (X : Cx) (es : List Expr) (t : TA) : Prop :=
  ∀ (pos : Pos) (pins : List (Addr × Obj)) (s : Shared) (σ : St) (H : Hp) (Q : List V → Hp → Prop), Inv X pins σ H s → t σ H Q → wpAny (model X.prog X.w) X.A (spliced (backTo pos (starEach es X.env))) (AP X pins σ Q) X.xe s
def PS (X : Cx) (st : Stmt) (t : TS) : Prop :=
  ∀ (pins : List (Addr × Obj)) (s : Shared) (σ : St) (H : Hp) (D : Ends), Inv X pins σ H s → t D σ H → wpAny (model X.prog X.w) X.A (exec st X.env) (SP X pins D) X.xe s
def PSs (X : Cx) (st : List Stmt) (t : TS) : Prop :=
  ∀ (pins : List (Addr × Obj)) (s : Shared) (σ : St) (H : Hp) (D : Ends), Inv X pins σ H s → t D σ H → wpAny (model X.prog X.w) X.A (execs st X.env) (SP X pins D) X.xe s
/-- weaken the end -/
theorem thn {α : Type} {t : Sem α} {Q Q' : α → Shared → Prop} {M : Model} {A : Around} {E : Value → Shared → Prop} {s : Shared} (h : wpAny M A t Q E s) (hQ : ∀ a s, Q a s → Q' a s) : wpAny M A t Q' E s := wpAny_mono h hQ fun _ _ x => x
end L2

namespace L2
open PySem PySem.Spec PyProof.Rows
section
variable {X : Cx}

/-! ### names and constants -/
def tVar (i : Nat) : TE := fun σ H Q => ∃ v, σ[i]? = some (some v) ∧ Q v H
def tC (v : V) : TE := fun _ H Q => Q v H
theorem pe_var {i : Nat} {x : Str} {pos : Pos} (hN : X.N[i]? = some x) (hv : Vis X.env.scope x) (hd : (x == ("__debug__" : Str)) = false := by decide) (hcd : (x == ("__classdict__" : Str)) = false := by decide) : PE X (.Name x pos) (tVar i) := by
  intro pins s σ H Q I h
  obtain ⟨v, e, h⟩ := h
  obtain ⟨m, hn, hl⟩ := I.loc
  obtain ⟨u, r, l⟩ := hl i x v hN e hv
  have fin : EP X pins σ Q u s := ⟨v, H, I, r, h⟩
  rcases l with ⟨hk, hm⟩ | ⟨hk, c, hc, hcell⟩
  · exact wpAny_Name (wpAny_loadName_local I.ok.kind hk hn hm fin) hd
  · rcases hk with hk | hk
    · exact wpAny_Name (wpAny_loadName_cell I.ok.kind hk hc hcell fin) hd
    · exact wpAny_Name (wpAny_loadName_free I.ok.kind hk hc hcell fin hcd) hd
theorem pe_int {i j pos} : PE X (.Constant (.int i) j pos) (tC (.int i)) := fun _ _ _ H _ I h => wpAny_Constant_int ⟨.int i, H, I.tok _, ⟨_, rfl⟩, h⟩
theorem pe_bl {b j pos} : PE X (.Constant (.bool b) j pos) (tC (.bl b)) := fun _ _ _ H _ I h => Constant_bool ⟨.bl b, H, I, rfl, h⟩
theorem pe_non {j pos} : PE X (.Constant .none j pos) (tC .non) := fun _ _ _ H _ I h => Constant_none ⟨.non, H, I, rfl, h⟩
/-- a global name of the def -/
def Gl (X : Cx) (x : Str) : Prop := X.env.kindOf x = some .globalImplicit
theorem ld_glob {E : Value → Shared → Prop} {pins : List (Addr × Obj)} {s : Shared} {σ : St} {H : Hp} {x : Str} {u : Value} {pos : Pos} {Q : Value → Shared → Prop} (I : Inv X pins σ H s) (hg : Gl X x) (hm : X.mg x = some u) (h : Q u s)
    (hd : (x == ("__debug__" : Str)) = false := by decide) : wpAny (model X.prog X.w) X.A (eval (.Name x pos) X.env) Q E s :=
  Calls.Name_function_global I.ok.kind hg (Calls.loadGlobal_global (by rw [I.ok.glob]; exact I.mod.glob.keeps I.bk) hm h) hd
theorem ld_blt {E : Value → Shared → Prop} {pins : List (Addr × Obj)} {s : Shared} {σ : St} {H : Hp} {x : Str} {u : Value} {pos : Pos} {Q : Value → Shared → Prop} (I : Inv X pins σ H s) (hg : Gl X x) (hm : X.mg x = none) (hv : bootBuiltins x = some u) (h : Q u s)
    (hn : x ≠ "__name__" := by decide) (hd : (x == ("__debug__" : Str)) = false := by decide) : wpAny (model X.prog X.w) X.A (eval (.Name x pos) X.env) Q E s := by
  obtain ⟨mb, h1, h2⟩ := I.mod.blt
  exact Calls.Name_function_global I.ok.kind hg (Calls.loadGlobal_builtin (by rw [I.ok.glob]; exact I.mod.glob.keeps I.bk) hm (by rw [I.ok.blt]; exact h1.keeps I.bk) ((h2 x hn).trans hv) h) hd
/-- a module's constant, a class, a function, as a value -/
theorem pe_glob {x : Str} {v : V} {u : Value} {pos : Pos} (hg : Gl X x) (hm : X.mg x = some u) (r : RelV v u) (hd : (x == ("__debug__" : Str)) = false := by decide) : PE X (.Name x pos) (tC v) :=
  fun _ _ _ H _ I h => ld_glob I hg hm ⟨v, H, I, r, h⟩ hd
theorem pe_bltn {x : Str} {v : V} {u : Value} {pos : Pos} (hg : Gl X x) (hm : X.mg x = none) (hv : bootBuiltins x = some u) (r : RelV v u) (hn : x ≠ "__name__" := by decide) (hd : (x == ("__debug__" : Str)) = false := by decide) : PE X (.Name x pos) (tC v) :=
  fun _ _ _ H _ I h => ld_blt I hg hm hv ⟨v, H, I, r, h⟩ hn hd

/-! ### arithmetic -/
variable {a b : Expr} {ta tb : TE} {pos : Pos}
/-! ### comparisons -/
/-- a comparison as a value, as a test -/
def tB (t : TE) : TT := fun σ H Q => t σ H fun x H1 => ∃ c, x = .bl c ∧ Q c H1
/-- an expression whose value is a bool, as a test -/
theorem pt_val {e : Expr} {t : TE} (h : PE X e t) (he : ∀ whole, isTrue e X.env whole = (do let v ← whole; standAt e.pos; holding [v] (truthy v)) := by intro _; rfl) : PT X e (tB t) := by
  intro pins s σ H Q I hw
  refine isTrue_plain (thn (h pins s σ H _ I hw) fun v s1 ⟨x, H1, I1, r1, q1⟩ => ?_) (he _)
  obtain ⟨d, rfl, q⟩ := q1
  cases r1
  exact wpAny_truthy_bool ⟨H1, I1, q⟩

/-! ### and, or, not -/
variable {tA tB' : TT} {rest : List Expr}
def tAnd (t u : TT) : TT := fun σ H Q => t σ H fun c H1 => if c = true then u σ H1 Q else Q false H1
def tOr (t u : TT) : TT := fun σ H Q => t σ H fun c H1 => if c = true then Q true H1 else u σ H1 Q
def tNot (t : TT) : TT := fun σ H Q => t σ H fun c H1 => Q (!c) H1
theorem pw_and1 (ha : PT X a tA) : PW X (.BoolOp .And [a] pos) tA := by
  intro wh pins s σ H Q I h
  refine isTrue_and (thn (ha pins s σ H Q I h) fun c s1 e => ?_)
  cases c with
  | true => exact isTrue_and_nil e
  | false => exact e
theorem pw_or1 (ha : PT X a tA) : PW X (.BoolOp .Or [a] pos) tA := by
  intro wh pins s σ H Q I h
  refine isTrue_or (thn (ha pins s σ H Q I h) fun c s1 e => ?_)
  cases c with
  | false => exact isTrue_or_nil e
  | true => exact e
theorem pw_and (ha : PT X a tA) (hb : PW X (.BoolOp .And (b :: rest) pos) tB') : PW X (.BoolOp .And (a :: b :: rest) pos) (tAnd tA tB') := by
  intro wh pins s σ H Q I h
  refine isTrue_and (thn (ha pins s σ H _ I h) fun c s1 ⟨H1, I1, q1⟩ => ?_)
  cases c with
  | true => exact hb wh pins s1 σ H1 Q I1 q1
  | false => exact ⟨H1, I1, q1⟩
theorem pw_or (ha : PT X a tA) (hb : PW X (.BoolOp .Or (b :: rest) pos) tB') : PW X (.BoolOp .Or (a :: b :: rest) pos) (tOr tA tB') := by
  intro wh pins s σ H Q I h
  refine isTrue_or (thn (ha pins s σ H _ I h) fun c s1 ⟨H1, I1, q1⟩ => ?_)
  cases c with
  | true => exact ⟨H1, I1, q1⟩
  | false => exact hb wh pins s1 σ H1 Q I1 q1
theorem pt_not (ha : PT X a tA) : PT X (.UnaryOp .Not a pos) (tNot tA) := by
  intro pins s σ H Q I h
  exact isTrue_not (ha pins s σ H (fun c H1 => Q (!c) H1) I h)
/-- .. as values (bools) -/
def tAndV (ta tb : TE) : TE := fun σ H Q => ta σ H fun x H1 => ∃ c, x = .bl c ∧ if c = true then tb σ H1 Q else Q (.bl false) H1
def tNotV (ta : TE) : TE := fun σ H Q => ta σ H fun x H1 => ∃ c, x = .bl c ∧ Q (.bl (!c)) H1
theorem pe_one {op} {t : TE} (h : PE X a t) : PE X (.BoolOp op [a] pos) t := fun pins s σ H Q I hw => BoolOp_one (h pins s σ H Q I hw)
theorem pe_and (ha : PE X a ta) (hb : PE X (.BoolOp .And (b :: rest) pos) tb) : PE X (.BoolOp .And (a :: b :: rest) pos) (tAndV ta tb) := by
  intro pins s σ H Q I h
  refine BoolOp_and (thn (ha pins s σ H _ I h) fun v s1 ⟨x, H1, I1, r1, q1⟩ => ?_)
  obtain ⟨c, rfl, q1⟩ := q1
  cases r1
  refine wpAny_truthy_bool ?_
  cases c with
  | true => exact hb pins s1 σ H1 Q I1 q1
  | false => exact ⟨.bl false, H1, I1, rfl, q1⟩
theorem pe_not (ha : PE X a ta) : PE X (.UnaryOp .Not a pos) (tNotV ta) := by
  intro pins s σ H Q I h
  refine UnaryOp_ (thn (ha pins s σ H _ I h) fun v s1 ⟨x, H1, I1, r1, q1⟩ => ?_)
  obtain ⟨c, rfl, q1⟩ := q1
  cases r1
  exact not_of (wpAny_truthy_bool ⟨.bl (!c), H1, I1, rfl, q1⟩)
/-- a if t else b -/
def tIf (t : TT) (ta tb : TE) : TE := fun σ H Q => t σ H fun c H1 => if c = true then ta σ H1 Q else tb σ H1 Q
theorem pe_ifExp {c : Expr} (hc : PT X c tA) (ha : PE X a ta) (hb : PE X b tb) : PE X (.IfExp c a b pos) (tIf tA ta tb) := by
  intro pins s σ H Q I h
  refine wpAny_IfExp (thn (hc pins s σ H _ I h) fun d s1 ⟨H1, I1, q1⟩ => ?_)
  cases d with
  | true => exact ha pins s1 σ H1 Q I1 q1
  | false => exact hb pins s1 σ H1 Q I1 q1
end
end L2

namespace L2
open PySem PySem.Spec PyProof.Rows

/-! ### a list, a tuple that is read: tracked, frozen, or an object of the module -/
def SqL (K : PySem.W.Frag) (H : Hp) (a : Addr) (xs : List V) : Prop :=
  Rd H a (.lst xs) ∨
    ∃ (o : Obj) (its : Array Value) (n : Nat), K.lookup a = some o ∧ o.cls = .type "list" ∧ o.dict = none ∧ o.data = .seq its n ∧ its.size ≤ sizeLine ∧ Vals xs its.toList
def SqT (K : PySem.W.Frag) (H : Hp) (a : Addr) (xs : List V) : Prop :=
  Rd H a (.tup xs) ∨
    ∃ (o : Obj) (its : Array Value) (n : Nat), K.lookup a = some o ∧ o.cls = .type "tuple" ∧ o.data = .seq its n ∧ its.size ≤ sizeLine ∧ Vals xs its.toList
def absV : Value → Option V
  | .none => some .non
  | .bool b => some (.bl b)
  | .int i _ => some (.int i)
  | .str x _ => some (.str x)
  | .bytes b _ => some (.byt b)
  | .float b _ => some (.flt b)
  | .ref a => some (.ref a)
  | .type n => some (.ty n)
  | _ => none
theorem RelV.abs {x : V} {u : Value} (r : RelV x u) : absV u = some x := by
  cases x with
  | non => cases r; rfl
  | bl _ => cases r; rfl
  | int _ => obtain ⟨t, rfl⟩ := r; rfl
  | str _ => obtain ⟨t, rfl⟩ := r; rfl
  | byt _ => obtain ⟨t, rfl⟩ := r; rfl
  | flt _ => obtain ⟨t, rfl⟩ := r; rfl
  | ref _ => cases r; rfl
  | ty _ => cases r; rfl
theorem RelV.inj {x y : V} {u : Value} (r : RelV x u) (q : RelV y u) : x = y := Option.some.inj (r.abs.symm.trans q.abs)
theorem Vals.inj : ∀ {xs ys : List V} {us : List Value}, Vals xs us → Vals ys us → xs = ys
  | _, _, _, .nil, .nil => rfl
  | _, _, _, .cons r t, .cons r' t' => by rw [r.inj r', Vals.inj t t']
section
variable {X : Cx} {pins : List (Addr × Obj)} {σ : St} {H : Hp} {s : Shared} {a : Addr} {xs ys : List V}
theorem SqL.of {K : PySem.W.Frag} (h : H a = some (.lst xs)) : SqL K H a xs := .inl (.inl h)
theorem SqT.of {K : PySem.W.Frag} (h : H a = some (.tup xs)) : SqT K H a xs := .inl (.inl h)
theorem Inv.list (I : Inv X pins σ H s) (h : SqL X.K H a xs) : ∃ its : List Value, Vals xs its ∧ PlainL s.heap a its.toArray ∧ xs.length ≤ sizeLine := by
  rcases h with h | ⟨o, its, n, hk, hc, hd, hs, hz, r⟩
  · obtain ⟨z, its, n, r, e⟩ := h.ok I.hok
    exact ⟨its, r, ⟨_, n, e, rfl, rfl, rfl⟩, z⟩
  · refine ⟨its.toList, r, ⟨o, n, I.kIn a o hk, hc, hd, by simpa using hs⟩, ?_⟩
    have e := r.length
    simp only [Array.length_toList] at e
    omega
theorem Inv.tuple (I : Inv X pins σ H s) (h : SqT X.K H a xs) : ∃ its : List Value, Vals xs its ∧ IsTup s.heap a its.toArray ∧ xs.length ≤ sizeLine := by
  rcases h with h | ⟨o, its, n, hk, hc, hs, hz, r⟩
  · obtain ⟨z, its, r, p⟩ := h.ok I.hok
    exact ⟨its, r, p, z⟩
  · refine ⟨its.toList, r, ⟨o, I.kIn a o hk, hc, n, by simpa using hs⟩, ?_⟩
    have e := r.length
    simp only [Array.length_toList] at e
    omega
theorem Inv.list_inj (I : Inv X pins σ H s) (h : SqL X.K H a xs) (h' : SqL X.K H a ys) : xs = ys := by
  obtain ⟨its, r, ⟨o, n, e, _, _, d⟩, _⟩ := I.list h
  obtain ⟨its', r', ⟨o', n', e', _, _, d'⟩, _⟩ := I.list h'
  rw [e] at e'; cases e'
  rw [d] at d'
  injection d' with d1 _
  have : its = its' := by simpa using congrArg Array.toList d1
  subst this
  exact r.inj r'
end

/-! ### another wish about exceptions -/
abbrev Cx.wish (X : Cx) (E : Value → Shared → Prop) : Cx := { X with xe := E }
/-- no exception leaves -/
abbrev Cx.nox (X : Cx) : Cx := X.wish fun _ _ => False
theorem Cx.Ok.wish {X : Cx} (ok : X.Ok) (E : Value → Shared → Prop) : (X.wish E).Ok :=
  ⟨ok.mod, ok.kind, ok.glob, ok.blt, ok.above, ok.inj, ok.has, ok.cab, ok.hd, ok.frames, ok.stk, ok.exf, ok.bs, ok.bsz, ok.noex, ok.exfs, ok.funs, ok.frf⟩
theorem Cx.Ok.unwish {X : Cx} {E : Value → Shared → Prop} (ok : (X.wish E).Ok) : X.Ok :=
  ⟨ok.mod, ok.kind, ok.glob, ok.blt, ok.above, ok.inj, ok.has, ok.cab, ok.hd, ok.frames, ok.stk, ok.exf, ok.bs, ok.bsz, ok.noex, ok.exfs, ok.funs, ok.frf⟩
section
variable {X : Cx} {pins : List (Addr × Obj)} {σ : St} {H : Hp} {s : Shared} {E : Value → Shared → Prop}
theorem Inv.wish (I : Inv X pins σ H s) (E : Value → Shared → Prop) : Inv (X.wish E) pins σ H s := ⟨I.ok.wish E, I.os, I.bare, I.base, I.loc, I.cell, I.free, I.freeC, I.pin, I.hok, I.len⟩
theorem Inv.unwish (I : Inv (X.wish E) pins σ H s) : Inv X pins σ H s := ⟨I.ok.unwish, I.os, I.bare, I.base, I.loc, I.cell, I.free, I.freeC, I.pin, I.hok, I.len⟩
theorem SP.unwish {D : Ends} {f : Flow} {s' : Shared} (h : SP (X.wish E) pins D f s') : SP X pins D f s' := by
  cases f with
  | next => obtain ⟨σ', H', I, q⟩ := h; exact ⟨σ', H', I.unwish, q⟩
  | brk => obtain ⟨σ', H', I, q⟩ := h; exact ⟨σ', H', I.unwish, q⟩
  | cont => obtain ⟨σ', H', I, q⟩ := h; exact ⟨σ', H', I.unwish, q⟩
  | ret u => obtain ⟨v, σ', H', I, r, q⟩ := h; exact ⟨v, σ', H', I.unwish, r, q⟩
theorem PSs.nox {st : List Stmt} {t : TS} (h : PSs X.nox st t) : PSs X st t := fun pins s σ H D I hw =>
  wpAny_mono (h pins s σ H D (I.wish _) hw) (fun _ _ q => q.unwish) fun _ _ z => False.elim z
end

/-! ### blocks and small statements -/
section
variable {X : Cx} {st : Stmt} {rest : List Stmt} {t u : TS} {e : Expr} {te : TE} {pos : Pos}
def tNext : TS := fun D σ H => D.nx σ H
def tSeq (t u : TS) : TS := fun D σ H => t { D with nx := u D } σ H
theorem pss_nil : PSs X [] tNext := fun _ _ σ H _ I h => wpAny_execs_nil ⟨σ, H, I, h⟩
theorem pss_cons (h1 : PS X st t) (h2 : PSs X rest u) : PSs X (st :: rest) (tSeq t u) := by
  intro pins s σ H D I h
  refine wpAny_execs_cons (thn (h1 pins s σ H { D with nx := u D } I h) fun f s1 q => ?_)
  cases f with
  | next =>
    obtain ⟨σ', H', I', q⟩ := q
    exact h2 pins s1 σ' H' D I' q
  | ret v => exact q
  | brk => exact q
  | cont => exact q
theorem pss_one (h1 : PS X st t) : PSs X [st] t := by
  intro pins s σ H D I h
  refine wpAny_execs_cons (thn (h1 pins s σ H D I h) fun f s1 q => ?_)
  cases f with
  | next => exact wpAny_execs_nil q
  | ret v => exact q
  | brk => exact q
  | cont => exact q
/-- in a def's body nothing is shown -/
theorem Inv.quiet {pins : List (Addr × Obj)} {σ : St} {H : Hp} {s : Shared} (I : Inv X pins σ H s) : interactive X.env = false := by simp [interactive, I.ok.kind]
/-- an expression whose value is dropped -/
def tDrop (te : TE) : TS := fun D σ H => te σ H fun _ H1 => D.nx σ H1
theorem ps_expr (he : PE X e te) (hs : swapsWith e none pos.line X.env = pure false := by rfl) : PS X (.Expr e pos) (tDrop te) := by
  intro pins s σ H D I h
  exact wpAny_Expr_any (thn (he pins s σ H _ I h) fun v s1 ⟨x, H1, I1, r1, q1⟩ => ⟨σ, H1, I1, q1⟩) I.quiet hs
def tRet (te : TE) : TS := fun D σ H => te σ H D.rt
theorem ps_ret (he : PE X e te) : PS X (.Return (some e) pos) (tRet te) := by
  intro pins s σ H D I h
  exact wpAny_Return_some (thn (he pins s σ H _ I h) fun v s1 ⟨x, H1, I1, r1, q1⟩ => ⟨x, σ, H1, I1, r1, q1⟩)
def tIfS (c : TT) (t u : TS) : TS := fun D σ H => c σ H fun b H1 => if b = true then t D σ H1 else u D σ H1
theorem ps_if {c : Expr} {a b : List Stmt} {tc : TT} (hc : PT X c tc) (ha : PSs X a t) (hb : PSs X b u) : PS X (.If c a b pos) (tIfS tc t u) := by
  intro pins s σ H D I h
  refine wpAny_If (thn (hc pins s σ H _ I h) fun d s1 ⟨H1, I1, q1⟩ => ?_)
  cases d with
  | true => exact ha pins s1 σ H1 D I1 q1
  | false => exact hb pins s1 σ H1 D I1 q1
/-- code that the proof never comes to -/
def tNever : TS := fun _ _ _ => False
theorem pss_never {sts : List Stmt} : PSs X sts tNever := fun _ _ _ _ _ _ h => h.elim
end

/-! ### targets -/
abbrev TG := V → St → Hp → (St → Hp → Prop) → Prop
abbrev TGs := List V → St → Hp → (St → Hp → Prop) → Prop
def PG (X : Cx) (target : Expr) (t : TG) : Prop :=
  ∀ (pins : List (Addr × Obj)) (s : Shared) (σ : St) (H : Hp) (v : V) (u : Value) (Q : St → Hp → Prop), Inv X pins σ H s → RelV v u → t v σ H Q →
    wpAny (model X.prog X.w) X.A (assign target X.env u) (fun _ s' => ∃ σ' H', Inv X pins σ' H' s' ∧ Q σ' H') X.xe s
/-- several targets, one after another -/
def PGs (X : Cx) (ts : List Expr) (t : TGs) : Prop :=
  ∀ (pins : List (Addr × Obj)) (s : Shared) (σ : St) (H : Hp) (vs : List V) (us : List Value) (Q : St → Hp → Prop), Inv X pins σ H s → Vals vs us → t vs σ H Q →
    wpAny (model X.prog X.w) X.A (assignInOrder ((assignEach ts X.env).map (·.2)) us) (fun _ s' => ∃ σ' H', Inv X pins σ' H' s' ∧ Q σ' H') X.xe s
/-- o[i] = v, by values -/
abbrev TSet := V → V → V → Hp → (Hp → Prop) → Prop
def PSet (X : Cx) (t : TSet) : Prop :=
  ∀ (pins : List (Addr × Obj)) (s : Shared) (σ : St) (H : Hp) (o i v : V) (ov iv u : Value) (Q : Hp → Prop), Inv X pins σ H s → RelV o ov → RelV i iv → RelV v u → t o i v H Q →
    wpAny (model X.prog X.w) X.A (setItem ov iv u) (fun _ s' => ∃ H', Inv X pins σ H' s' ∧ Q H') X.xe s
section
variable {X : Cx} {pos : Pos}
def gName (i : Nat) : TG := fun v σ H Q => Q (σ.set i (some v)) H
theorem pg_name {i : Nat} {x : Str} (hN : X.N.Nodup) (hi : X.N[i]? = some x) (hx : Loc X.env.scope x) (hf : X.fn x = true ∨ X.env.scope.names.lookup x = some .local := by first | exact .inl rfl | exact .inr rfl | assumption) : PG X (.Name x pos) (gName i) := by
  intro pins s σ H v u Q I r h
  exact wpAny_assign_Name (store_ok I hN hi hx r (fun s' I' => ⟨_, H, I', h⟩) hf)
def gNil : TGs := fun vs σ H Q => vs = [] ∧ Q σ H
def gCons (t : TG) (u : TGs) : TGs := fun vs σ H Q => ∃ v r, vs = v :: r ∧ t v σ H fun σ' H' => u r σ' H' Q
theorem pgs_nil : PGs X [] gNil := by
  intro pins s σ H vs us Q I r h
  obtain ⟨e, h⟩ := h
  subst e
  cases r
  exact assignInOrder_nil ⟨σ, H, I, h⟩
theorem pgs_cons {e : Expr} {es : List Expr} {t : TG} {u : TGs} (h1 : PG X e t) (h2 : PGs X es u)
    (hs : (assignEach (e :: es) X.env).map (·.2) = assign e X.env :: (assignEach es X.env).map (·.2) := by rfl) : PGs X (e :: es) (gCons t u) := by
  intro pins s σ H vs us Q I r h
  obtain ⟨v, vr, e1, h⟩ := h
  subst e1
  cases r with
  | cons r rr =>
    rw [hs]
    refine assignInOrder_cons (thn (h1 pins s σ H _ _ _ I r h) fun _ s1 ⟨σ1, H1, I1, q1⟩ => ?_)
    exact h2 pins s1 σ1 H1 _ _ Q I1 rr q1
/-- (a, b, ..) = a tuple of that length -/
def gTup (K : PySem.W.Frag) (n : Nat) (t : TGs) : TG := fun v σ H Q => ∃ a xs, v = .ref a ∧ SqT K H a xs ∧ xs.length = n ∧ t xs σ H Q
theorem pg_tup {es : List Expr} {k : Nat} {t : TGs} {n : Nat} (hc : X.calm = true) (h : PGs X es t)
    (hn : (assignEach es X.env).length = n := by rfl) (hst : (assignEach es X.env).findIdx? (·.1) = none := by rfl) : PG X (.Tuple es k pos) (gTup X.K n t) := by
  intro pins s σ H v u Q I r hw
  obtain ⟨a, xs, e1, hq, hl, hw⟩ := hw
  subst e1
  cases r
  obtain ⟨its, rv, ht, hz⟩ := I.tuple hq
  refine assign_Tuple_tuple (I.ok.hd hc) ht (by simp [hn, ← hl, rv.length]) hst fun h' hx => ?_
  have I1 : Inv X pins σ H { s with heap := h' } := I.kept (t' := s.toks) fun b o e => hx b o (Nat.ne_of_lt (Heap.lt_size e)) e
  exact h pins _ σ H xs _ Q I1 (by simpa using rv) hw
/-- o[i] = .. -/
def gSub (to ti : TE) (t : TSet) : TG := fun v σ H Q => to σ H fun o H1 => ti σ H1 fun i H2 => t o i v H2 fun H3 => Q σ H3
theorem pg_sub {o i : Expr} {to ti : TE} {t : TSet} (ho : PE X o to) (hi : PE X i ti) (hs : PSet X t)
    (ha : ∀ v, assign (.Subscript o i pos) X.env v = (do
      let ov ← holding [v] (eval o X.env)
      let iv ← holding [v, ov] (eval i X.env)
      standAt pos
      holding [v, ov, iv] (setItem ov iv v)
      release [v, ov, iv] []) := by intro _; rfl) : PG X (.Subscript o i pos) (gSub to ti t) := by
  intro pins s σ H v u Q I r h
  rw [ha]
  refine wpAny_bind (wpAny_holding (thn (ho pins s σ H _ I h) fun ov s1 ⟨x, H1, I1, r1, q1⟩ => ?_))
  refine wpAny_bind (wpAny_holding (thn (hi pins s1 σ H1 _ I1 q1) fun iv s2 ⟨y, H2, I2, r2, q2⟩ => ?_))
  refine wpAny_bind (wpAny_standAt (wpAny_bind (wpAny_holding (thn (hs pins s2 σ H2 x y v ov iv u _ I2 r1 r2 r q2) fun _ s3 ⟨H3, I3, q3⟩ => ?_))))
  exact wpAny_release ⟨σ, H3, I3, q3⟩
/-- target = value -/
def tAsg (te : TE) (g : TG) : TS := fun D σ H => te σ H fun x H1 => g x σ H1 D.nx
theorem ps_asg {tg e : Expr} {te : TE} {g : TG} (he : PE X e te) (hg : PG X tg g) (hs : swapsWithSole [tg] e pos.line X.env = pure false := by rfl) (hw : swappedStores [tg] e X.env = pure none := by rfl)
    (h1 : (assignEach [tg] X.env).map (·.2) = [assign tg X.env] := by rfl) : PS X (.Assign [tg] e pos) (tAsg te g) := by
  intro pins s σ H D I h
  refine wpAny_Assign_stores (thn (he pins s σ H _ I h) fun v s1 ⟨x, H1, I1, r1, q1⟩ => ?_) hs hw
  rw [h1]
  exact thn (hg pins s1 σ H1 x v _ I1 r1 q1) fun _ s2 q => q
/-- name = value -/
theorem ps_set {i : Nat} {x : Str} {e : Expr} {te : TE} {pos' : Pos} (hN : X.N.Nodup) (hi : X.N[i]? = some x) (hx : Loc X.env.scope x) (he : PE X e te) (hs : swapsWith e (some (.Name x pos')) pos.line X.env = pure false := by rfl) (hf : X.fn x = true ∨ X.env.scope.names.lookup x = some .local := by first | exact .inl rfl | exact .inr rfl | assumption) :
    PS X (.Assign [.Name x pos'] e pos) (tAsg te (gName i)) := by
  intro pins s σ H D I h
  refine wpAny_Assign_Name (thn (he pins s σ H _ I h) fun v s1 ⟨y, H1, I1, r1, q1⟩ => ?_) hs
  exact store_ok I1 hN hi hx r1 (fun s2 I2 => ⟨_, H1, I2, q1⟩) hf
end

/-! ### while -/
section
variable {X : Cx} {pos : Pos}
/-- the invariant W with its measure -/
def tWhile (c : TT) (tb : TS) : TS := fun D σ H => ∃ W : Nat → St → Hp → Prop, (∃ m, W m σ H) ∧ ∀ m σ H, W m σ H →
  c σ H fun b H1 => if b = true then ∃ N : St → Hp → Prop, (∀ σ' H', N σ' H' → ∃ m', m' < m ∧ W m' σ' H') ∧ tb { D with nx := N, ct := N, bk := D.nx } σ H1 else D.nx σ H1
theorem ps_while {c : Expr} {body : List Stmt} {tc : TT} {tb : TS} (hp : PassesOwn (model X.prog X.w) X.A X.env X.xe) (hc : PT X c tc) (hb : PSs X body tb) : PS X (.While c body [] pos) (tWhile tc tb) := by
  intro pins s σ H D I h
  obtain ⟨W, ⟨m0, w0⟩, turn⟩ := h
  refine wpAny_While (codeAny_whileLoop (fun n s' => ∃ σ' H', Inv X pins σ' H' s' ∧ W n σ' H') ?_ m0 ⟨σ, H, I, w0⟩)
  rintro n s1 ⟨σ1, H1, I1, w1⟩
  refine wpAny_passesOwn hp (thn (hc pins s1 σ1 H1 _ I1 (turn n σ1 H1 w1)) fun b s2 ⟨H2, I2, q2⟩ => ?_)
  cases b with
  | true =>
    obtain ⟨N, hN, q2⟩ := q2
    rw [if_pos rfl]
    refine wpAny_passesOwn hp (thn (hb pins s2 σ1 H2 _ I2 q2) fun f s3 q3 => ?_)
    cases f with
    | next =>
      obtain ⟨σ3, H3, I3, n3⟩ := q3
      obtain ⟨m', hm, w3⟩ := hN σ3 H3 n3
      exact ⟨m', hm, σ3, H3, I3, w3⟩
    | cont =>
      obtain ⟨σ3, H3, I3, n3⟩ := q3
      obtain ⟨m', hm, w3⟩ := hN σ3 H3 n3
      exact ⟨m', hm, σ3, H3, I3, w3⟩
    | brk => exact q3
    | ret v => exact q3
  | false =>
    rw [if_neg Bool.false_ne_true]
    exact wpAny_execs_nil ⟨σ1, H2, I2, q2⟩
end

/-! ### what a loop or a comprehension walks -/
/-- at turn i: it yields x (the heap may grow), or it stops -/
structure It where
  go : Nat → Hp → Prop
  yld : Nat → Hp → V → Hp → Prop
  stop : Nat → Hp → Prop
/-- the iterator's own objects may turn: they are not the frame's, not pinned, younger than the entry (or a comprehension's own) -/
def FpOk (X : Cx) (pins : List (Addr × Obj)) (H : Hp) (b : Addr) : Prop :=
  H b = none ∧ b ≠ X.env.locals ∧ b ∉ X.fs ∧ (b ∈ X.ex ∨ X.s₀.heap.objs.size ≤ b) ∧ (∀ x c, X.env.cells.lookup x = some c → c ≠ b) ∧ ∀ p ∈ X.pn ++ pins, p.1 ≠ b
theorem Inv.fpOk {X : Cx} {pins : List (Addr × Obj)} {σ : St} {H H' : Hp} {s : Shared} {b : Addr} (I : Inv X pins σ H s) (hb : s.heap.objs.size ≤ b) (hn : H' b = none) : FpOk X pins H' b := by
  refine ⟨hn, Nat.ne_of_gt (Nat.lt_of_lt_of_le I.lt hb), I.nofs hb, .inr (Nat.le_trans I.sz hb), fun x c e z => ?_, fun p hp z => ?_⟩
  · obtain ⟨v, q⟩ := I.cell x c e
    exact absurd (Nat.lt_of_lt_of_le q.lt (by rw [z]; exact hb)) (Nat.lt_irrefl _)
  · exact absurd (Nat.lt_of_lt_of_le (Heap.lt_size (I.pin p hp).1) (by rw [z]; exact hb)) (Nat.lt_irrefl _)
structure Turn (P : Program) (w : World) (K : PySem.W.Frag) (tg : Expr) (J : It) (fp : List Addr) (it : Addr) (tn : Nat → Heap → Prop) : Prop where
  mem : it ∈ fp
  obj : ∀ i h, tn i h → ∀ b ∈ fp, ∃ o, h.get? b = some o ∧ ∀ v, o.data ≠ .cell v
  keep : ∀ i h h', tn i h → (∀ b ∈ fp, ∀ o, h.get? b = some o → h'.get? b = some o) → tn i h'
  item : ∀ (X : Cx), X.prog = P → X.w = w → X.K = K → X.calm = true → ∀ (i : Nat) (pins : List (Addr × Obj)) (s : Shared) (σ : St) (H : Hp) (E : Value → Shared → Prop), Inv X pins σ H s → (∀ b ∈ fp, FpOk X pins H b) → tn i s.heap → J.go i H →
    wpAny (model P w) X.A (pyNext (.ref it)) (fun r s1 => ∃ u, r = some u ∧
      wpAny (model P w) X.A (letOwnedTupleGo tg (.ref it) u) (fun _ s2 => ∃ x H', Inv X pins σ H' s2 ∧ RelV x u ∧ J.yld i H x H' ∧ tn (i + 1) s2.heap ∧ ∀ b ∈ fp, H' b = none) E s1) E s
  done : ∀ (X : Cx), X.prog = P → X.w = w → X.K = K → X.calm = true → ∀ (i : Nat) (pins : List (Addr × Obj)) (s : Shared) (σ : St) (H : Hp) (E : Value → Shared → Prop), Inv X pins σ H s → (∀ b ∈ fp, FpOk X pins H b) → tn i s.heap → J.stop i H →
    wpAny (model P w) X.A (pyNext (.ref it)) (fun r s1 => r = none ∧ Inv X pins σ H s1) E s
  self : ∀ (A : Around) (i : Nat) (s : Shared) (Q : Value → Shared → Prop) (E : Value → Shared → Prop), tn i s.heap → Q (.ref it) s → wpAny (model P w) A (pyIter (.ref it)) Q E s
abbrev TI := St → Hp → (It → Hp → Prop) → Prop
/-- an iterator has come -/
def PIE (X : Cx) (pins : List (Addr × Obj)) (σ : St) (tg : Expr) (R : It → Hp → Prop) (itv : Value) (s2 : Shared) : Prop :=
  ∃ (it : Addr) (fp : List Addr) (tn : Nat → Heap → Prop) (J : It) (H' : Hp), itv = .ref it ∧ Inv X pins σ H' s2 ∧ Turn X.prog X.w X.K tg J fp it tn ∧ tn 0 s2.heap ∧ (∀ b ∈ fp, FpOk X pins H' b) ∧ R J H'
def PI (X : Cx) (tg iter : Expr) (wi : TI) : Prop :=
  ∀ (pins : List (Addr × Obj)) (s : Shared) (σ : St) (H : Hp) (R : It → Hp → Prop), Inv X pins σ H s → wi σ H R →
    wpAny (model X.prog X.w) X.A (eval iter X.env) (fun v s1 => wpAny (model X.prog X.w) X.A (pyIter v) (PIE X pins σ tg R) X.xe s1) X.xe s

/-- the step ahead of the store is nothing for an iterator that keeps no tuple -/
theorem go_of {M : Model} {A : Around} {E : Value → Shared → Prop} {s : Shared} {tg : Expr} {it : Addr} {u : Value} {o : Obj} {n : String} {vs : Array Value} {Q : Unit → Shared → Prop} (ho : s.heap.get? it = some o) (hc : o.cls = .type n) (hd : o.data = .fields vs)
    (hn : ["enumerate", "zip", "dict_itemiterator", "dict_reverseitemiterator", "odict_iterator", "itertools.zip_longest", "itertools.pairwise"].contains n = false) (hQ : Q () s) : wpAny M A (letOwnedTupleGo tg (.ref it) u) Q E s := by
  unfold letOwnedTupleGo
  cases tg <;> first
    | exact wpAny_pure hQ
    | (cases u <;> first
        | exact wpAny_pure hQ
        | (refine wpAny_bind (wpAny_load ho ?_)
           rw [hc, hd]
           show wpAny M A (if (["enumerate", "zip", "dict_itemiterator", "dict_reverseitemiterator", "odict_iterator", "itertools.zip_longest", "itertools.pairwise"].contains n && vs[0]? == some (rawInt _)) = true then _ else _) Q E s
           rw [if_neg (by intro h; rw [hn, Bool.false_and] at h; cases h)]
           exact wpAny_pure hQ))

/-- the list at a, as it stands at each turn (a loop may append to it) -/
def Itl (K : PySem.W.Frag) (a : Addr) : It :=
  ⟨fun i H => ∃ xs x, SqL K H a xs ∧ xs[i]? = some x, fun i H x H' => H' = H ∧ ∀ xs, SqL K H a xs → xs[i]? = some x, fun i H => ∃ xs, SqL K H a xs ∧ xs.length ≤ i⟩
/-- lo, lo + 1, .. (n of them) -/
def Itr (lo : Int) (n : Nat) : It := ⟨fun i _ => i < n, fun i H x H' => H' = H ∧ x = .int (lo + i), fun i _ => n ≤ i⟩
theorem turn_list {P : Program} {w : World} {K : PySem.W.Frag} {tg : Expr} (a it : Addr) : Turn P w K tg (Itl K a) [it] it (fun i h => h.IsListIter it a i) where
  mem := by simp
  obj := fun i h st b hb => by
    have e : b = it := by simpa using hb
    subst e
    obtain ⟨o, e, c, d⟩ := st
    exact ⟨o, e, fun v z => by rw [d] at z; cases z⟩
  keep := fun i h h' st k => st.at fun o e => k it (by simp) o e
  item := by
    intro X hP hw hK hc i pins s σ H E I hf st hg
    subst hP hw hK
    obtain ⟨xs, x, hq, hx⟩ := hg
    obtain ⟨its, rv, p, hz⟩ := I.list hq
    obtain ⟨u, hu, ru⟩ := rv.get hx
    obtain ⟨f0, f1, f2, f3, f4, f5⟩ := hf it (by simp)
    refine wpAny_pyNext_list_item st p.isList (x := u) (by simpa using hu) fun h' st' sb => ?_
    have I1 : Inv X pins σ H { s with heap := h' } := I.turned (t' := s.toks) (fun b o hb e => (sb.2 b hb).trans e) f0 f1 f3 f4 f5
    obtain ⟨o, e, c, d⟩ := id st'
    exact ⟨u, rfl, go_of (s := { s with heap := h' }) e c d (by decide) ⟨x, H, I1, ru, ⟨rfl, fun ys hy => by rw [I.list_inj hy hq]; exact hx⟩, st', fun b hb => (hf b hb).1⟩⟩
  done := by
    intro X hP hw hK hc i pins s σ H E I hf st hg
    subst hP hw hK
    obtain ⟨xs, hq, hx⟩ := hg
    obtain ⟨its, rv, p, hz⟩ := I.list hq
    obtain ⟨f0, f1, f2, f3, f4, f5⟩ := hf it (by simp)
    have hl := rv.length
    exact wpAny_pyNext_list_end (I.ok.hd hc) st p.isList (by simp; omega) fun h' eb => ⟨rfl, I.turned (t' := s.toks) (fun b o hb e => eb b o hb e) f0 f1 f3 f4 f5⟩
  self := fun _ _ _ _ _ st h => wpAny_pyIter_listiter st h
theorem turn_range {P : Program} {w : World} {K : PySem.W.Frag} {tg : Expr} (it : Addr) (lo : Int) (n : Nat) : Turn P w K tg (Itr lo n) [it] it (fun i h => IsRangeIter h it (lo + (i : Nat) * 1) ((n : Int) - (i : Nat)) 1) where
  mem := by simp
  obj := fun i h st b hb => by
    have e : b = it := by simpa using hb
    subst e
    exact ⟨_, st, fun v z => by
      have z' : Data.fields _ = Data.cell v := z
      cases z'⟩
  keep := fun i h h' st k => k it (by simp) _ st
  item := by
    intro X hP hw hK hc i pins s σ H E I hf st hg
    subst hP hw hK
    obtain ⟨f0, f1, f2, f3, f4, f5⟩ := hf it (by simp)
    have W := Walks.range (prog := X.prog) (w := X.w) (I.ok.hd hc) it lo 1 n
    refine W.item i s _ _ hg st fun v h' tk hv st' kk => ?_
    obtain ⟨t, rfl⟩ := hv
    have I1 : Inv X pins σ H { s with heap := h', toks := tk } := I.turned (fun b o hb e => kk b o (by simpa using hb) e) f0 f1 f3 f4 f5
    refine ⟨_, rfl, go_of (s := { s with heap := h', toks := tk }) (n := "range_iterator") st' rfl rfl (by decide) ⟨.int (lo + i), H, I1, ⟨t, ?_⟩, ⟨rfl, rfl⟩, st', fun b hb => (hf b hb).1⟩⟩
    rw [Int.mul_one]
  done := by
    intro X hP hw hK hc i pins s σ H E I hf st hg
    subst hP hw hK
    obtain ⟨f0, f1, f2, f3, f4, f5⟩ := hf it (by simp)
    exact wpAny_pyNext_range_end (I.ok.hd hc) st (by have : n ≤ i := hg; omega) fun h' eb => ⟨rfl, I.turned (t' := s.toks) (fun b o hb e => eb b o hb e) f0 f1 f3 f4 f5⟩
  self := fun _ _ _ _ _ st h => wpAny_pyIter_rangeiter st h
end L2

namespace L2
open PySem PySem.Spec PyProof.Rows
section
variable {X : Cx} {tg : Expr}
def iList (K : PySem.W.Frag) (tl : TE) : TI := fun σ H R => tl σ H fun x H1 => ∃ a, x = .ref a ∧ (∃ xs, SqL K H1 a xs) ∧ R (Itl K a) H1
theorem pi_list {l : Expr} {tl : TE} (hl : PE X l tl) : PI X tg l (iList X.K tl) := by
  intro pins s σ H R I h
  refine thn (hl pins s σ H _ I h) fun v s1 ⟨x, H1, I1, r1, q1⟩ => ?_
  obtain ⟨a, e, ⟨xs, hq⟩, q⟩ := q1
  subst e
  cases r1
  obtain ⟨its, rv, p, hz⟩ := I1.list hq
  refine wpAny_pyIter_list p.isList ?_
  refine ⟨s1.heap.objs.size, [s1.heap.objs.size], _, _, H1, rfl, I1.kept (t' := s1.toks) fun b o e => Heap.get?_push_of_some _ e, turn_list a _, ⟨_, Heap.get?_push_size _ rfl, rfl, rfl⟩, fun b hb => ?_, q⟩
  have e : b = s1.heap.objs.size := by simpa using hb
  subst e
  exact I1.fpOk (Nat.le_refl _) (I1.hok.fresh (Nat.le_refl _))
/-- a range object just made, walked -/
theorem range_it {pins : List (Addr × Obj)} {σ : St} {H : Hp} {s : Shared} {R : It → Hp → Prop} {E : Value → Shared → Prop} {lo hi : Int} {t u v : Tok} {tk : Nat} (I : Inv X pins σ H s) (h1 : -(2 ^ 62) ≤ lo) (h2 : lo < 2 ^ 62) (h3 : -(2 ^ 62) ≤ hi) (h4 : hi < 2 ^ 62)
    (q : R (Itr lo (hi - lo).toNat) H) : wpAny (model X.prog X.w) X.A (pyIter (.ref s.heap.objs.size)) (PIE X pins σ tg R) E { s with heap := s.heap.push { cls := .type "range", data := .fields #[.int lo t, .int hi u, .int 1 v] }, toks := tk } := by
  refine wpAny_pyIter_range (IsRange.new ..) (small_one h1 h2 h3 h4) ?_
  have I1 : Inv X pins σ H { s with heap := s.heap.push { cls := .type "range", data := .fields #[.int lo t, .int hi u, .int 1 v] }, toks := tk } := I.kept fun b o e => Heap.get?_push_of_some _ e
  refine ⟨(s.heap.push { cls := .type "range", data := .fields #[.int lo t, .int hi u, .int 1 v] }).objs.size, [(s.heap.push { cls := .type "range", data := .fields #[.int lo t, .int hi u, .int 1 v] }).objs.size], _, _, H, rfl,
    I1.kept (t' := tk) fun b o e => Heap.get?_push_of_some _ e, turn_range _ lo (hi - lo).toNat, ?_, fun b hb => ?_, q⟩
  · have e1 : lo + ((0 : Nat) : Int) * 1 = lo := by simp
    have e2 : (((hi - lo).toNat : Nat) : Int) - ((0 : Nat) : Int) = Builtin.Range.rangeSize lo hi 1 := by rw [rangeSize_one]; split <;> omega
    show IsRangeIter _ _ (lo + ((0 : Nat) : Int) * 1) ((((hi - lo).toNat : Nat) : Int) - ((0 : Nat) : Int)) 1
    rw [e1, e2]
    exact Heap.get?_push_size _ rfl
  · have e : b = (s.heap.push { cls := .type "range", data := .fields #[.int lo t, .int hi u, .int 1 v] }).objs.size := by simpa using hb
    subst e
    exact I1.fpOk (Nat.le_refl _) (I1.hok.fresh (Nat.le_refl _))
def iRng1 (ta : TA) : TI := fun σ H R => ta σ H fun vs H1 => ∃ j : Int, vs = [.int j] ∧ -(2 ^ 62) ≤ j ∧ j < 2 ^ 62 ∧ R (Itr 0 j.toNat) H1
def iRng2 (ta : TA) : TI := fun σ H R => ta σ H fun vs H1 => ∃ i j : Int, vs = [.int i, .int j] ∧ (-(2 ^ 62) ≤ i ∧ i < 2 ^ 62 ∧ -(2 ^ 62) ≤ j ∧ j < 2 ^ 62) ∧ R (Itr i (j - i).toNat) H1
theorem pi_range1 {a : Expr} {ta : TA} {p pos : Pos} (hg : Gl X "range") (hm : X.mg "range" = none) (ha : PA X [a] ta) (hs : starEach [a] X.env = [(false, eval a X.env)] := by rfl) : PI X tg (.Call (.Name "range" p) [a] [] pos) (iRng1 ta) := by
  intro pins s σ H R I h
  refine Call_ (ld_blt I hg hm boot_range (PyProof.Rows.callWith_type1 (thn (ha pos pins s σ H _ I h) fun us s1 ⟨vs, H1, I1, r1, q1⟩ => ?_) hs rfl))
  obtain ⟨j, e, q1, q2, q⟩ := q1
  subst e
  cases r1 with
  | cons r rr =>
    cases rr
    obtain ⟨t, rfl⟩ := r
    exact call_range_1 (range_it I1 (by omega) (by omega) q1 q2 (by simpa using q))
theorem pi_range2 {a b : Expr} {ta : TA} {p pos : Pos} (hg : Gl X "range") (hm : X.mg "range" = none) (ha : PA X [a, b] ta) (hs : starEach [a, b] X.env = [(false, eval a X.env), (false, eval b X.env)] := by rfl) (hs2 : starEach [b] X.env = [(false, eval b X.env)] := by rfl) :
    PI X tg (.Call (.Name "range" p) [a, b] [] pos) (iRng2 ta) := by
  intro pins s σ H R I h
  refine Call_ (ld_blt I hg hm boot_range (PyProof.Rows.callWith_type1 (thn (ha pos pins s σ H _ I h) fun us s1 ⟨vs, H1, I1, r1, q1⟩ => ?_) (by rw [hs, hs2]) (by rw [hs2]; rfl)))
  obtain ⟨i, j, e, ⟨q1, q2, q3, q4⟩, q⟩ := q1
  subst e
  cases r1 with
  | cons r rr =>
    cases rr with
    | cons r' rr =>
      cases rr
      obtain ⟨t, rfl⟩ := r
      obtain ⟨t', rfl⟩ := r'
      exact call_range_2 (range_it I1 q1 q2 q3 q4 q)

/-! ### for -/
/-- W: the invariant by the turn and a measure; N: what the body is to reach -/
def tFor (wi : TI) (g : TG) (tb : TS) : TS := fun D σ H => wi σ H fun J H1 => ∃ W : Nat → Nat → St → Hp → Prop, (∃ m, W 0 m σ H1) ∧ ∀ i m σ H, W i m σ H →
  (J.stop i H ∧ D.nx σ H) ∨ (J.go i H ∧ ∃ N : St → Hp → Prop, (∀ σ' H', N σ' H' → ∃ m', m' < m ∧ W (i + 1) m' σ' H') ∧ ∀ x H', J.yld i H x H' → g x σ H' fun σ2 H2 => tb { D with nx := N, ct := N, bk := D.nx } σ2 H2)
/-- the records at fp as they stand -/
def pinsAt (fp : List Addr) (h : Heap) : List (Addr × Obj) := fp.filterMap fun b => (h.get? b).map fun o => (b, o)
theorem mem_pinsAt {fp : List Addr} {h : Heap} {b : Addr} {o : Obj} (hb : b ∈ fp) (e : h.get? b = some o) : (b, o) ∈ pinsAt fp h := List.mem_filterMap.mpr ⟨b, hb, by rw [e]; rfl⟩
theorem of_pinsAt {fp : List Addr} {h : Heap} {p : Addr × Obj} (hp : p ∈ pinsAt fp h) : p.1 ∈ fp ∧ h.get? p.1 = some p.2 := by
  obtain ⟨b, hb, e⟩ := List.mem_filterMap.mp hp
  cases q : h.get? b with
  | none => rw [q] at e; cases e
  | some o =>
    rw [q] at e
    have e' : (b, o) = p := Option.some.inj e
    subst e'
    exact ⟨hb, q⟩
theorem Inv.pinned {pins : List (Addr × Obj)} {σ : St} {H : Hp} {s : Shared} {fp : List Addr} (I : Inv X pins σ H s) (hf : ∀ b ∈ fp, FpOk X pins H b) (ho : ∀ b ∈ fp, ∃ o, s.heap.get? b = some o ∧ ∀ v, o.data ≠ .cell v) : Inv X (pins ++ pinsAt fp s.heap) σ H s :=
  I.pins_of fun p hp => (List.mem_append.mp hp).elim (fun z => I.pin p (List.mem_append_right _ z)) fun z => by
    obtain ⟨hb, e⟩ := of_pinsAt z
    obtain ⟨f0, f1, f2, _⟩ := hf p.1 hb
    obtain ⟨o, e', d⟩ := ho p.1 hb
    rw [e] at e'; cases e'
    exact ⟨e, f0, f1, f2, d⟩
theorem Inv.unpinned {pins pl : List (Addr × Obj)} {σ : St} {H : Hp} {s : Shared} (I : Inv X (pins ++ pl) σ H s) : Inv X pins σ H s := I.pins_of fun p hp => I.pin p (List.mem_append_right _ (List.mem_append_left _ hp))
theorem ps_for {iter : Expr} {body : List Stmt} {wi : TI} {g : TG} {tb : TS} {pos : Pos} (hp : PassesOwn (model X.prog X.w) X.A X.env X.xe) (hc : X.calm = true) (hi : PI X tg iter wi) (hg : PG X tg g) (hb : PSs X body tb)
    (hs : ∀ x, foldedSetIterable iter X.env x = pure x := by intro _; rfl) : PS X (.For tg iter body [] pos) (tFor wi g tb) := by
  intro pins s σ H D I h
  refine wpAny_For (thn (hi pins s σ H _ I h) fun v s1 h1 => thn h1 fun itv s2 h2 => ?_) hs
  obtain ⟨it, fp, tn, J, H2, e, I2, T, st2, f2, W, ⟨m0, w0⟩, turn⟩ := h2
  subst e
  -- what stays true of the iterator's objects through the loop
  have stat : ∀ {H' : Hp}, (∀ b ∈ fp, H' b = none) → ∀ b ∈ fp, FpOk X pins H' b := fun hn b hb => ⟨hn b hb, (f2 b hb).2⟩
  refine codeAny_forLoop_any (fun n s' => ∃ i σ' H', Inv X pins σ' H' s' ∧ tn i s'.heap ∧ (∀ b ∈ fp, H' b = none) ∧ W i n σ' H') ?_ m0 ⟨0, σ, H2, I2, st2, fun b hb => (f2 b hb).1, w0⟩
  rintro n s3 ⟨i, σ3, H3, I3, st3, fr3, w3⟩
  rcases turn i n σ3 H3 w3 with ⟨stop, qn⟩ | ⟨go, N, hN, step⟩
  · refine wpAny_passesOwn hp (thn (T.done X rfl rfl rfl hc i pins s3 σ3 H3 X.xe I3 (stat fr3) st3 stop) fun r s4 ⟨hr, I4⟩ => ?_)
    subst hr
    exact wpAny_execs_nil ⟨σ3, H3, I4, qn⟩
  · refine wpAny_passesOwn hp (thn (T.item X rfl rfl rfl hc i pins s3 σ3 H3 X.xe I3 (stat fr3) st3 go) fun r s4 ⟨u, hr, h4⟩ => ?_)
    subst hr
    refine wpAny_passesOwn hp (thn h4 fun _ s5 ⟨x, H5, I5, r5, y5, st5, fr5⟩ => ?_)
    have I5' := I5.pinned (stat fr5) (T.obj _ _ st5)
    refine wpAny_passesOwn hp (thn (hg _ s5 σ3 H5 x u _ I5' r5 (step x H5 y5)) fun _ s6 ⟨σ6, H6, I6, q6⟩ => ?_)
    refine wpAny_passesOwn hp (thn (hb _ s6 σ6 H6 _ I6 q6) fun f s7 q7 => ?_)
    have again : ∀ {σ7 : St} {H7 : Hp}, Inv X (pins ++ pinsAt fp s5.heap) σ7 H7 s7 → N σ7 H7 → ∃ m, m < n ∧ ∃ i σ' H', Inv X pins σ' H' s7 ∧ tn i s7.heap ∧ (∀ b ∈ fp, H' b = none) ∧ W i m σ' H' := fun {σ7 H7} I7 n7 => by
      obtain ⟨m', hm, w7⟩ := hN σ7 H7 n7
      refine ⟨m', hm, i + 1, σ7, H7, I7.unpinned, T.keep _ _ _ st5 fun b hb o e => (I7.pin (b, o) (List.mem_append_right _ (List.mem_append_right _ (mem_pinsAt hb e)))).1, fun b hb => ?_, w7⟩
      obtain ⟨o, e, d⟩ := T.obj _ _ st5 b hb
      exact (I7.pin (b, o) (List.mem_append_right _ (List.mem_append_right _ (mem_pinsAt hb e)))).2.1
    cases f with
    | next => obtain ⟨σ7, H7, I7, n7⟩ := q7; exact again I7 n7
    | cont => obtain ⟨σ7, H7, I7, n7⟩ := q7; exact again I7 n7
    | brk => obtain ⟨σ7, H7, I7, q7⟩ := q7; exact ⟨σ7, H7, I7.unpinned, q7⟩
    | ret v => obtain ⟨x7, σ7, H7, I7, r7, q7⟩ := q7; exact ⟨x7, σ7, H7, I7.unpinned, r7, q7⟩
end

/-! ### the forms one uses -/
/-- over a list that the body leaves as it is -/
theorem for_list {K : PySem.W.Frag} {a : Addr} {xs : List V} {g : TG} {tb : TS} {D : Ends} {σ : St} {H : Hp} (Pv : Nat → St → Hp → Prop) (h0 : Pv 0 σ H) (hl : ∀ i σ H, i ≤ xs.length → Pv i σ H → SqL K H a xs)
    (hs : ∀ i x σ H, xs[i]? = some x → Pv i σ H → g x σ H fun σ2 H2 => tb { D with nx := Pv (i + 1), ct := Pv (i + 1), bk := D.nx } σ2 H2) (hd : ∀ σ H, Pv xs.length σ H → D.nx σ H) :
    ∃ W : Nat → Nat → St → Hp → Prop, (∃ m, W 0 m σ H) ∧ ∀ i m σ H, W i m σ H →
      ((Itl K a).stop i H ∧ D.nx σ H) ∨ ((Itl K a).go i H ∧ ∃ N : St → Hp → Prop, (∀ σ' H', N σ' H' → ∃ m', m' < m ∧ W (i + 1) m' σ' H') ∧ ∀ x H', (Itl K a).yld i H x H' → g x σ H' fun σ2 H2 => tb { D with nx := N, ct := N, bk := D.nx } σ2 H2) := by
  refine ⟨fun i m σ H => m = xs.length - i ∧ i ≤ xs.length ∧ Pv i σ H, ⟨xs.length, by simp, Nat.zero_le _, h0⟩, ?_⟩
  rintro i m σ H ⟨rfl, hi, p⟩
  have q := hl i σ H hi p
  by_cases hlt : i < xs.length
  · refine .inr ⟨⟨xs, xs[i], q, by simp [hlt]⟩, Pv (i + 1), fun σ' H' p' => ⟨xs.length - (i + 1), by omega, rfl, hlt, p'⟩, fun x H' y => ?_⟩
    obtain ⟨e, y⟩ := y
    subst e
    exact hs i x σ _ (y xs q) p
  · have e : i = xs.length := by omega
    subst e
    exact .inl ⟨⟨xs, q, Nat.le_refl _⟩, hd σ H p⟩
theorem for_range {lo : Int} {n : Nat} {g : TG} {tb : TS} {D : Ends} {σ : St} {H : Hp} (Pv : Nat → St → Hp → Prop) (h0 : Pv 0 σ H)
    (hs : ∀ i σ H, i < n → Pv i σ H → g (.int (lo + i)) σ H fun σ2 H2 => tb { D with nx := Pv (i + 1), ct := Pv (i + 1), bk := D.nx } σ2 H2) (hd : ∀ σ H, Pv n σ H → D.nx σ H) :
    ∃ W : Nat → Nat → St → Hp → Prop, (∃ m, W 0 m σ H) ∧ ∀ i m σ H, W i m σ H →
      ((Itr lo n).stop i H ∧ D.nx σ H) ∨ ((Itr lo n).go i H ∧ ∃ N : St → Hp → Prop, (∀ σ' H', N σ' H' → ∃ m', m' < m ∧ W (i + 1) m' σ' H') ∧ ∀ x H', (Itr lo n).yld i H x H' → g x σ H' fun σ2 H2 => tb { D with nx := N, ct := N, bk := D.nx } σ2 H2) := by
  refine ⟨fun i m σ H => m = n - i ∧ i ≤ n ∧ Pv i σ H, ⟨n, by simp, Nat.zero_le _, h0⟩, ?_⟩
  rintro i m σ H ⟨rfl, hi, p⟩
  by_cases hlt : i < n
  · refine .inr ⟨hlt, Pv (i + 1), fun σ' H' p' => ⟨n - (i + 1), by omega, rfl, hlt, p'⟩, fun x H' y => ?_⟩
    obtain ⟨e, y⟩ := y
    subst e y
    exact hs i σ _ hlt p
  · have e : i = n := by omega
    subst e
    exact .inl ⟨Nat.le_refl _, hd σ H p⟩
/-- while, by a word and a measure of the state -/
theorem while_by {c : TT} {tb : TS} {D : Ends} {σ : St} {H : Hp} (Pv : St → Hp → Prop) (μ : St → Hp → Nat) (h0 : Pv σ H)
    (hs : ∀ σ H, Pv σ H → c σ H fun b H1 => if b = true then tb { D with nx := fun σ' H' => Pv σ' H' ∧ μ σ' H' < μ σ H, ct := fun σ' H' => Pv σ' H' ∧ μ σ' H' < μ σ H, bk := D.nx } σ H1 else D.nx σ H1)
    (mono : ∀ σ H Q Q', (∀ b H1, Q b H1 → Q' b H1) → c σ H Q → c σ H Q') : tWhile c tb D σ H := by
  refine ⟨fun m σ H => m = μ σ H ∧ Pv σ H, ⟨_, rfl, h0⟩, ?_⟩
  rintro m σ H ⟨rfl, p⟩
  refine mono σ H _ _ (fun b H1 q => ?_) (hs σ H p)
  cases b with
  | true => exact ⟨_, fun σ' H' ⟨p', l⟩ => ⟨_, l, rfl, p'⟩, q⟩
  | false => exact q
end L2

namespace L2
open PySem PySem.Spec PyProof.Rows

abbrev R2 := V → V → Hp → VK → Prop
/-- a two-place operation on values: f is binaryOp op, inplaceOp op or compareOp op -/
def OpR (X : Cx) (f : Value → Value → Sem Value) (r : R2) : Prop :=
  ∀ (pins : List (Addr × Obj)) (s : Shared) (σ : St) (H : Hp) (x y : V) (v u : Value) (Q : VK), Inv X pins σ H s → RelV x v → RelV y u → r x y H Q →
    wpAny (model X.prog X.w) X.A (f v u) (EP X pins σ Q) X.xe s
/-- a one-place operation -/
def UnR (X : Cx) (f : Value → Sem Value) (r : V → Hp → VK → Prop) : Prop :=
  ∀ (pins : List (Addr × Obj)) (s : Shared) (σ : St) (H : Hp) (x : V) (v : Value) (Q : VK), Inv X pins σ H s → RelV x v → r x H Q →
    wpAny (model X.prog X.w) X.A (f v) (EP X pins σ Q) X.xe s
/-- a call of a value that is known (a builtin, a type) with values -/
def CallR (X : Cx) (f : Value) (r : List V → Hp → VK → Prop) : Prop :=
  ∀ (pins : List (Addr × Obj)) (s : Shared) (σ : St) (H : Hp) (xs : List V) (us : List Value) (Q : VK), Inv X pins σ H s → Vals xs us → r xs H Q →
    wpAny (model X.prog X.w) X.A (call f us) (EP X pins σ Q) X.xe s
def tOp (r : R2) (ta tb : TE) : TE := fun σ H Q => ta σ H fun x H1 => tb σ H1 fun y H2 => r x y H2 Q
def tUn (r : V → Hp → VK → Prop) (ta : TE) : TE := fun σ H Q => ta σ H fun x H1 => r x H1 Q
/-- ints in, under C, and a value out -/
def rI (C : Int → Int → Prop) (g : Int → Int → V) : R2 := fun x y H Q => ∃ i j, x = .int i ∧ y = .int j ∧ C i j ∧ Q (g i j) H
def rI0 (g : Int → Int → V) : R2 := fun x y H Q => ∃ i j, x = .int i ∧ y = .int j ∧ Q (g i j) H
def rU (g : Int → V) : V → Hp → VK → Prop := fun x H Q => ∃ i, x = .int i ∧ Q (g i) H

section
variable {X : Cx} {a b c : Expr} {ta tb tc : TE} {pos : Pos}

theorem binT (ha : PE X a ta) (hb : PE X b tb) {pins : List (Addr × Obj)} {s : Shared} {σ : St} {H : Hp} {R : V → V → Hp → Prop} (I : Inv X pins σ H s)
    (h : ta σ H fun x H1 => tb σ H1 fun y H2 => R x y H2) {Q : Value → Shared → Prop} {f : Value → Value → Sem Value}
    (hf : ∀ v u s2 x y H2, Inv X pins σ H2 s2 → RelV x v → RelV y u → R x y H2 → wpAny (model X.prog X.w) X.A (f v u) Q X.xe s2) :
    wpAny (model X.prog X.w) X.A (eval a X.env) (fun v s₁ => wpAny (model X.prog X.w) X.A (eval b X.env) (fun u s₂ => wpAny (model X.prog X.w) X.A (f v u) Q X.xe s₂) X.xe s₁) X.xe s := by
  refine thn (ha pins s σ H _ I h) fun v s1 ⟨x, H1, I1, r1, q1⟩ => ?_
  refine thn (hb pins s1 σ H1 _ I1 q1) fun u s2 ⟨y, H2, I2, r2, q2⟩ => ?_
  exact hf v u s2 x y H2 I2 r1 r2 q2

theorem pe_op {op : Operator} {r : R2} (ho : OpR X (binaryOp op) r) (ha : PE X a ta) (hb : PE X b tb) : PE X (.BinOp a op b pos) (tOp r ta tb) := by
  intro pins s σ H Q I h
  exact wpAny_BinOp (binT ha hb I h fun v u s2 x y H2 I2 rx ry q => ho pins s2 σ H2 x y v u Q I2 rx ry q)
theorem pe_un {op : UnaryOp} {r : V → Hp → VK → Prop} (ho : UnR X (unaryOp op) r) (ha : PE X a ta) : PE X (.UnaryOp op a pos) (tUn r ta) := by
  intro pins s σ H Q I h
  exact UnaryOp_ (thn (ha pins s σ H _ I h) fun v s1 ⟨x, H1, I1, r1, q1⟩ => ho pins s1 σ H1 x v Q I1 r1 q1)
/-! ### ints -/
theorem opI {f : Value → Value → Sem Value} {C : Int → Int → Prop} {g : Int → Int → Int}
    (rule : ∀ (i j : Int) (t u : Tok) (s : Shared) (Q : Value → Shared → Prop) (E : Value → Shared → Prop), C i j → Q (.int (g i j) s.toks) { s with toks := s.toks + 1 } → wpAny (model X.prog X.w) X.A (f (.int i t) (.int j u)) Q E s) :
    OpR X f (rI C fun i j => .int (g i j)) := by
  intro pins s σ H x y v u Q I rx ry h
  obtain ⟨i, j, rfl, rfl, hc, q⟩ := h
  obtain ⟨t, rfl⟩ := rx
  obtain ⟨t', rfl⟩ := ry
  exact rule i j t t' s _ _ hc ⟨.int (g i j), H, I.tok _, ⟨_, rfl⟩, q⟩
theorem opI0 {f : Value → Value → Sem Value} {g : Int → Int → Int}
    (rule : ∀ (i j : Int) (t u : Tok) (s : Shared) (Q : Value → Shared → Prop) (E : Value → Shared → Prop), Q (.int (g i j) s.toks) { s with toks := s.toks + 1 } → wpAny (model X.prog X.w) X.A (f (.int i t) (.int j u)) Q E s) :
    OpR X f (rI0 fun i j => .int (g i j)) := by
  intro pins s σ H x y v u Q I rx ry h
  obtain ⟨i, j, rfl, rfl, q⟩ := h
  obtain ⟨t, rfl⟩ := rx
  obtain ⟨t', rfl⟩ := ry
  exact rule i j t t' s _ _ ⟨.int (g i j), H, I.tok _, ⟨_, rfl⟩, q⟩
theorem opB0 {f : Value → Value → Sem Value} {g : Int → Int → Bool}
    (rule : ∀ (i j : Int) (t u : Tok) (s : Shared) (Q : Value → Shared → Prop) (E : Value → Shared → Prop), Q (.bool (g i j)) s → wpAny (model X.prog X.w) X.A (f (.int i t) (.int j u)) Q E s) :
    OpR X f (rI0 fun i j => .bl (g i j)) := by
  intro pins s σ H x y v u Q I rx ry h
  obtain ⟨i, j, rfl, rfl, q⟩ := h
  obtain ⟨t, rfl⟩ := rx
  obtain ⟨t', rfl⟩ := ry
  exact rule i j t t' s _ _ ⟨.bl (g i j), H, I, rfl, q⟩

def CDiv (i j : Int) : Prop := 0 < j ∧ j < 1073741824
def CPow (i j : Int) : Prop := 0 ≤ j ∧ j ≤ 1000000 ∧ i.natAbs < 2 ^ 64
def CMul (i j : Int) : Prop := (-(2 ^ 64) < i ∧ i < 2 ^ 64) ∨ (-(2 ^ 64) < j ∧ j < 2 ^ 64)
theorem CMul.ok {i j : Int} (h : CMul i j) : IntMulOk i j := by
  rcases h with ⟨h1, h2⟩ | ⟨h1, h2⟩
  · exact .of_left (intBits_le_64 h1 h2)
  · exact .of_right (intBits_le_64 h1 h2)
theorem two_pow_nn (k : Nat) : (0 : Int) ≤ 2 ^ k := by
  rw [two_pow_cast]
  exact Int.natCast_nonneg _

theorem op_add : OpR X (binaryOp .Add) (rI0 fun i j => .int (i + j)) := opI0 fun _ _ _ _ _ _ _ q => add_int q
theorem op_sub : OpR X (binaryOp .Sub) (rI0 fun i j => .int (i - j)) := opI0 fun _ _ _ _ _ _ _ q => sub_int q
theorem op_mul : OpR X (binaryOp .Mult) (rI CMul fun i j => .int (i * j)) := opI fun _ _ _ _ _ _ _ hc q => mul_int q hc.ok
/-- // by a positive divisor -/
theorem op_fdiv : OpR X (binaryOp .FloorDiv) (rI CDiv fun i j => .int (i / j)) := opI fun i j _ _ _ _ _ hc q => by
  have h1 : (0 : Int) < j := hc.1
  have h2 : j < 1073741824 := hc.2
  exact floordiv_int (by omega) (by rw [Int.fdiv_eq_ediv_of_nonneg i (by omega)]; exact q) (.inl (PyProof.noPylong_small (by omega)))
/-- % by a positive divisor of any size -/
theorem op_mod : OpR X (binaryOp .Mod) (rI (fun _ j => 0 < j) fun i j => .int (i % j)) := opI fun i j _ _ _ _ _ hc q => by
  have h1 : (0 : Int) < j := hc
  exact mod_int' (by omega) (by rw [Int.fmod_eq_emod_of_nonneg i (by omega)]; exact q)
theorem op_pow : OpR X (binaryOp .Pow) (rI CPow fun i j => .int (i ^ j.toNat)) := opI fun _ _ _ _ _ _ _ hc q => pow_int_small hc.1 hc.2.1 hc.2.2 q
theorem op_shr : OpR X (binaryOp .RShift) (rI (fun _ j => 0 ≤ j) fun i j => .int (i / 2 ^ j.toNat)) := opI fun i j _ _ _ _ _ hc q =>
  rshift_int hc (by rw [Int.fdiv_eq_ediv_of_nonneg i (two_pow_nn _)]; exact q)
theorem op_and : OpR X (binaryOp .BitAnd) (rI0 fun i j => .int (Builtin.bitAnd i j)) := opI0 fun _ _ _ _ _ _ _ q => and_int q
theorem unI {f : Value → Sem Value} {g : Int → Int}
    (rule : ∀ (i : Int) (t : Tok) (s : Shared) (Q : Value → Shared → Prop) (E : Value → Shared → Prop), Q (.int (g i) s.toks) { s with toks := s.toks + 1 } → wpAny (model X.prog X.w) X.A (f (.int i t)) Q E s) :
    UnR X f (rU fun i => .int (g i)) := by
  intro pins s σ H x v Q I rx h
  obtain ⟨i, rfl, q⟩ := h
  obtain ⟨t, rfl⟩ := rx
  exact rule i t s _ _ ⟨.int (g i), H, I.tok _, ⟨_, rfl⟩, q⟩
theorem un_neg : UnR X (unaryOp .USub) (rU fun i => .int (-i)) := unI fun _ _ _ _ _ q => neg_int q
/-! ### bools among ints: n += (a < b) -/
end

/-! ### comparisons -/
/-- the scalars that == tells apart as data does -/
def scal : V → V → Bool
  | .non, .non => true | .non, .int _ => true | .int _, .non => true | .non, .bl _ => true | .bl _, .non => true | .non, .str _ => true | .str _, .non => true
  | .int _, .int _ => true | .bl _, .bl _ => true | .str _, .str _ => true | .byt _, .byt _ => true
  | .int _, .str _ => true | .str _, .int _ => true | .bl _, .str _ => true | .str _, .bl _ => true
  | _, _ => false
def rEq : R2 := fun x y H Q => scal x y = true ∧ Q (.bl (decide (x = y))) H
def rNe : R2 := fun x y H Q => scal x y = true ∧ Q (.bl (!decide (x = y))) H

theorem dec_int {i j : Int} : decide (V.int i = V.int j) = (i == j) := by
  rw [Bool.eq_iff_iff]
  simp
theorem dec_bl {i j : Bool} : decide (V.bl i = V.bl j) = (i == j) := by
  rw [Bool.eq_iff_iff]
  simp
theorem dec_str {i j : Str} : decide (V.str i = V.str j) = (i == j) := by
  rw [Bool.eq_iff_iff]
  simp
theorem dec_byt {i j : Array UInt8} : decide (V.byt i = V.byt j) = (i.toList == j.toList) := by
  rw [Bool.eq_iff_iff]
  cases i
  cases j
  simp

section
variable {X : Cx} {a b c : Expr} {ta tb tc : TE} {pos : Pos}
theorem fin_bl {pins : List (Addr × Obj)} {σ : St} {H : Hp} {s : Shared} {Q : VK} {k k' : Bool} (I : Inv X pins σ H s) (q : Q (.bl k) H) (e : k = k') : EP X pins σ Q (.bool k') s := by
  subst e
  exact ⟨.bl k, H, I, rfl, q⟩
theorem op_eq : OpR X (compareOp .Eq) rEq := by
  intro pins s σ H x y v u Q I rx ry h
  obtain ⟨hs, q⟩ := h
  cases x with
  | non =>
    cases rx
    cases y with
    | non => cases ry; exact PySem.EqNone.eq_none_none (fin_bl I q (by simp))
    | bl j => cases ry; exact PySem.EqNone.eq_none_bool (fin_bl I q (by simp))
    | int j => obtain ⟨t', rfl⟩ := ry; exact PySem.EqNone.eq_none_int (fin_bl I q (by simp))
    | str j => obtain ⟨t', rfl⟩ := ry; exact PySem.EqNone.eq_none_str (fin_bl I q (by simp))
    | _ => exact absurd (show false = true from hs) Bool.false_ne_true
  | bl i =>
    cases rx
    cases y with
    | non => cases ry; exact PySem.EqNone.eq_bool_none (fin_bl I q (by simp))
    | bl j => cases ry; exact eq_bool (fin_bl I q dec_bl)
    | str j => obtain ⟨t', rfl⟩ := ry; exact PySem.EqMixed.eq_bool_str (fin_bl I q (by simp))
    | _ => exact absurd (show false = true from hs) Bool.false_ne_true
  | int i =>
    obtain ⟨t, rfl⟩ := rx
    cases y with
    | non => cases ry; exact PySem.EqNone.eq_int_none (fin_bl I q (by simp))
    | int j => obtain ⟨t', rfl⟩ := ry; exact eq_int (fin_bl I q dec_int)
    | str j => obtain ⟨t', rfl⟩ := ry; exact PySem.EqMixed.eq_int_str (fin_bl I q (by simp))
    | _ => exact absurd (show false = true from hs) Bool.false_ne_true
  | str i =>
    obtain ⟨t, rfl⟩ := rx
    cases y with
    | non => cases ry; exact PySem.EqNone.eq_str_none (fin_bl I q (by simp))
    | bl j => cases ry; exact PySem.EqMixed.eq_str_bool (fin_bl I q (by simp))
    | int j => obtain ⟨t', rfl⟩ := ry; exact PySem.EqMixed.eq_str_int (fin_bl I q (by simp))
    | str j => obtain ⟨t', rfl⟩ := ry; exact eq_str (fin_bl I q dec_str)
    | _ => exact absurd (show false = true from hs) Bool.false_ne_true
  | byt i =>
    obtain ⟨t, rfl⟩ := rx
    cases y with
    | byt j => obtain ⟨t', rfl⟩ := ry; exact PySem.W.eq_bytes (fin_bl I q dec_byt)
    | _ => exact absurd (show false = true from hs) Bool.false_ne_true
  | _ => cases y <;> exact absurd (show false = true from hs) Bool.false_ne_true
theorem op_ne : OpR X (compareOp .NotEq) rNe := by
  intro pins s σ H x y v u Q I rx ry h
  obtain ⟨hs, q⟩ := h
  cases x with
  | non =>
    cases rx
    cases y with
    | non => cases ry; exact PySem.EqNone.ne_none_none (fin_bl I q (by simp))
    | bl j => cases ry; exact PySem.EqNone.ne_none_bool (fin_bl I q (by simp))
    | int j => obtain ⟨t', rfl⟩ := ry; exact PySem.EqNone.ne_none_int (fin_bl I q (by simp))
    | str j => obtain ⟨t', rfl⟩ := ry; exact PySem.EqNone.ne_none_str (fin_bl I q (by simp))
    | _ => exact absurd (show false = true from hs) Bool.false_ne_true
  | bl i =>
    cases rx
    cases y with
    | non => cases ry; exact PySem.EqNone.ne_bool_none (fin_bl I q (by simp))
    | bl j => cases ry; exact ne_bool (fin_bl I q (congrArg not dec_bl))
    | str j => obtain ⟨t', rfl⟩ := ry; exact PySem.EqMixed.ne_bool_str (fin_bl I q (by simp))
    | _ => exact absurd (show false = true from hs) Bool.false_ne_true
  | int i =>
    obtain ⟨t, rfl⟩ := rx
    cases y with
    | non => cases ry; exact PySem.EqNone.ne_int_none (fin_bl I q (by simp))
    | int j => obtain ⟨t', rfl⟩ := ry; exact ne_int (fin_bl I q (congrArg not dec_int))
    | str j => obtain ⟨t', rfl⟩ := ry; exact PySem.EqMixed.ne_int_str (fin_bl I q (by simp))
    | _ => exact absurd (show false = true from hs) Bool.false_ne_true
  | str i =>
    obtain ⟨t, rfl⟩ := rx
    cases y with
    | non => cases ry; exact PySem.EqNone.ne_str_none (fin_bl I q (by simp))
    | bl j => cases ry; exact PySem.EqMixed.ne_str_bool (fin_bl I q (by simp))
    | int j => obtain ⟨t', rfl⟩ := ry; exact PySem.EqMixed.ne_str_int (fin_bl I q (by simp))
    | str j => obtain ⟨t', rfl⟩ := ry; exact ne_str (fin_bl I q (congrArg not dec_str))
    | _ => exact absurd (show false = true from hs) Bool.false_ne_true
  | byt i =>
    obtain ⟨t, rfl⟩ := rx
    cases y with
    | byt j => obtain ⟨t', rfl⟩ := ry; exact PySem.W.ne_bytes (fin_bl I q (congrArg not dec_byt))
    | _ => exact absurd (show false = true from hs) Bool.false_ne_true
  | _ => cases y <;> exact absurd (show false = true from hs) Bool.false_ne_true

theorem op_lt : OpR X (compareOp .Lt) (rI0 fun i j => .bl (decide (i < j))) := opB0 fun _ _ _ _ _ _ _ q => lt_int q
theorem op_le : OpR X (compareOp .LtE) (rI0 fun i j => .bl (decide (i ≤ j))) := opB0 fun _ _ _ _ _ _ _ q => le_int q
theorem op_gt : OpR X (compareOp .Gt) (rI0 fun i j => .bl (decide (j < i))) := opB0 fun _ _ _ _ _ _ _ q => gt_int q
theorem op_ge : OpR X (compareOp .GtE) (rI0 fun i j => .bl (decide (j ≤ i))) := opB0 fun _ _ _ _ _ _ _ q => ge_int q
theorem op_notN : OpR X (compareOp .IsNot) (fun x y H Q => y = .non ∧ Q (.bl (!decide (x = .non))) H) := by
  intro pins s σ H x y v u Q I rx ry h
  obtain ⟨rfl, q⟩ := h
  cases ry
  refine isnot_none_gen (fin_bl I q ?_)
  cases x <;> first
    | (cases rx; rfl)
    | (obtain ⟨t, rfl⟩ := rx; rfl)

theorem nomark (b : Expr) {op : CmpOp} (h : op ≠ .In := by decide) (h2 : op ≠ .NotIn := by decide) : behindInMarks op b = false := by
  have e1 : (op == CmpOp.In) = false := by cases op <;> first | rfl | exact absurd rfl h
  have e2 : (op == CmpOp.NotIn) = false := by cases op <;> first | rfl | exact absurd rfl h2
  cases b <;> simp [behindInMarks, e1, e2]
/-- a comparison as a value; hm: nomark b, or (for in, not in) by with_unfolding_all rfl -/
theorem pe_cmpR {op : CmpOp} {r : R2} (ho : OpR X (compareOp op) r) (ha : PE X a ta) (hb : PE X b tb) (hm : behindInMarks op b = false) : PE X (.Compare a [op] [b] pos) (tOp r ta tb) := by
  intro pins s σ H Q I h
  exact wpAny_Compare1 (binT ha hb I h fun v u s2 x y H2 I2 rx ry q => ho pins s2 σ H2 x y v u Q I2 rx ry q) hm
/-- a reading of a value as a test -/
def tTest (t : TE) : TT := fun σ H Q => t σ H fun x H' => ∃ k, x = .bl k ∧ Q k H'
theorem pt_cmpR {op : CmpOp} {r : R2} (ho : OpR X (compareOp op) r) (ha : PE X a ta) (hb : PE X b tb) (hm : behindInMarks op b = false) : PT X (.Compare a [op] [b] pos) (tTest (tOp r ta tb)) := by
  intro pins s σ H Q I h
  refine wpAny_isTrue_Compare1 (thn (ha pins s σ H _ I h) fun v s1 ⟨x, H1, I1, r1, q1⟩ => thn (hb pins s1 σ H1 _ I1 q1) fun u s2 ⟨y, H2, I2, r2, q2⟩ =>
    thn (ho pins s2 σ H2 x y v u _ I2 r1 r2 q2) fun c s3 ⟨z, H3, I3, r3, k, e, q3⟩ => ?_) hm
  subst e
  cases r3
  exact wpAny_truthy_bool ⟨H3, I3, q3⟩
/-- a op1 b op2 c -/
def tChain (r r' : R2) (ta tb tc : TE) : TE := fun σ H Q => ta σ H fun x H1 => tb σ H1 fun y H2 => r x y H2 fun z H3 => ∃ k, z = .bl k ∧
  (if k = true then tc σ H3 fun w' H4 => r' y w' H4 Q else Q (.bl false) H3)
theorem pe_chain {op op' : CmpOp} {r r' : R2} (ho : OpR X (compareOp op) r) (ho' : OpR X (compareOp op') r') (ha : PE X a ta) (hb : PE X b tb) (hc : PE X c tc)
    (hm : lastMarks [op, op'] [b, c] = false := by with_unfolding_all rfl) : PE X (.Compare a [op, op'] [b, c] pos) (tChain r r' ta tb tc) := by
  intro pins s σ H Q I h
  refine Compare_chain (thn (ha pins s σ H _ I h) fun v s1 ⟨x, H1, I1, r1, q1⟩ => chain_link (thn (hb pins s1 σ H1 _ I1 q1) fun u s2 ⟨y, H2, I2, r2, q2⟩ =>
    thn (ho pins s2 σ H2 x y v u _ I2 r1 r2 q2) fun d s3 ⟨z, H3, I3, r3, k, e, q3⟩ => ?_)) hm
  subst e
  cases r3
  refine wpAny_truthy_bool ?_
  cases k with
  | false => exact ite_ff ⟨.bl false, H3, I3, rfl, q3⟩
  | true => exact ite_tt (chain_last (thn (hc pins s3 σ H3 _ I3 q3) fun w' s4 ⟨z', H4, I4, r4, q4⟩ => ho' pins s4 σ H4 y z' u w' Q I4 r2 r4 q4))
theorem pt_chain {op op' : CmpOp} {r r' : R2} (ho : OpR X (compareOp op) r) (ho' : OpR X (compareOp op') r') (ha : PE X a ta) (hb : PE X b tb) (hc : PE X c tc)
    (hm : lastMarks [op, op'] [b, c] = false := by with_unfolding_all rfl) : PT X (.Compare a [op, op'] [b, c] pos) (tTest (tChain r r' ta tb tc)) := by
  intro pins s σ H Q I h
  refine isTrue_chain (thn (ha pins s σ H _ I h) fun v s1 ⟨x, H1, I1, r1, q1⟩ => test_link (thn (hb pins s1 σ H1 _ I1 q1) fun u s2 ⟨y, H2, I2, r2, q2⟩ =>
    thn (ho pins s2 σ H2 x y v u _ I2 r1 r2 q2) fun d s3 ⟨z, H3, I3, r3, k, e, q3⟩ => ?_)) hm
  subst e
  cases r3
  refine wpAny_truthy_bool ?_
  cases k with
  | false =>
    obtain ⟨k', e', q'⟩ := q3
    cases e'
    exact ite_ff ⟨H3, I3, q'⟩
  | true =>
    refine ite_tt (test_last (thn (hc pins s3 σ H3 _ I3 q3) fun w' s4 ⟨z', H4, I4, r4, q4⟩ => thn (ho' pins s4 σ H4 y z' u w' _ I4 r2 r4 q4) fun d' s5 ⟨z2, H5, I5, r5, k2, e2, q5⟩ => ?_))
    subst e2
    cases r5
    exact wpAny_truthy_bool ⟨H5, I5, q5⟩

/-! ### truth -/
theorem line63 : (sizeLine : Nat) < 2 ^ 63 := by rw [sizeLine_eq]; decide
/-! ### strs and bytes -/
/-! ### scalar builtins, by CallR -/
theorem vals1 {x : V} {us : List Value} (r : Vals [x] us) : ∃ u, us = [u] ∧ RelV x u := by
  cases r with
  | cons r1 r2 => cases r2; exact ⟨_, rfl, r1⟩
theorem vals2 {x y : V} {us : List Value} (r : Vals [x, y] us) : ∃ u w', us = [u, w'] ∧ RelV x u ∧ RelV y w' := by
  cases r with
  | cons r1 r2 =>
    cases r2 with
    | cons r3 r4 => cases r4; exact ⟨_, _, rfl, r1, r3⟩
theorem call_min2 (hc : X.calm = true) : CallR X (.builtin "min") (fun xs H Q => ∃ i j, xs = [.int i, .int j] ∧ Q (.int (if j < i then j else i)) H) := by
  intro pins s σ H xs us Q I r h
  obtain ⟨i, j, rfl, q⟩ := h
  obtain ⟨u, w', rfl, ⟨t, rfl⟩, ⟨t', rfl⟩⟩ := vals2 r
  refine min_two_ints (I.ok.hd hc) fun h' tk k => ⟨_, H, I.kept k, ?_, q⟩
  by_cases hj : j < i
  · rw [if_pos hj, if_pos hj]; exact ⟨_, rfl⟩
  · rw [if_neg hj, if_neg hj]; exact ⟨_, rfl⟩
end
end L2

namespace L2
open PySem PySem.Spec PyProof.Rows

/-! ### an instance, its attributes a map -/
structure ObjM (h : Heap) (x dx C : Addr) (mA : Str → Option Value) : Prop where
  obj : h.get? x = some (PySem.W.instObj C dx)
  ns : h.Ns1 dx mA
  ne : dx ≠ x

theorem lookIn_ns {h : Heap} {dx : Addr} {mA : Str → Option Value} (n : h.Ns1 dx mA) : ∃ od, h.get? dx = some od ∧ ∀ name, PySem.W.lookIn name od = some (mA name) := by
  obtain ⟨o, es, ep, ho, hd, hk, _, hm⟩ := n
  refine ⟨o, ho, fun name => ?_⟩
  have e := hm name
  unfold nsFind findBy at e
  rw [← Array.find?_toList] at e
  unfold PySem.W.lookIn
  rw [hd]
  dsimp only
  split
  · rename_i y q
    rw [q] at e
    exact congrArg some e
  · rename_i q
    rw [q] at e
    have a : es.toList.any (·.refKey) = false := by
      rw [List.any_eq_false]
      intro y hy
      obtain ⟨z, t, hkey⟩ := hk y (Array.mem_toList_iff.mp hy)
      simp [DictEntry.refKey, hkey]
    have a' : ¬ es.toList.any (·.refKey) = true := by rw [a]; exact Bool.false_ne_true
    rw [if_neg a']
    exact congrArg some e

theorem ObjM.look {h : Heap} {x dx C : Addr} {mA : Str → Option Value} (I : ObjM h x dx C mA) : ∃ od, PySem.W.InstAt h x (PySem.W.instObj C dx) C (some od) ∧ ∀ name, PySem.W.lookIn name od = some (mA name) :=
  let ⟨od, ho, hl⟩ := lookIn_ns I.ns
  ⟨od, ⟨I.obj, rfl, rfl, ho⟩, hl⟩

section
variable {prog : Program} {w : World} {A : Around} {E : Value → Shared → Prop} {s : Shared} {K : PySem.W.Frag} {x dx C f : Addr} {mA : Str → Option Value} {name : Str} {v : Value}

theorem get_map {expr : Bool} {Q : Value → Shared → Prop} (X : K.In s.heap) (I : ObjM s.heap x dx C mA) (hg : PySem.W.plainGet K C name = true) (hh : PySem.W.hasDictIn K C = true)
    (ha : PySem.W.findIn K (.ref C) name = some none) (hv : mA name = some v) (hv' : PySem.W.handedIn v = true) (h : Q v { s with toks := s.toks + 1 }) :
    wpAny (model prog w) A (getAttr (.ref x) name expr) Q E s := by
  obtain ⟨od, J, hl⟩ := I.look
  exact PySem.W.get_value X J (PySem.W.plainGet_of hg).1 (PySem.W.findObj_own hh ha rfl (by rw [hl, hv])) hv' h

theorem get_meth {pl : Sem Bool} {Q : Value × List Value → Shared → Prop} (X : K.In s.heap) (I : ObjM s.heap x dx C mA) (hg : PySem.W.plainGet K C name = true)
    (hf : PySem.W.findIn K (.ref C) name = some (some (.ref f))) (ht : PySem.W.isFn K (.ref f) = true) (hv : mA name = none) (h : Q (.ref f, [.ref x]) s) :
    wpAny (model prog w) A (getMethod (.ref x) name pl) Q E s := by
  obtain ⟨od, J, hl⟩ := I.look
  exact PySem.W.method_fn X J (PySem.W.plainGet_of hg).1 (PySem.W.plainGet_of hg).2 hf (beq_iff_eq.mp ht) (by show (PySem.W.lookIn name od).map (·.isSome) = some false; rw [hl, hv]; rfl) h

theorem set_map {ns : List Str} {Q : Unit → Shared → Prop} (X : K.In s.heap) (I : ObjM s.heap x dx C mA)
    (hs : PySem.W.findIn K (.ref C) "__setattr__" = some (some (.builtin "object.__setattr__"))) (hp : PySem.W.plainOver K C = true) (ht : PySem.W.takerIn K C name = some none) (hh : PySem.W.hasDictIn K C = true)
    (hw : PySem.Within mA ns) (hsz : ns.length ≤ sizeLine)
    (h : ∀ h', ObjM h' x dx C (fun y => if y = name then some v else mA y) → Heap.SameBut dx s.heap h' → Q () { s with heap := h', toks := s.toks + 2 }) :
    wpAny (model prog w) A (setAttr (.ref x) name v) Q E s := by
  obtain ⟨od, J, hl⟩ := I.look
  refine PySem.W.set_plain X J hs (PySem.W.osa_open (s := { s with toks := s.toks + 1 }) (r := none) X J hp ht fun b => ?_)
  obtain ⟨cd, hc, hd'⟩ := PySem.W.any_some hh
  have hx : s.heap.get? x = some ⟨.ref C, some dx, .plain, #[]⟩ := I.obj
  refine wpAny_bind (wpAny_pure (wpAny_bind (wpAny_bind (wpAny_loadPart hx (wpAny_bind (PySem.W.Looks.here (s := { s with toks := s.toks + 1 }) (PySem.W.looks_clsIn X hc) ?_))))))
  rw [hd']
  refine wpAny_pure (a := some dx) (wpAny_bind (wpAny_pure (wpAny_bind ?_)))
  refine wpAny_nsSet1 (s := { s with toks := s.toks + 1 }) I.ns fun h' hn2 hs2 => ?_
  obtain ⟨oD, esD, epD, hoD, hdD, hcD⟩ := hn2.count (PySem.Within.cons name v hw)
  refine wpAny_bind (wpAny_lookBehind hoD (by rw [hdD]; exact pastItsLine_dict (Nat.le_trans hcD (by rw [List.length_cons]; omega))) ?_)
  exact wpAny_pure (h _ ⟨(hs2.2 _ (Ne.symm I.ne)).trans I.obj, hn2, I.ne⟩ hs2)

/-- C(..): the dict at the heap's end, the instance behind it; then its __init__ -/
theorem make_map {R : Result → Shared → Prop} {vs : List Value} {kw : List (Str × Value)} (X : K.In s.heap) (hm : PySem.W.makesIn K C = true)
    (hi : PySem.W.findIn K (.ref C) "__init__" = some (some (.ref f))) (hf : PySem.W.typeIn K (.ref f) = some (.type "function"))
    (h : codeAny (model prog w) (A.under (.builtin "type.__call__" ⟨.ref C :: vs, kw⟩)) (.call (.ref f) ⟨.ref (s.heap.objs.size + 1) :: vs, kw⟩) (PySem.W.InitBack (s.heap.objs.size + 1) R)
      { s with heap := (s.heap.push PySem.W.emptyDict).push (PySem.W.instObj C s.heap.objs.size) }) :
    codeAny (model prog w) A (.call (.ref C) ⟨vs, kw⟩) R s := by
  obtain ⟨hh, g, d, t, os⟩ := s
  exact PySem.W.make_core (PySem.W.makes_of X hm) (PySem.W.looks_findIn X hi) (fun self => PySem.W.bind_fn X self hf) (.inl rfl) h
end

/-! ### the attributes as a list of pairs -/
def putF (f : Str) (v : V) : List (Str × V) → List (Str × V)
  | [] => [(f, v)]
  | (g, x) :: r => if g = f then (g, v) :: r else (g, x) :: putF f v r
theorem lookup_putF (f g : Str) (v : V) : ∀ fs : List (Str × V), (putF f v fs).lookup g = if g = f then some v else fs.lookup g
  | [] => by
    show List.lookup g [(f, v)] = _
    by_cases h : g = f
    · have hb : (g == f) = true := beq_iff_eq.mpr h
      simp only [List.lookup, hb, if_pos h]
    · have hb : (g == f) = false := beq_eq_false_iff_ne.mpr h
      simp only [List.lookup, hb, if_neg h]
  | (k, x) :: r => by
    have ih := lookup_putF f g v r
    rw [show putF f v ((k, x) :: r) = (if k = f then (k, v) :: r else (k, x) :: putF f v r) from rfl]
    by_cases hk : k = f
    · rw [if_pos hk]
      by_cases h : g = k
      · have hb : (g == k) = true := beq_iff_eq.mpr h
        simp only [List.lookup, hb, if_pos (h.trans hk)]
      · have hb : (g == k) = false := beq_eq_false_iff_ne.mpr h
        simp only [List.lookup, hb, if_neg (fun e : g = f => h (e.trans hk.symm))]
    · rw [if_neg hk]
      by_cases h : g = k
      · have hb : (g == k) = true := beq_iff_eq.mpr h
        simp only [List.lookup, hb, if_neg (fun e : g = f => hk (h.symm.trans e))]
      · have hb : (g == k) = false := beq_eq_false_iff_ne.mpr h
        simp only [List.lookup, hb]
        exact ih
theorem keys_putF (f : Str) (v : V) : ∀ fs : List (Str × V), f ∈ (putF f v fs).map (·.1) ∧ ∀ g, g ∈ fs.map (·.1) → g ∈ (putF f v fs).map (·.1)
  | [] => ⟨by simp [putF], fun g h => by simp at h⟩
  | (k, x) :: r => by
    obtain ⟨i1, i2⟩ := keys_putF f v r
    rw [show putF f v ((k, x) :: r) = (if k = f then (k, v) :: r else (k, x) :: putF f v r) from rfl]
    by_cases hk : k = f
    · rw [if_pos hk]
      subst hk
      exact ⟨by simp, fun g h => by simpa using h⟩
    · rw [if_neg hk]
      refine ⟨?_, fun g h => ?_⟩
      · rw [List.map_cons]
        exact List.mem_cons_of_mem _ i1
      · rw [List.map_cons] at h ⊢
        rcases List.mem_cons.mp h with e | e
        · exact List.mem_cons.mpr (.inl e)
        · exact List.mem_cons_of_mem _ (i2 g e)
theorem length_putF (f : Str) (v : V) : ∀ fs : List (Str × V), (putF f v fs).length ≤ fs.length + 1
  | [] => by simp [putF]
  | (k, x) :: r => by
    have ih := length_putF f v r
    rw [show putF f v ((k, x) :: r) = (if k = f then (k, v) :: r else (k, x) :: putF f v r) from rfl]
    by_cases hk : k = f
    · rw [if_pos hk, List.length_cons, List.length_cons]; omega
    · rw [if_neg hk, List.length_cons, List.length_cons]; omega

theorem RelO.some_of {v : V} {o : Option Value} (r : RelO (some v) o) : ∃ u, o = some u ∧ RelV v u := by
  cases o with
  | none => exact (show False from r).elim
  | some u => exact ⟨u, rfl, r⟩
theorem RelO.none_of {o : Option Value} (r : RelO none o) : o = none := by
  cases o with
  | none => rfl
  | some u => exact (show False from r).elim
theorem handed_of {v : V} {u : Value} (r : RelV v u) : PySem.W.handedIn u = true := by
  cases v with
  | non => cases (show u = Value.none from r); rfl
  | bl b => cases (show u = Value.bool b from r); rfl
  | int i => obtain ⟨t, e⟩ := (show ∃ t, u = Value.int i t from r); cases e; rfl
  | str x => obtain ⟨t, e⟩ := (show ∃ t, u = Value.str x t from r); cases e; rfl
  | byt b => obtain ⟨t, e⟩ := (show ∃ t, u = Value.bytes b t from r); cases e; rfl
  | flt b => obtain ⟨t, e⟩ := (show ∃ t, u = Value.float b t from r); cases e; rfl
  | ref a => cases (show u = Value.ref a from r); rfl
  | ty n => cases (show u = Value.type n from r); rfl

section
variable {P : Program} {w : World} {H H' : Hp} {h h' : Heap} {a C dx : Addr} {fs fs' : List (Str × V)}
theorem ins_get (hok : HOk P w H h) (e : H a = some (.ins C dx fs)) : ∃ mA, ObjM h a dx C mA ∧ (∀ f, RelO (fs.lookup f) (mA f)) ∧ PySem.Within mA (fs.map (·.1)) ∧ fs.length ≤ 1000 ∧ H dx = some (.own a) := by
  obtain ⟨d, z, ne, ob, mA, n, r, q⟩ := (show ObjOk P w H h a (.ins C dx fs) from hok a _ e)
  exact ⟨mA, ⟨ob, n, ne⟩, r, q, z, d⟩
end

/-! ### what of the text a class must have -/
structure Cls (K : PySem.W.Frag) (C : Addr) : Prop where
  pg : PySem.W.plainGet K C Str.empty = true
  hd : PySem.W.hasDictIn K C = true
  po : PySem.W.plainOver K C = true
  sa : PySem.W.findIn K (.ref C) "__setattr__" = some (some (.builtin "object.__setattr__"))
theorem Cls.get {K : PySem.W.Frag} {C : Addr} (c : Cls K C) (f : Str) : PySem.W.plainGet K C f = true := c.pg
/-- no class of it has the name -/
def NoAttr (K : PySem.W.Frag) (C : Addr) (f : Str) : Prop := PySem.W.findIn K (.ref C) f = some none
theorem NoAttr.taker {K : PySem.W.Frag} {C : Addr} {f : Str} (n : NoAttr K C f) : PySem.W.takerIn K C f = some none := by
  unfold PySem.W.takerIn
  rw [show PySem.W.findIn K (.ref C) f = some none from n]
  rfl
/-- a method: a plain def of the class or of one above it -/
structure Meth (K : PySem.W.Frag) (C : Addr) (m : Str) (f : Addr) : Prop where
  at_ : PySem.W.findIn K (.ref C) m = some (some (.ref f))
  fn : PySem.W.isFn K (.ref f) = true
  kp : PySem.W.keepIn K (.ref f) = true

section
variable {X : Cx} {pins : List (Addr × Obj)} {σ : St} {H : Hp} {s : Shared} {a C dx : Addr} {fs : List (Str × V)} {f : Str} {v : V} {A : Around} {E : Value → Shared → Prop}

theorem getattr_ok {b : Bool} {Q : Value → Shared → Prop} (I : Inv X pins σ H s) (e : H a = some (.ins C dx fs)) (c : Cls X.K C) (n : NoAttr X.K C f) (l : fs.lookup f = some v)
    (h : ∀ u s', Inv X pins σ H s' → RelV v u → Q u s') : wpAny (model X.prog X.w) A (getAttr (.ref a) f b) Q E s := by
  obtain ⟨mA, O, r, _, _, _⟩ := ins_get I.hok e
  obtain ⟨u, hu, ru⟩ := RelO.some_of (v := v) (o := mA f) (by rw [← l]; exact r f)
  exact get_map I.kIn O (c.get f) c.hd n hu (handed_of ru) (h u _ (I.tok _) ru)

theorem getmeth_ok {m : Str} {g : Addr} {pl : Sem Bool} {Q : Value × List Value → Shared → Prop} (I : Inv X pins σ H s) (e : H a = some (.ins C dx fs)) (c : Cls X.K C) (k : Meth X.K C m g) (l : fs.lookup m = none)
    (h : Q (.ref g, [.ref a]) s) : wpAny (model X.prog X.w) A (getMethod (.ref a) m pl) Q E s := by
  obtain ⟨mA, O, r, _, _, _⟩ := ins_get I.hok e
  have hn : mA m = none := RelO.none_of (by rw [← l]; exact r m)
  exact get_meth I.kIn O (c.get m) k.at_ k.fn hn h

theorem setattr_ok {y : V} {u : Value} {Q : Unit → Shared → Prop} (I : Inv X pins σ H s) (e : H a = some (.ins C dx fs)) (c : Cls X.K C) (n : NoAttr X.K C f) (hl : fs.length < 1000) (ry : RelV y u)
    (h : ∀ s', Inv X pins σ (upd H a (.ins C dx (putF f y fs))) s' → Q () s') : wpAny (model X.prog X.w) A (setAttr (.ref a) f u) Q E s := by
  obtain ⟨mA, O, r, wi, _, ho⟩ := ins_get I.hok e
  have hz : (fs.map (·.1)).length ≤ sizeLine := by rw [List.length_map, sizeLine_eq]; omega
  refine set_map I.kIn O c.sa c.po n.taker c.hd wi hz fun h' O' sb => h _ ?_
  have hd : ∃ o, h'.get? dx = some o := let ⟨o, _, _, e', _⟩ := O'.ns; ⟨o, e'⟩
  refine I.write (x := a) (e := dx) (by rw [e]; exact True.intro) (.inr ho) (fun b q hb z => (sb.2 b hb).trans z) hd ?_
  refine ⟨by rw [upd_ne O.ne]; exact ho, ?_, O.ne, O'.obj, _, O'.ns, fun g => ?_, fun g hg => ?_⟩
  · have := length_putF f y fs; omega
  · show RelO ((putF f y fs).lookup g) (if g = f then some u else mA g)
    rw [lookup_putF]
    by_cases q : g = f
    · rw [if_pos q, if_pos q]; exact ry
    · rw [if_neg q, if_neg q]; exact r g
  · by_cases q : g = f
    · rw [q]; exact (keys_putF f y fs).1
    · refine (keys_putF f y fs).2 g (wi g fun z => hg ?_)
      show (if g = f then some u else mA g) = none
      rw [if_neg q]; exact z

/-- a new instance, tracked, without attributes -/
theorem Inv.made (I : Inv X pins σ H s) : Inv X pins σ (upd (upd H s.heap.objs.size (.own (s.heap.objs.size + 1))) (s.heap.objs.size + 1) (.ins C s.heap.objs.size []))
    { s with heap := (s.heap.push PySem.W.emptyDict).push (PySem.W.instObj C s.heap.objs.size) } := by
  have e1 : (s.heap.push PySem.W.emptyDict).get? s.heap.objs.size = some PySem.W.emptyDict := Heap.get?_push_size s.heap rfl
  have e2 : ((s.heap.push PySem.W.emptyDict).push (PySem.W.instObj C s.heap.objs.size)).get? (s.heap.objs.size + 1) = some (PySem.W.instObj C s.heap.objs.size) := by
    have := Heap.get?_push_size (s.heap.push PySem.W.emptyDict) (o := PySem.W.instObj C s.heap.objs.size) rfl
    rwa [Heap.size_push] at this
  have e3 : (s.heap.push PySem.W.emptyDict).Ns s.heap.objs.size (fun _ => none) := ⟨PySem.W.emptyDict, #[], _, e1, rfl, (fun e he => absurd he (by simp)), fun _ => rfl⟩
  have I1 := I.laid (a := s.heap.objs.size) (o := .own (s.heap.objs.size + 1)) (h' := s.heap.push PySem.W.emptyDict) (t' := s.toks) (fun b u q => Heap.get?_push_of_some _ q) (Nat.le_refl _) ⟨_, e1⟩
  refine I1.laid (a := s.heap.objs.size + 1) (o := .ins C s.heap.objs.size []) (t' := s.toks) (fun b u q => Heap.get?_push_of_some _ q) (Nat.le_of_eq (Heap.size_push _ _)) ?_
  have ne : s.heap.objs.size ≠ s.heap.objs.size + 1 := Nat.ne_of_lt (Nat.lt_succ_self _)
  refine ⟨by rw [upd_ne ne, upd_same], Nat.zero_le _, ne, e2, fun _ => none, (Heap.Ns1.of_empty e3).at fun o q => Heap.get?_push_of_some _ q, fun _ => True.intro, fun y hy => absurd rfl hy⟩

/-- e.f where nothing but the object is asked: through attributeBase (super) and the last hold -/
theorem attr_of {prog : Program} {w : World} {env : Env} {e : Expr} {f : Str} {pos : Pos} {s : Shared} {Q : Value → Shared → Prop} (hb : attributeBase e f env (eval e env) = eval e env)
    (h : wpAny (model prog w) A (eval e env) (fun o s₁ => wpAny (model prog w) A (getAttr o f true) Q E s₁) E s) : wpAny (model prog w) A (eval (.Attribute e f pos) env) Q E s :=
  Attribute_any_ h (by rw [arm_eval_Attribute, hb])
end

/-! ### readings and rules -/
/-- e.f, an attribute of the instance -/
def tFld (K : PySem.W.Frag) (ta : TE) (f : Str) : TE := fun σ H Q => ta σ H fun x H1 => ∃ a C dx fs v, x = .ref a ∧ H1 a = some (.ins C dx fs) ∧ Cls K C ∧ NoAttr K C f ∧ fs.lookup f = some v ∧ Q v H1
/-- e.f = value -/
def sFld (K : PySem.W.Frag) (ta tv : TE) (f : Str) : TS := fun D σ H => tv σ H fun y H1 => ta σ H1 fun x H2 => ∃ a C dx fs, x = .ref a ∧ H2 a = some (.ins C dx fs) ∧ Cls K C ∧ NoAttr K C f ∧ fs.length < 1000 ∧
  D.nx σ (upd H2 a (.ins C dx (putF f y fs)))
section
variable {X : Cx} {o e value : Expr} {f : Str} {pos pos' tpos : Pos} {ta tv : TE}
theorem pe_fld (he : PE X e ta) (hb : attributeBase e f X.env (eval e X.env) = eval e X.env) : PE X (.Attribute e f pos) (tFld X.K ta f) := by
  intro pins s σ H Q I h
  refine attr_of hb (thn (he pins s σ H _ I h) fun u s1 ⟨x, H1, I1, rx, a, C, dx, fs, v, ex, ea, c, n, l, q⟩ => ?_)
  subst ex
  obtain rfl : u = Value.ref a := rx
  exact getattr_ok I1 ea c n l fun u' s2 I2 ru => ⟨v, H1, I2, ru, q⟩
theorem ps_fld (ha : PE X o ta) (hv : PE X value tv) (hs : swapsWith value (some (.Attribute o f pos')) pos.line X.env = pure false) : PS X (.Assign [.Attribute o f pos'] value pos) (sFld X.K ta tv f) := by
  intro pins s σ H D I h
  refine plainObj_wpAny_Assign_Attribute (thn (hv pins s σ H _ I h) fun u s1 ⟨y, H1, I1, ry, q⟩ => thn (ha pins s1 σ H1 _ I1 q) fun ov s2 ⟨x, H2, I2, rx, a, C, dx, fs, ex, ea, c, n, l, q2⟩ => ?_) hs
  subst ex
  obtain rfl : ov = Value.ref a := rx
  exact setattr_ok I2 ea c n l ry fun s3 I3 => ⟨σ, _, I3, q2⟩
end

/-! ### isinstance -/
section
variable {X : Cx} {pins : List (Addr × Obj)} {σ : St} {H : Hp} {s : Shared} {A : Around} {E : Value → Shared → Prop} {Q : Value → Shared → Prop} {c : Value} {b : Bool}
/-- the type of a value, as the fragment's deciders take it; for an instance its class -/
inductive TyOf (K : PySem.W.Frag) (H : Hp) : V → Value → Prop where
  | non : TyOf K H .non (.type "NoneType")
  | bl (x : Bool) : TyOf K H (.bl x) (.type "bool")
  | int (i : Int) : TyOf K H (.int i) (.type "int")
  | str (x : Str) : TyOf K H (.str x) (.type "str")
  | flt (x : UInt64) : TyOf K H (.flt x) (.type "float")
  | lst {a : Addr} {xs : List V} (e : H a = some (.lst xs)) : TyOf K H (.ref a) (.type "list")
  | frz {a : Addr} {o : Obj} {xs : List V} (e : H a = some (.frz o (.lst xs))) : TyOf K H (.ref a) (.type "list")
  | tup {a : Addr} {xs : List V} (e : H a = some (.tup xs)) : TyOf K H (.ref a) (.type "tuple")
  | dK {a : Addr} {kvs : List (Key × V)} (e : H a = some (.dK kvs)) : TyOf K H (.ref a) (.type "dict")
  | dT {a : Addr} {kvs : List (List Key × V)} (e : H a = some (.dT kvs)) : TyOf K H (.ref a) (.type "dict")
  | ins {a C dx : Addr} {fs : List (Str × V)} (e : H a = some (.ins C dx fs)) (cl : Cls K C) (ha : PySem.W.findIn K (.ref C) "__class__" = some (some (.builtin "object.__class__")))
      (hn : PySem.W.specialIn K (.builtin "object.__class__") "__get__" = some (some (.builtin "getset_descriptor.__get__"))) (htk : PySem.W.takesIn K (.builtin "object.__class__") = some true)
      (hm : PySem.W.mroIn K C (.type "object") = some true) : TyOf K H (.ref a) (.ref C)
/-- isinstance(x, c) for one class c, a built-in or an own one: kitOne's answer -/
theorem isinst_ok {x : V} {u t : Value} (I : Inv X pins σ H s) (rx : RelV x u) (ty : TyOf X.K H x t) (e : PySem.W.kitOne X.K t c = some b) (h : ∀ tk, Q (.bool b) { s with toks := tk }) :
    wpAny (model X.prog X.w) A (call (.builtin "isinstance") [u, c]) Q E s := by
  cases ty with
  | non => cases (show u = Value.none from rx); exact PySem.W.kia_one PySem.W.kitx_none I.kIn True.intro e (fun z => nomatch z) h
  | bl y => cases (show u = Value.bool y from rx); exact PySem.W.kia_one PySem.W.kitx_bool I.kIn True.intro e (fun z => nomatch z) h
  | int i => obtain ⟨t, q⟩ := (show ∃ t, u = Value.int i t from rx); cases q; exact PySem.W.kia_one PySem.W.kitx_int I.kIn True.intro e (fun z => nomatch z) h
  | str y => obtain ⟨t, q⟩ := (show ∃ t, u = Value.str y t from rx); cases q; exact PySem.W.kia_one PySem.W.kitx_str I.kIn True.intro e (fun z => nomatch z) h
  | flt y => obtain ⟨t, q⟩ := (show ∃ t, u = Value.float y t from rx); cases q; exact PySem.W.kia_one PySem.W.kitx_float I.kIn True.intro e (fun z => nomatch z) h
  | @lst a xs ea =>
    cases (show u = Value.ref a from rx)
    obtain ⟨_, _, n, _, h1⟩ := (show ObjOk X.prog X.w H s.heap a (.lst xs) from I.hok a _ ea)
    exact PySem.W.kia_one PySem.W.kitx_list I.kIn ⟨_, h1, rfl⟩ e (fun z => nomatch z) h
  | @frz a ob xs ea =>
    cases (show u = Value.ref a from rx)
    obtain ⟨_, _, _, n, _, h1⟩ := (show ObjOk X.prog X.w H s.heap a (.frz ob (.lst xs)) from I.hok a _ ea)
    exact PySem.W.kia_one PySem.W.kitx_list I.kIn ⟨_, h1, rfl⟩ e (fun z => nomatch z) h
  | @tup a xs ea =>
    cases (show u = Value.ref a from rx)
    obtain ⟨_, _, _, p⟩ := (show ObjOk X.prog X.w H s.heap a (.tup xs) from I.hok a _ ea)
    obtain ⟨o, h1, h2, _⟩ := p
    exact PySem.W.kia_one PySem.W.kitx_tuple I.kIn ⟨o, h1, h2⟩ e (fun z => nomatch z) h
  | @dK a kvs ea =>
    cases (show u = Value.ref a from rx)
    obtain ⟨_, _, vs, _, p⟩ := (show ObjOk X.prog X.w H s.heap a (.dK kvs) from I.hok a _ ea)
    obtain ⟨o, es, ep, h1, h2, _⟩ := p
    exact PySem.W.kia_one PySem.W.kitx_dict I.kIn ⟨o, h1, h2.1⟩ e (fun z => nomatch z) h
  | @dT a kvs ea =>
    cases (show u = Value.ref a from rx)
    obtain ⟨_, _, xs, _, o, es, ep, h1, h2, _⟩ := (show ObjOk X.prog X.w H s.heap a (.dT kvs) from I.hok a _ ea)
    exact PySem.W.kia_one PySem.W.kitx_dict I.kIn ⟨o, h1, h2.1⟩ e (fun z => nomatch z) h
  | @ins a C dx fs ea cl ha hn htk hm =>
    cases (show u = Value.ref a from rx)
    obtain ⟨mA, O, _⟩ := ins_get I.hok ea
    obtain ⟨od, J, _⟩ := O.look
    exact PySem.W.kia_one (PySem.W.kitx_own (cl.get _) cl.hd ha hn htk hm) I.kIn J e (fun z => nomatch z) h
end
end L2

namespace L2
open PySem PySem.Spec PyProof.Rows

/-! ### room -/
structure Room (k : Nat) (A : Around) : Prop where
  hd : A.handled = none
  dp : A.depth + 3 * k + 5 < recursionLimit
  un : A.units + 16 * k + 200 < cLine
theorem Room.mono {j k : Nat} {A : Around} (r : Room k A) (h : j ≤ k) : Room j A := ⟨r.hd, by have := r.dp; omega, by have := r.un; omega⟩
theorem Room.deeper {k : Nat} {A : Around} (r : Room (k + 1) A) (env : Env) : Room k (A.deeper env) :=
  ⟨r.hd, by have := r.dp; show A.depth + 1 + 3 * k + 5 < _; omega, by have := r.un; show A.units + 3 + 16 * k + 200 < _; omega⟩
theorem make_depth {A : Around} {C : Addr} {us : List Value} {kw : List (Str × Value)} : (A.under (.builtin "type.__call__" ⟨.ref C :: us, kw⟩)).depth = A.depth + 1 := by
  first | rfl | simp [Around.under, Code.weight, Code.isCreation, Code.isGuard, Code.isCaller, Code.frames, Code.isFrame, guardIds]
theorem make_units {A : Around} {C : Addr} {us : List Value} {kw : List (Str × Value)} : (A.under (.builtin "type.__call__" ⟨.ref C :: us, kw⟩)).units = A.units + 1 := by
  first | rfl | simp [Around.under, Code.cUnits, Code.frames, Code.isFrame]
theorem Room.make {k : Nat} {A : Around} (r : Room (k + 1) A) (C : Addr) (us : List Value) (kw : List (Str × Value)) : Room k (A.under (.builtin "type.__call__" ⟨.ref C :: us, kw⟩)) :=
  ⟨r.hd, by have := r.dp; rw [make_depth]; omega, by have := r.un; rw [make_units]; omega⟩
theorem Room.depth {k : Nat} {A : Around} (r : Room k A) : A.depth < recursionLimit := by have := r.dp; omega
theorem Room.units {k : Nat} {A : Around} (r : Room k A) : A.units + 64 < cLine := by have := r.un; omega
/-! ### argument lists and displays -/
def tNil : TA := fun _ H Q => Q [] H
def tCons (ta : TE) (tr : TA) : TA := fun σ H Q => ta σ H fun x H1 => tr σ H1 fun xs H2 => Q (x :: xs) H2
section
variable {X : Cx} {e : Expr} {es : List Expr} {te : TE} {t : TA} {pos : Pos}
theorem pa_nil : PA X [] tNil := fun _ _ _ _ H Q I h => Calls.spliced_nil ⟨[], H, I, .nil, h⟩
theorem pa_cons (ha : PE X e te) (hr : PA X es t) (hs : starEach (e :: es) X.env = (false, eval e X.env) :: starEach es X.env := by rfl) : PA X (e :: es) (tCons te t) := by
  intro pos pins s σ H Q I h
  rw [hs]
  show wpAny _ _ (spliced ((false, eval e X.env) :: backTo pos (starEach es X.env))) _ _ s
  refine Calls.spliced_cons (thn (ha pins s σ H _ I h) fun u s1 ⟨x, H1, I1, r1, q1⟩ => ?_)
  exact thn (hr pos pins s1 σ H1 _ I1 q1) fun us s2 ⟨xs, H2, I2, r2, q2⟩ => ⟨x :: xs, H2, I2, .cons r1 r2, q2⟩

/-- a tuple, a list of written items -/
def tTup (t : TA) : TE := fun σ H Q => t σ H fun xs H1 => xs.length ≤ sizeLine ∧ ∀ p, H1 p = none → Q (.ref p) (upd H1 p (.tup xs))
def tLst (t : TA) : TE := fun σ H Q => t σ H fun xs H1 => xs.length ≤ sizeLine ∧ ∀ p, H1 p = none → Q (.ref p) (upd H1 p (.lst xs))
theorem pe_tup {x1} (h : PA X es t) : PE X (.Tuple es x1 pos) (tTup t) := by
  intro pins s σ H Q I hq
  refine wpAny_Tuple_spliced (thn (h pos pins s σ H _ I hq) fun us s1 ⟨xs, H1, I1, r, z, q⟩ => ⟨by rw [← r.length]; exact z, ?_⟩)
  have hf : H1 s1.heap.objs.size = none := I1.hok.fresh (Nat.le_refl _)
  refine ⟨.ref s1.heap.objs.size, upd H1 s1.heap.objs.size (.tup xs), I1.laid (t' := s1.toks) (fun b u e => Heap.get?_push_of_some _ e) (Nat.le_refl _) ?_, rfl, q _ hf⟩
  exact ⟨z, us, r, ⟨_, Heap.get?_push_size _ rfl, rfl, _, rfl⟩⟩
theorem pe_lst (h : PA X es t) : PE X (.List es pos) (tLst t) := by
  intro pins s σ H Q I hq
  refine wpAny_List_spliced (thn (h pos pins s σ H _ I hq) fun us s1 ⟨xs, H1, I1, r, z, q⟩ => ⟨by rw [← r.length]; exact z, ?_⟩)
  have hf : H1 s1.heap.objs.size = none := I1.hok.fresh (Nat.le_refl _)
  refine ⟨.ref s1.heap.objs.size, upd H1 s1.heap.objs.size (.lst xs), I1.laid (t' := s1.toks) (fun b u e => Heap.get?_push_of_some _ e) (Nat.le_refl _) ?_, rfl, q _ hf⟩
  exact ⟨z, us, 0, r, Heap.get?_push_size _ rfl⟩
end

/-! ### what a def promises -/
/-- a def's promise: the bound arguments in the parameters' order, the heap, the wanted end, the wanted exception -/
abbrev Sp := List V → Hp → VK → XK → Prop
/-- how an exception lies behind a call (file 08 gives it): the callers' frames, abstract heap and state ahead of the call, the wish, the exception, the state -/
abbrev CXT := List Env → Hp → Shared → XK → Value → Shared → Prop

/-- the state at a call -/
structure Env0 (P : Program) (w : World) (K : PySem.W.Frag) (mg : Str → Option Value) (base : Heap) (A : Around) (outer : List Env) (s : Shared) (H : Hp) : Prop where
  frames : A.frames = some outer
  mod : Mod K mg base
  bs : ∀ b o, base.get? b = some o → s.heap.get? b = some o ∧ H b = none
  bsz : base.objs.size ≤ s.heap.objs.size
  funs : s.heap.FunFrames base outer
  frf : ∀ b ∈ frs outer, H b = none
  hok : HOk P w H s.heap
  bare : AllBare s.gens
/-- a call's end -/
def CE (outer : List Env) (P : Program) (w : World) (H : Hp) (s : Shared) (Q : VK) (u : Value) (s' : Shared) : Prop :=
  ∃ v H', s'.os = s.os ∧ AllBare s'.gens ∧ Un (frs outer) [] H H' s.heap s'.heap ∧ HOk P w H' s'.heap ∧ RelV v u ∧ Q v H'
def CR (CX : CXT) (outer : List Env) (P : Program) (w : World) (H : Hp) (s : Shared) (Q : VK) (E : XK) (r : Result) (s' : Shared) : Prop :=
  match r with
  | .ok (.ret u) => CE outer P w H s Q u s'
  | .ok _ => False
  | .error e => CX outer H s E e s'
structure FnOk (P : Program) (w : World) (K : PySem.W.Frag) (mg : Str → Option Value) (base : Heap) (CX : CXT) (k : Nat) (f : Addr) (fd : FuncData) (ps : List Str) (sp : Sp) : Prop where
  len : ∀ vs H Q E, sp vs H Q E → vs.length = ps.length
  run : ∀ (A : Around) (outer : List Env) (s : Shared) (H : Hp) (args : Args) (us : List Value) (vs : List V) (Q : VK) (E : XK), Room k A → Env0 P w K mg base A outer s H → BindsTo s fd args (ps.zip us) → Vals vs us → sp vs H Q E →
    codeAny (model P w) A (.call (.ref f) args) (CR CX outer P w H s Q E) s
theorem Env0.make {P : Program} {w : World} {K : PySem.W.Frag} {mg : Str → Option Value} {base : Heap} {A : Around} {outer : List Env} {s : Shared} {H : Hp} (e : Env0 P w K mg base A outer s H) (C : Addr) (us : List Value) (kw : List (Str × Value)) :
    Env0 P w K mg base (A.under (.builtin "type.__call__" ⟨.ref C :: us, kw⟩)) outer s H := ⟨by first | exact e.frames | (simpa [Around.under, Code.envs, Code.isFrame, pushEnvs] using e.frames), e.mod, e.bs, e.bsz, e.funs, e.frf, e.hok, e.bare⟩
section
variable {X : Cx} {pins : List (Addr × Obj)} {σ : St} {H : Hp} {s s' : Shared}
/-- from a body: what a callee wants -/
theorem Inv.env0 (I : Inv X pins σ H s) : Env0 X.prog X.w X.K X.mg X.base X.A X.stack s H :=
  ⟨I.ok.frames, I.ok.mod, I.bs, Nat.le_trans I.ok.bsz I.sz, I.stack, I.stkFree, I.hok, I.bare⟩
/-- behind a call -/
theorem Inv.after {Q : VK} {u : Value} (I : Inv X pins σ H s) (h : CE X.stack X.prog X.w H s Q u s') : EP X pins σ Q u s' := by
  obtain ⟨v, H', os, bare, un, hok, r, q⟩ := h
  obtain ⟨hh, g, d, t, os'⟩ := s'
  obtain rfl : os' = s.os := os
  exact ⟨v, H', I.call (h' := hh) (g' := g) (d' := d) (t' := t) (ch := []) un hok bare (fun b z => absurd z (by simp)), r, q⟩
end

/-! ### calls -/
/-- f(..): the written arguments, then the defaults dvs; E: what is wanted of an exception -/
def tCall (sp : Sp) (dvs : List V) (E : XK) (t : TA) : TE := fun σ H Q => t σ H fun vs H1 => sp (vs ++ dvs) H1 Q E
/-- o.m(..) of an instance of the class at C -/
def tMeth (C : Addr) (m : Str) (sp : Sp) (dvs : List V) (E : XK) (ta : TE) (t : TA) : TE := fun σ H Q => ta σ H fun x H1 => ∃ a dx fs, x = .ref a ∧ H1 a = some (.ins C dx fs) ∧ fs.lookup m = none ∧
  t σ H1 fun vs H2 => sp (x :: (vs ++ dvs)) H2 Q E
/-- C(..): a new instance and its dict, then __init__ -/
def tMake (C : Addr) (sp : Sp) (dvs : List V) (E : XK) (t : TA) : TE := fun σ H Q => t σ H fun vs H1 => ∀ x dx, H1 x = none → H1 dx = none → dx ≠ x →
  sp (.ref x :: (vs ++ dvs)) (upd (upd H1 dx (.own x)) x (.ins C dx [])) (fun v H2 => v = .non ∧ Q (.ref x) H2) E

/-- how the parameters are bound: us the positional arguments, kw the keywords' values by name, ds the defaults that fill up -/
def Binds (K : PySem.W.Frag) (fd : FuncData) (ps : List Str) (ds : List Value) : Prop :=
  ∀ (s : Shared) (us : List Value), K.In s.heap → (us ++ ds).length = ps.length → BindsTo s fd ⟨us, []⟩ (ps.zip (us ++ ds))
/-- every parameter is given -/
theorem Binds.all {K : PySem.W.Frag} {fd : FuncData} {ps : List Str} (h : ∀ us : List Value, us.length = ps.length → bindArgs fd ⟨us, []⟩ = pure (ps.zip us)) : Binds K fd ps [] := fun s us _ hl => by
  rw [List.append_nil] at hl ⊢
  exact .of_eq (h us hl)

/-- an exception of a callee reaches what this body wants of exceptions -/
def Passes (CX : CXT) (X : Cx) (E : XK) : Prop := ∀ (pins : List (Addr × Obj)) (σ : St) (H : Hp) (s : Shared) (e : Value) (s' : Shared), Inv X pins σ H s → CX X.stack H s E e s' → X.xe e s'

section
variable {X : Cx} {CX : CXT} {k : Nat} {f C : Addr} {fd : FuncData} {ps : List Str} {sp : Sp} {dvs : List V} {ds : List Value} {E : XK} {x m : Str} {p pos apos : Pos} {e o : Expr} {es : List Expr} {ta : TE} {t : TA}

/-- the callee runs -/
theorem run_fn {pins : List (Addr × Obj)} {σ : St} {H : Hp} {s : Shared} {Q : VK} {us : List Value} {vs : List V} (F : FnOk X.prog X.w X.K X.mg X.base CX k f fd ps sp) (hr : Room k X.A) (hb : Binds X.K fd ps ds) (hd : Vals dvs ds) (hx : Passes CX X E)
    (I : Inv X pins σ H s) (r : Vals vs us) (h : sp (vs ++ dvs) H Q E) : wpAny (model X.prog X.w) X.A (call (.ref f) us) (EP X pins σ Q) X.xe s := by
  have r2 : Vals (vs ++ dvs) (us ++ ds) := r.append hd
  have hl : (us ++ ds).length = ps.length := by rw [← r2.length]; exact F.len _ _ _ _ h
  refine wpAny_call (codeAny_mono (F.run X.A X.stack s H ⟨us, []⟩ (us ++ ds) (vs ++ dvs) Q E hr I.env0 (hb s us I.kIn hl) r2 h) fun r s' hq => ?_)
  cases r with
  | error e => exact hx pins σ H s e s' I hq
  | ok fl =>
    cases fl with
    | ret u => exact I.after hq
    | next => exact False.elim hq
    | brk => exact False.elim hq
    | cont => exact False.elim hq

theorem pe_call (F : FnOk X.prog X.w X.K X.mg X.base CX k f fd ps sp) (hr : Room k X.A) (hg : Gl X x) (hm : X.mg x = some (.ref f)) (hk : PySem.W.keepIn X.K (.ref f) = true) (hb : Binds X.K fd ps ds) (hd : Vals dvs ds) (hx : Passes CX X E)
    (ha : PA X (e :: es) t) (hdb : (x == ("__debug__" : Str)) = false := by decide) (he : starEach (e :: es) X.env = (false, eval e X.env) :: starEach es X.env := by rfl) (hpl : (backTo pos (starEach es X.env)).any (·.1) = false := by rfl) :
    PE X (.Call (.Name x p) (e :: es) [] pos) (tCall sp dvs E t) := by
  intro pins s σ H Q I h
  refine wpAny_Call_Name_kw (ld_glob I hg hm ?_ hdb)
  refine PySem.W.callWith_K (h₀ := X.base) I.ok.mod.kin hk (thn (ha pos pins s σ H _ I h) fun us s1 ⟨vs, H1, I1, r, q⟩ => ⟨I1.kIn, ?_⟩) he hpl
  exact run_fn F hr hb hd hx I1 r q
/-- o.m(e, ..) -/
theorem pe_meth {pl : Sem Bool} (he : PE X o ta) (c : Cls X.K C) (hm : Meth X.K C m f) (F : FnOk X.prog X.w X.K X.mg X.base CX k f fd ps sp) (hr : Room k X.A) (hb : Binds X.K fd ps ds) (hd : Vals dvs ds) (hx : Passes CX X E) (ha : PA X (e :: es) t)
    (hst : starEach (e :: es) X.env = (false, eval e X.env) :: starEach es X.env := by rfl) (hpl : (backTo pos (starEach es X.env)).any (·.1) = false := by rfl)
    (ht : eval (.Call (.Attribute o m apos) (e :: es) [] pos) X.env = (do
      let ov ← eval o X.env
      standAt apos.atName
      let (f, first) ← holding [ov] (getMethod ov m pl)
      callWith pos f first (backTo pos (starEach (e :: es) X.env)) (backToKw pos (keywordEach [] X.env))) := by rfl) :
    PE X (.Call (.Attribute o m apos) (e :: es) [] pos) (tMeth C m sp dvs E ta t) := by
  intro pins s σ H Q I h
  refine PySem.W.methodCall_KW (pl := pl) (thn (he pins s σ H _ I h) fun u s1 ⟨x, H1, I1, rx, a, dx, fs, ex, ea, l, q⟩ => ?_) ht
  subst ex
  obtain rfl : u = Value.ref a := rx
  refine getmeth_ok I1 ea c hm l ?_
  refine PySem.W.callWith_K (first := [.ref a]) (h₀ := X.base) I.ok.mod.kin hm.kp (thn (ha pos pins s1 σ H1 _ I1 q) fun us s2 ⟨vs, H2, I2, r, q2⟩ => ⟨I2.kIn, ?_⟩) hst hpl
  exact run_fn (us := .ref a :: us) (vs := .ref a :: vs) F hr hb hd hx I2 (.cons rfl r) q2
/-- what a class must have to be made -/
structure Mk (K : PySem.W.Frag) (C f : Addr) : Prop where
  makes : PySem.W.makesIn K C = true
  init : PySem.W.findIn K (.ref C) "__init__" = some (some (.ref f))
  fn : PySem.W.isFn K (.ref f) = true
  kp : PySem.W.keepIn K (.ref C) = true

theorem run_make {pins : List (Addr × Obj)} {σ : St} {H : Hp} {s : Shared} {Q : VK} {us : List Value} {vs : List V} (M : Mk X.K C f) (F : FnOk X.prog X.w X.K X.mg X.base CX k f fd ps sp) (hr : Room (k + 1) X.A) (hb : Binds X.K fd ps ds) (hd : Vals dvs ds)
    (hx : Passes CX X E) (I : Inv X pins σ H s) (r : Vals vs us)
    (h : ∀ x dx, H x = none → H dx = none → dx ≠ x → sp (.ref x :: (vs ++ dvs)) (upd (upd H dx (.own x)) x (.ins C dx [])) (fun v H2 => v = .non ∧ Q (.ref x) H2) E) :
    wpAny (model X.prog X.w) X.A (call (.ref C) us) (EP X pins σ Q) X.xe s := by
  have hq := h (s.heap.objs.size + 1) s.heap.objs.size (I.hok.fresh (Nat.le_succ _)) (I.hok.fresh (Nat.le_refl _)) (Nat.ne_of_lt (Nat.lt_succ_self _))
  have I2 := Inv.made (C := C) I
  have r2 : Vals (V.ref (s.heap.objs.size + 1) :: (vs ++ dvs)) (Value.ref (s.heap.objs.size + 1) :: (us ++ ds)) := .cons rfl (r.append hd)
  have hl : (Value.ref (s.heap.objs.size + 1) :: us ++ ds).length = ps.length := by
    have e := r2.length
    rw [F.len _ _ _ _ hq] at e
    exact e.symm
  refine wpAny_call (make_map (f := f) I.kIn M.makes M.init (beq_iff_eq.mp M.fn) (codeAny_mono (F.run _ X.stack _ _ ⟨Value.ref (s.heap.objs.size + 1) :: us, []⟩ (Value.ref (s.heap.objs.size + 1) :: (us ++ ds)) _ _ E (hr.make C us [])
    (I2.env0.make C us []) (hb _ (Value.ref (s.heap.objs.size + 1) :: us) I2.kIn hl) r2 hq) fun r s' hq' => ?_))
  cases r with
  | error e => exact hx pins σ _ _ e s' I2 hq'
  | ok fl =>
    cases fl with
    | ret u =>
      obtain ⟨v, H', I3, rv, ev, q3⟩ := I2.after hq'
      subst ev
      exact ⟨rv, ⟨V.ref (s.heap.objs.size + 1), H', I3, rfl, q3⟩⟩
    | next => exact False.elim hq'
    | brk => exact False.elim hq'
    | cont => exact False.elim hq'
theorem pe_make (M : Mk X.K C f) (F : FnOk X.prog X.w X.K X.mg X.base CX k f fd ps sp) (hr : Room (k + 1) X.A) (hg : Gl X x) (hm : X.mg x = some (.ref C)) (hb : Binds X.K fd ps ds) (hd : Vals dvs ds) (hx : Passes CX X E)
    (ha : PA X (e :: es) t) (hdb : (x == ("__debug__" : Str)) = false := by decide) (he : starEach (e :: es) X.env = (false, eval e X.env) :: starEach es X.env := by rfl) (hpl : (backTo pos (starEach es X.env)).any (·.1) = false := by rfl) :
    PE X (.Call (.Name x p) (e :: es) [] pos) (tMake C sp dvs E t) := by
  intro pins s σ H Q I h
  refine wpAny_Call_Name_kw (ld_glob I hg hm ?_ hdb)
  refine PySem.W.callWith_K (h₀ := X.base) I.ok.mod.kin M.kp (thn (ha pos pins s σ H _ I h) fun us s1 ⟨vs, H1, I1, r, q⟩ => ⟨I1.kIn, ?_⟩) he hpl
  exact run_make M F hr hb hd hx I1 r q
end

/-! ### keywords -/

/-! ### a def's body keeps its promise -/
/-- names: the parameters first -/
structure FnScope (N P : List Str) (sc : Scope) : Prop where
  kind : sc.kind = .function
  co : sc.isCoroutine = false
  gen : sc.isGenerator = false
  nd : N.Nodup
  pre : N.take P.length = P
  par : ∀ x ∈ P, sc.names.lookup x = some .local ∨ sc.names.lookup x = some .cell
  nofree : ∀ y ∈ sc.names, y.2 ≠ .free

theorem bindL_out {kindOf : Str → Option NameKind} {x : Str} : ∀ {binds : List (Str × Value)} {m : Str → Option Value}, (∀ v, (x, v) ∉ binds) → bindL kindOf binds m x = m x
  | [], _, _ => rfl
  | (n, v) :: r, m, h => by
    unfold bindL
    rw [bindL_out fun w hw => h w (List.mem_cons_of_mem _ hw)]
    split
    · have : x ≠ n := by rintro rfl; exact h v List.mem_cons_self
      simp [this]
    · rfl
theorem bindC_out {kindOf : Str → Option NameKind} {x : Str} : ∀ {binds : List (Str × Value)} {m : Str → Option Value}, (∀ v, (x, v) ∉ binds) → bindC kindOf binds m x = m x
  | [], _, _ => rfl
  | (n, v) :: r, m, h => by
    unfold bindC
    rw [bindC_out fun w hw => h w (List.mem_cons_of_mem _ hw)]
    split
    · rfl
    · have : x ≠ n := by rintro rfl; exact h v List.mem_cons_self
      simp [this]
theorem bindL_get {kindOf : Str → Option NameKind} {x : Str} {v : Value} : ∀ {P : List Str} {vs : List Value} {i : Nat} {m : Str → Option Value}, P.Nodup → P[i]? = some x → vs[i]? = some v → kindOf x = some .local →
    bindL kindOf (P.zip vs) m x = some v
  | [], _, _, _, _, h, _, _ => by simp at h
  | _ :: _, [], _, _, _, _, h, _ => by simp at h
  | p :: P, w :: vs, 0, m, nd, h1, h2, hk => by
    simp at h1 h2; subst h1; subst h2
    show bindL kindOf ((p, w) :: P.zip vs) m p = _
    unfold bindL
    rw [bindL_out fun v hv => (List.nodup_cons.mp nd).1 (List.of_mem_zip hv).1, if_pos hk]
    simp
  | p :: P, w :: vs, i + 1, m, nd, h1, h2, hk => by
    show bindL kindOf ((p, w) :: P.zip vs) m x = _
    unfold bindL
    exact bindL_get (i := i) (List.nodup_cons.mp nd).2 (by simpa using h1) (by simpa using h2) hk
theorem bindC_get {kindOf : Str → Option NameKind} {x : Str} {v : Value} : ∀ {P : List Str} {vs : List Value} {i : Nat} {m : Str → Option Value}, P.Nodup → P[i]? = some x → vs[i]? = some v → kindOf x ≠ some .local →
    bindC kindOf (P.zip vs) m x = some v
  | [], _, _, _, _, h, _, _ => by simp at h
  | _ :: _, [], _, _, _, _, h, _ => by simp at h
  | p :: P, w :: vs, 0, m, nd, h1, h2, hk => by
    simp at h1 h2; subst h1; subst h2
    show bindC kindOf ((p, w) :: P.zip vs) m p = _
    unfold bindC
    rw [bindC_out fun v hv => (List.nodup_cons.mp nd).1 (List.of_mem_zip hv).1, if_neg hk]
    simp
  | p :: P, w :: vs, i + 1, m, nd, h1, h2, hk => by
    show bindC kindOf ((p, w) :: P.zip vs) m x = _
    unfold bindC
    exact bindC_get (i := i) (List.nodup_cons.mp nd).2 (by simpa using h1) (by simpa using h2) hk

/-- the names' values at the entry -/
def start (N : List Str) (vs : List V) : St := vs.map some ++ List.replicate (N.length - vs.length) none

/-- the context of a def's body, at its entry; an exception leaves the frame, then lies as CX says -/
def cxOf (CX : CXT) (P : Program) (w : World) (K : PySem.W.Frag) (mg : Str → Option Value) (base : Heap) (N : List Str) (qual : Str) (scope : Scope) (f : Addr) (cd : Value) (A : Around) (outer : List Env) (s : Shared) (H : Hp) (E : XK) : Cx where
  prog := P
  w := w
  K := K
  mg := mg
  base := base
  A := A.deeper (envOfC qual scope s.heap.objs.size f cd)
  N := N
  s₀ := s
  H₀ := H
  env := envOfC qual scope s.heap.objs.size f cd
  outer := outer
  stack := envOfC qual scope s.heap.objs.size f cd :: outer
  ex := []
  calm := true
  fn := fun _ => true
  pn := []
  xe := fun e s' => wpAny (model P w) (A.deeper (envOfC qual scope s.heap.objs.size f cd)) (leaving (envOfC qual scope s.heap.objs.size f cd) e) (fun _ s'' => CX outer H s E e s'') (fun e' s'' => CX outer H s E e' s'') s'

theorem cell_has {sc : Scope} {n : Nat} {x : Str} (h : sc.names.lookup x = some .cell) : ∃ c, (cellsFrom n sc.names []).lookup x = some c := by
  have q := PySem.W.cellsFrom_some sc.names n [] (.inl h)
  exact Option.isSome_iff_exists.mp q

theorem inv_start {CX : CXT} {P : Program} {w : World} {K : PySem.W.Frag} {mg : Str → Option Value} {base : Heap} {N ps : List Str} {qual : Str} {scope : Scope} {f : Addr} {cd : Value} {A : Around} {outer : List Env} {s s1 : Shared} {H : Hp} {E : XK} {us : List Value} {vs : List V}
    (S : FnScope N ps scope) (hd : A.handled = none) (e0 : Env0 P w K mg base A outer s H) (hl : vs.length = ps.length) (r : Vals vs us)
    (x : InCallC s s.heap.objs.size (bindL (envOfC qual scope s.heap.objs.size f cd).kindOf (ps.zip us) fun _ => none) (cellsFrom (s.heap.objs.size + 1) scope.names []) (bindC (envOfC qual scope s.heap.objs.size f cd).kindOf (ps.zip us) fun _ => none) s1) :
    Inv (cxOf CX P w K mg base N qual scope f cd A outer s H E) [] (start N vs) H s1 := by
  have hpl : ps.length ≤ N.length := by have := congrArg List.length S.pre; rw [List.length_take] at this; omega
  obtain ⟨h1, tk, rfl, hk⟩ := x.done
  have noA : ∀ b : Addr, b ∉ (cxOf CX P w K mg base N qual scope f cd A outer s H E).ex := fun b z => absurd (show b ∈ ([] : List Addr) from z) (by simp)
  refine ⟨⟨e0.mod, S.kind, rfl, rfl, Nat.le_refl _, fun y z c h1 h2 => ?_, fun y hy => ?_, fun y c _ h => ?_, fun _ => hd, Around.frames_deeper e0.frames, .inr ⟨rfl, rfl⟩, fun b z => absurd z (noA b), e0.bs, e0.bsz, fun b _ _ => noA b, fun b z => absurd z (noA b), e0.funs, e0.frf⟩,
    rfl, e0.bare, Un.kept hk, ⟨_, x.toInCall.ns, fun i y v h1 h2 h3 => ?_⟩, fun y c h => ⟨_, x.cell y c h⟩, e0.hok.fresh (Nat.le_refl _), fun y c h => ?_, fun p hp => absurd (show p ∈ ([] : List (Addr × Obj)) from hp) (by simp), e0.hok.kept hk, ?_⟩
  · exact name_of_addr x.apart (PySem.mem_of_lookup h1) (PySem.mem_of_lookup h2)
  · have hy : scope.names.lookup y = some .cell ∨ scope.names.lookup y = some .free := hy
    rcases hy with hy | hy
    · exact cell_has hy
    · exact absurd rfl (S.nofree _ (PySem.mem_of_lookup hy))
  · exact Nat.le_of_lt (x.above y c (PySem.mem_of_lookup h))
  · have hi : i < vs.length := by
      unfold start at h2
      by_cases hi : i < vs.length
      · exact hi
      · rw [List.getElem?_append_right (by simpa using hi)] at h2
        rw [List.getElem?_replicate] at h2
        split at h2 <;> cases h2
    have ha : vs[i]? = some v := by
      unfold start at h2
      rw [List.getElem?_append_left (by simpa using hi), List.getElem?_map] at h2
      cases e : vs[i]? with
      | none => rw [e] at h2; cases h2
      | some a => rw [e] at h2; cases h2; rfl
    obtain ⟨u, hu, rv⟩ := r.get ha
    have hp : ps[i]? = some y := by
      rw [← S.pre, List.getElem?_take_of_lt (by omega)]; exact h1
    have ndP : ps.Nodup := by rw [← S.pre]; exact S.nd.sublist (List.take_sublist _ _)
    refine ⟨u, rv, ?_⟩
    rcases S.par y (List.mem_of_getElem? hp) with k | k
    · exact .inl ⟨k, bindL_get ndP hp hu k⟩
    · obtain ⟨c, e⟩ := cell_has (n := s.heap.objs.size + 1) k
      refine .inr ⟨.inl k, c, e, ?_⟩
      have q := x.cell y c e
      rw [bindC_get ndP hp hu (by show scope.names.lookup y ≠ _; rw [k]; decide)] at q
      exact q
  · exact e0.hok.fresh (Nat.le_of_lt (x.above y c (PySem.mem_of_lookup h)))
  · unfold start
    show _ = N.length
    rw [List.length_append, List.length_map, List.length_replicate]
    omega

/-- THE RULE: a def (or a method) of the text, by its body. The body's reading t is chosen for each entry; it is run at the parameters' values -/
theorem fn_of {CX : CXT} {P : Program} {w : World} {K : PySem.W.Frag} {mg : Str → Option Value} {base : Heap} {k : Nat} {f : Addr} {name qual : Str} {params : Arguments} {body : List Stmt} {scope : Scope} {dV kV doc pm cdv ct oc : Value} {an od : Option Addr}
    {osl : Array (Option Value)} {N ps : List Str} {sp : Sp} (lk : K.lookup f = some ⟨oc, od, .func (PySem.W.fnOf name qual params body scope dV kV doc pm an cdv ct), osl⟩) (hcd : PySem.W.codeIn K cdv qual = true) (S : FnScope N ps scope)
    (len : ∀ vs H Q E, sp vs H Q E → vs.length = ps.length)
    (hbody : ∀ (A : Around) (outer : List Env) (s : Shared) (H : Hp) (vs : List V) (Q : VK) (E : XK), Room k (A.deeper (envOfC qual scope s.heap.objs.size f cdv)) → sp vs H Q E →
      ∃ t, PSs (cxOf CX P w K mg base N qual scope f cdv A outer s H E) body t ∧ t { nx := fun _ H' => Q .non H', rt := Q } (start N vs) H) :
    FnOk P w K mg base CX (k + 1) f (PySem.W.fnOf name qual params body scope dV kV doc pm an cdv ct) ps sp := by
  refine ⟨len, fun A outer s H args us vs Q E hr e0 hb r hsp => ?_⟩
  have hl := len _ _ _ _ hsp
  have KX : K.In s.heap := e0.mod.kin.keeps fun b o e => (e0.bs b o e).1
  have lim : s.heap.NoLimit := e0.mod.nolimit.keeps fun b o e => (e0.bs b o e).1
  have hkind : ∀ y ∈ ps.zip us, scope.names.lookup y.1 = some .local ∨ (scope.names.lookup y.1 = some .cell ∧ ((cellsFrom (s.heap.objs.size + 1) scope.names []).lookup y.1).isSome = true) := fun ⟨n, v⟩ hy => by
    rcases S.par n (List.of_mem_zip hy).1 with q | q
    · exact .inl q
    · exact .inr ⟨q, PySem.W.cellsFrom_some _ _ _ (.inl q)⟩
  refine codeAny_call_function hr.depth (KX _ _ lk) rfl S.co S.gen rfl (PySem.W.codeRec_of KX hcd) (hb _ _ _ _ ?_)
  refine wpAny_newFunctionEnv_cells S.kind hkind fun env he s1 x => ?_
  subst he
  refine ⟨lim.keeps x.toInCall.keep, codeAny_func ?_⟩
  obtain ⟨t, ht, hq⟩ := hbody A outer s H vs Q E (hr.deeper _) hsp
  have I : Inv (cxOf CX P w K mg base N qual scope f cdv A outer s H E) [] (start N vs) H s1 := inv_start S hr.hd e0 hl r x
  refine wpAny_mono (ht [] s1 (start N vs) H _ I hq) (fun fl s' hs => ?_) fun e s' hs => hs
  have fin : ∀ {σ' : St} {H' : Hp} {v : V} {u : Value}, Inv (cxOf CX P w K mg base N qual scope f cdv A outer s H E) [] σ' H' s' → RelV v u → Q v H' → CE outer P w H s Q u s' :=
    fun {σ' H' v u} J rv q => ⟨v, H', J.os, J.bare, J.base, J.hok, rv, q⟩
  cases fl with
  | ret u =>
    obtain ⟨v, σ', H', J, rv, q⟩ := hs
    exact fin J rv q
  | next =>
    obtain ⟨σ', H', J, q⟩ := hs
    exact fin (v := V.non) (u := Value.none) J rfl q
  | brk =>
    obtain ⟨_, _, _, q⟩ := hs
    exact False.elim q
  | cont =>
    obtain ⟨_, _, _, q⟩ := hs
    exact False.elim q
end L2

namespace L2
open PySem PySem.Spec PyProof.Rows
section
variable {X : Cx} {x : Str} {p pos : Pos} {e : Expr} {es : List Expr} {t : TA} {id T : String} {r : List V → Hp → VK → Prop}

def tCB (r : List V → Hp → VK → Prop) (t : TA) : TE := fun σ H Q => t σ H fun vs H1 => r vs H1 Q
/-- f(e, ..), f a built-in function -/
theorem pe_callB (hc : CallR X (.builtin id) r) (hg : Gl X x) (hm : X.mg x = none) (hv : bootBuiltins x = some (.builtin id)) (ha : PA X (e :: es) t) (hn : x ≠ "__name__" := by decide) (hdb : (x == ("__debug__" : Str)) = false := by decide)
    (he : starEach (e :: es) X.env = (false, eval e X.env) :: starEach es X.env := by rfl) (hpl : (backTo pos (starEach es X.env)).any (·.1) = false := by rfl) : PE X (.Call (.Name x p) (e :: es) [] pos) (tCB r t) := by
  intro pins s σ H Q I h
  refine wpAny_Call_Name_kw (ld_blt I hg hm hv ?_ hn hdb)
  exact PyProof.Rows.callWith_builtin1 (thn (ha pos pins s σ H _ I h) fun us s1 ⟨vs, H1, I1, r1, q1⟩ => hc pins s1 σ H1 vs us Q I1 r1 q1) he hpl
/-- T(e, ..), T a built-in type -/
theorem pe_callTy (hc : CallR X (.type T) r) (hg : Gl X x) (hm : X.mg x = none) (hv : bootBuiltins x = some (.type T)) (ha : PA X (e :: es) t) (hn : x ≠ "__name__" := by decide) (hdb : (x == ("__debug__" : Str)) = false := by decide)
    (he : starEach (e :: es) X.env = (false, eval e X.env) :: starEach es X.env := by rfl) (hpl : (backTo pos (starEach es X.env)).any (·.1) = false := by rfl) : PE X (.Call (.Name x p) (e :: es) [] pos) (tCB r t) := by
  intro pins s σ H Q I h
  refine wpAny_Call_Name_kw (ld_blt I hg hm hv ?_ hn hdb)
  exact PyProof.Rows.callWith_type1 (thn (ha pos pins s σ H _ I h) fun us s1 ⟨vs, H1, I1, r1, q1⟩ => hc pins s1 σ H1 vs us Q I1 r1 q1) he hpl
end
end L2

namespace HT
open PySem PyProof.Rows

theorem eqAt_int (A : Around) (s : Shared) (a : Int) (t : Tok) (c : Int) (u : Tok) : ∃ e, SeqAt.EqAt A s (.int a t) (.int c u) e ∧ (e = true ↔ a = c) :=
  ⟨(a == c), SeqAt.EqAt.int_int a t c u, by simp⟩
theorem rcLt_int (A : Around) (s : Shared) (a : Int) (t : Tok) (c : Int) (u : Tok) (prog : Program) (w : World) (E : Value → Shared → Prop) (Q : Value → Shared → Prop) (h : Q (.bool (decide (a < c))) s) :
    wpAny (model prog w) A (richCompare .Lt (.int a t) (.int c u)) Q E s :=
  (PyProof.Rows.lt_int h : wpAny (model prog w) A (compareOp .Lt (.int a t) (.int c u)) Q E s)

section
open PySem.SeqAt
open PySem.AutoSeq1 (wpAny_loadPart')
open PySem.MeetsSeq PySem.MeetsSeq2 PySem.MeetsSeq3

end

section
variable {prog : Program} {w : World} {A : Around} {E : Value → Shared → Prop} {s : Shared}

/-! ### t[a:b], not the whole -/
/-- a slice's bound as a place among n (d where it is left out) -/
def sIx (n d : Nat) : Option Int → Nat
  | none => d
  | some v => if v < 0 then (v + (n : Int)).toNat else min v.toNat n
theorem sIx_le (n d : Nat) (hd : d ≤ n) (o : Option Int) : sIx n d o ≤ n := by
  cases o with
  | none => exact hd
  | some v =>
    show (if v < 0 then (v + (n : Int)).toNat else min v.toNat n) ≤ n
    by_cases hv : v < 0
    · rw [if_pos hv]; omega
    · rw [if_neg hv]; exact Nat.min_le_right _ _
theorem clip_eq (v : Int) (n d : Nat) : (if v < 0 then max (v + (n : Int)) 0 else min v (n : Int)) = ((sIx n d (some v) : Nat) : Int) := by
  show (if v < 0 then max (v + (n : Int)) 0 else min v (n : Int)) = (((if v < 0 then (v + (n : Int)).toNat else min v.toNat n) : Nat) : Int)
  by_cases hv : v < 0
  · simp only [if_pos hv]; omega
  · simp only [if_neg hv]; omega
theorem adjust_gen (lo hi : Option Int) (n : Nat) : Builtin.Slice.sliceAdjust lo hi 1 (n : Int) = (((sIx n 0 lo : Nat) : Int), ((sIx n n hi : Nat) : Int)) := by
  have h1 : ¬ ((1 : Int) < 0) := by omega
  unfold Builtin.Slice.sliceAdjust
  simp only [h1, if_false]
  refine Prod.ext ?_ ?_
  · cases lo with
    | none => rfl
    | some v => exact clip_eq v n 0
  · cases hi with
    | none => rfl
    | some v => exact clip_eq v n n
theorem places_gen (i j : Nat) : Builtin.Slice.slicePlaces (i : Int) (j : Int) 1 = j - i := by
  unfold Builtin.Slice.slicePlaces
  have h1 : (1 : Int) > 0 := by omega
  simp only [h1, if_true, Int.ediv_one]
  split <;> omega
theorem slicePart_ {v : Value} {o : Option Int} {Q : Option Int → Shared → Prop} (p : IsPart v o) (h : Q o s) : wpAny (model prog w) A (Builtin.Slice.slicePartIndex v) Q E s := by
  cases p with
  | none => exact slicePart_none h
  | int i t => exact slicePart_int h
theorem sliceApplied_gen {sl : Addr} {vl vu : Value} {lo hi : Option Int} {n : Nat} {Q : Int × Int × Nat → Shared → Prop} (hs : s.heap.IsSliceOf sl vl vu .none) (pl : IsPart vl lo) (pu : IsPart vu hi)
    (h : Q (((sIx n 0 lo : Nat) : Int), 1, sIx n n hi - sIx n 0 lo) s) : wpAny (model prog w) A (Builtin.Slice.sliceApplied (.ref sl) (pure (n : Int))) Q E s := by
  obtain ⟨os, hos, hcs, hds⟩ := id hs
  unfold Builtin.Slice.sliceApplied Builtin.Slice.sliceFields
  refine wpAny_bind (wpAny_bind (wpAny_field hos hds (x := vl) rfl (wpAny_bind (wpAny_field hos hds (x := vu) rfl (wpAny_bind (wpAny_field hos hds (x := .none) rfl (wpAny_pure ?_)))))))
  refine wpAny_bind (slicePart_none ?_)
  show wpAny _ _ (if ((1 : Int) == 0) = true then _ else _) _ _ s
  rw [if_neg (by decide)]
  refine wpAny_bind (slicePart_ pl (wpAny_bind (slicePart_ pu (wpAny_bind (wpAny_pure ?_)))))
  show wpAny _ _ (match Builtin.Slice.sliceAdjust lo hi 1 (n : Int) with | (lo, hi) => pure (lo, (1 : Int), Builtin.Slice.slicePlaces lo hi 1)) _ _ s
  rw [adjust_gen lo hi n]
  show wpAny _ _ (pure (((sIx n 0 lo : Nat) : Int), (1 : Int), Builtin.Slice.slicePlaces ((sIx n 0 lo : Nat) : Int) ((sIx n n hi : Nat) : Int) 1)) _ _ s
  rw [places_gen]
  exact wpAny_pure h
theorem pick_gen (xs : Array Value) (i k : Nat) : ((List.range k).filterMap fun (m : Nat) => xs[((i : Int) + (m : Int) * 1).toNat]?).toArray = ((xs.toList.drop i).take k).toArray := by
  have e : (fun (m : Nat) => xs[((i : Int) + (m : Int) * 1).toNat]?) = fun m => xs[i + m]? := by
    funext m
    have : ((i : Int) + (m : Int) * 1).toNat = i + m := by omega
    rw [this]
  rw [e]
  have := pick_run xs i k
  rw [List.filterMap_map] at this
  have e2 : ((fun x => xs[x]?) ∘ fun x => i + x) = fun m => xs[i + m]? := rfl
  rw [e2] at this
  rw [this]

theorem getItem_tuple_cut {t sl : Addr} {items : Array Value} {vl vu : Value} {lo hi : Option Int} {Q : Value → Shared → Prop} (ht : IsTup s.heap t items) (hs : s.heap.IsSliceOf sl vl vu .none) (pl : IsPart vl lo) (pu : IsPart vu hi)
    (hw : ¬ (sIx items.size 0 lo = 0 ∧ sIx items.size items.size hi = items.size))
    (h : Q (.ref s.heap.objs.size) { s with heap := s.heap.push { cls := .type "tuple", data := .seq ((items.toList.drop (sIx items.size 0 lo)).take (sIx items.size items.size hi - sIx items.size 0 lo)).toArray } })
    (hsz : items.size ≤ sizeLine) : wpAny (model prog w) A (getItem (.ref t) (.ref sl)) Q E s := by
  have htake : sizeOk (.seq ((items.toList.drop (sIx items.size 0 lo)).take (sIx items.size items.size hi - sIx items.size 0 lo)).toArray) := by
    show ((items.toList.drop (sIx items.size 0 lo)).take (sIx items.size items.size hi - sIx items.size 0 lo)).toArray.size ≤ sizeLine
    rw [List.size_toArray, List.length_take, List.length_drop, Array.length_toList]
    omega
  have hj : sIx items.size items.size hi ≤ items.size := sIx_le _ _ (Nat.le_refl _) hi
  obtain ⟨os, hos, hcs, hds⟩ := id hs
  have hTs : s.TypeIs (.ref sl) "slice" := ⟨os, hos, hcs⟩
  unfold getItem
  try with_reducible refine wpAny_holding ?_
  first | refine wpAny_bind (wpAny_pure ?_) | skip
  refine wpAny_bind (wpAny_sequenceKey ht.typeIs (by decide) ?_)
  refine wpAny_bind (wpAny_callSpecial?_slot (name := Str.ofString "__getitem__") ht.typeIs PyProof.Rows.slot_tuple_getitem
    (wpAny_call_entry PyProof.Rows.slot_tuple_getitem ht.typeIs entry_tuple_getitem ?_ (args_tuple_getitem _ _)))
  show wpAny _ _ (Builtin.Tuple.tupleItemsOf (.ref t) >>= _) _ _ s
  refine wpAny_bind (tupleItemsOf_ ht ?_)
  refine wpAny_bind (wpAny_typeOf hTs ?_)
  rw [if_pos (by decide)]
  refine wpAny_bind (sliceApplied_gen hs pl pu ?_)
  have hno : ¬ ((((sIx items.size 0 lo : Nat) : Int) == 0 && (1 : Int) == 1 && (sIx items.size items.size hi - sIx items.size 0 lo) == items.size) = true) := by
    intro q
    rw [Bool.and_eq_true, Bool.and_eq_true] at q
    have q1 : ((sIx items.size 0 lo : Nat) : Int) = 0 := eq_of_beq q.1.1
    have q2 : sIx items.size items.size hi - sIx items.size 0 lo = items.size := eq_of_beq q.2
    exact hw ⟨by omega, by omega⟩
  show wpAny _ _ (if (((sIx items.size 0 lo : Nat) : Int) == 0 && (1 : Int) == 1 && (sIx items.size items.size hi - sIx items.size 0 lo) == items.size) = true then _ else _) _ _ s
  rw [if_neg hno, pick_gen]
  first
    | exact wpAny_bind (m := Builtin.Tuple.tupleExact _) (wpAny_newObj_type (wpAny_pure ⟨_, rfl, wpAny_pure h⟩) htake)
    | exact wpAny_bind (m := Builtin.Tuple.tupleExact _) (wpAny_newObj_type (wpAny_bind (wpAny_pure (wpAny_pure ⟨_, rfl, wpAny_pure h⟩))) htake)
    | exact wpAny_bind (wpAny_bind (m := Builtin.Tuple.tupleExact _) (wpAny_newObj_type (wpAny_pure (wpAny_pure ⟨_, rfl, wpAny_pure h⟩)) htake))
    | exact wpAny_bind (wpAny_bind (m := Builtin.Tuple.tupleExact _) (wpAny_newObj_type (wpAny_pure ⟨_, rfl, wpAny_pure h⟩) htake))
end
end HT

namespace L2
open PySem PySem.Spec PyProof.Rows

/-! ### the parts of a slice -/
abbrev TO := St → Hp → (Option Int → Hp → Prop) → Prop
/-- a slice's part (left out, or an int) -/
def PO (X : Cx) (e : Option Expr) (t : TO) : Prop :=
  ∀ (pins : List (Addr × Obj)) (s : Shared) (σ : St) (H : Hp) (Q : Option Int → Hp → Prop), Inv X pins σ H s → t σ H Q →
    wpAny (model X.prog X.w) X.A (evalPart e X.env) (fun u s' => ∃ o H', Inv X pins σ H' s' ∧ IsPart u o ∧ Q o H') X.xe s
def tNoPart : TO := fun _ H Q => Q none H
def tPart (t : TE) : TO := fun σ H Q => t σ H fun x H1 => ∃ i, x = .int i ∧ Q (some i) H1

theorem intsAre_of {ns : List Int} : ∀ {us : List Value}, Vals (ns.map V.int) us → IntsAre us ns := by
  induction ns with
  | nil => intro us r; rw [List.map_nil] at r; cases r; exact .nil
  | cons n ns ih =>
    intro us r
    rw [List.map_cons] at r
    cases r with
    | cons r1 r2 =>
      obtain ⟨t, e⟩ := r1
      subst e
      exact .cons n t (ih r2)

section
variable {X : Cx} {e : Expr} {te : TE} {lo hi : Option Expr} {tl th : TO} {pos p2 : Pos}

theorem po_none : PO X none tNoPart := by
  intro pins s σ H Q I h
  rw [evalPart_none]
  exact wpAny_pure ⟨none, H, I, .none, h⟩
theorem po_some (h : PE X e te) : PO X (some e) (tPart te) := by
  intro pins s σ H Q I hw
  rw [evalPart_some]
  refine thn (h pins s σ H _ I hw) fun u s1 ⟨x, H1, I1, r1, q1⟩ => ?_
  obtain ⟨i, rfl, q⟩ := q1
  obtain ⟨t, rfl⟩ := r1
  exact ⟨some i, H1, I1, .int i t, q⟩

/-- what a slice of a value is, by values: the slice object stands at sl -/
def SlR (X : Cx) (r : V → Option Int → Option Int → Hp → VK → Prop) : Prop :=
  ∀ (pins : List (Addr × Obj)) (s : Shared) (σ : St) (H : Hp) (x : V) (v vl vu : Value) (lo hi : Option Int) (sl : Addr) (Q : VK), Inv X pins σ H s → RelV x v → s.heap.IsSliceOf sl vl vu .none → IsPart vl lo → IsPart vu hi → r x lo hi H Q →
    ∃ T id, typeLookup (.type T) "__getitem__" = pure (some (.builtin id)) ∧ s.TypeIs v T ∧ wpAny (model X.prog X.w) X.A (getItem v (.ref sl)) (EP X pins σ Q) X.xe s
def tSl (r : V → Option Int → Option Int → Hp → VK → Prop) (te : TE) (tl th : TO) : TE := fun σ H Q => te σ H fun x H1 => tl σ H1 fun l H2 => th σ H2 fun u H3 => r x l u H3 Q
/-- a[lo:hi], any a -/
theorem pe_slice {r : V → Option Int → Option Int → Hp → VK → Prop} (hr : SlR X r) (he : PE X e te) (hl : PO X lo tl) (hu : PO X hi th) : PE X (.Subscript e (.Slice lo hi none p2) pos) (tSl r te tl th) := by
  intro pins s σ H Q I h
  refine Subscript_ (thn (he pins s σ H _ I h) fun v s1 ⟨x, H1, I1, r1, q1⟩ => ?_)
  refine wpAny_Slice (thn (hl pins s1 σ H1 _ I1 q1) fun vl s2 ⟨l, H2, I2, pl, q2⟩ => thn (hu pins s2 σ H2 _ I2 q2) fun vu s3 ⟨u, H3, I3, pu, q3⟩ => ?_)
  rw [evalPart_none]
  refine wpAny_pure ?_
  have I4 : Inv X pins σ H3 { s3 with heap := s3.heap.push { cls := .type "slice", data := .fields #[vl, vu, .none] } } := I3.kept (t' := s3.toks) fun b ob q => Heap.get?_push_of_some _ q
  obtain ⟨T, id, hT, ht, hg⟩ := hr pins { s3 with heap := s3.heap.push { cls := .type "slice", data := .fields #[vl, vu, .none] } } σ H3 x v vl vu l u s3.heap.objs.size Q I4 r1 (Heap.IsSliceOf.new ..) pl pu q3
  show wpAny (model X.prog X.w) X.A (subscriptTail e (.Slice lo hi none p2) v (.ref s3.heap.objs.size)) (EP X pins σ Q) X.xe { s3 with heap := s3.heap.push { cls := .type "slice", data := .fields #[vl, vu, .none] } }
  exact tail_any (ops := [.ref s3.heap.objs.size, v]) ht hT hg (by with_unfolding_all rfl)

/-- the items of xs[lo:hi] -/
def cutV (xs : List V) (lo hi : Option Int) : List V := (xs.drop (HT.sIx xs.length 0 lo)).take (HT.sIx xs.length xs.length hi - HT.sIx xs.length 0 lo)
theorem cutV_length (xs : List V) (lo hi : Option Int) : (cutV xs lo hi).length ≤ xs.length := by
  unfold cutV
  rw [List.length_take, List.length_drop]
  omega
/-- t[lo:hi], not the whole of it (the whole would be t itself) -/
def rSlT (K : PySem.W.Frag) : V → Option Int → Option Int → Hp → VK → Prop := fun x lo hi H Q => ∃ a xs, x = .ref a ∧ SqT K H a xs ∧
  ¬ (HT.sIx xs.length 0 lo = 0 ∧ HT.sIx xs.length xs.length hi = xs.length) ∧ ∀ p, H p = none → Q (.ref p) (upd H p (.tup (cutV xs lo hi)))
theorem sl_tup : SlR X (rSlT X.K) := by
  intro pins s σ H x v vl vu lo hi sl Q I rx hs pl pu h
  obtain ⟨a, xs, rfl, hx, hw, q⟩ := h
  cases rx
  obtain ⟨its, r, ht, hz⟩ := I.tuple hx
  have hlen : its.toArray.size = xs.length := by rw [List.size_toArray]; exact r.length.symm
  refine ⟨"tuple", _, PyProof.Rows.slot_tuple_getitem.lookup, ht.typeIs, ?_⟩
  refine HT.getItem_tuple_cut ht hs pl pu (by rw [hlen]; exact hw) ?_ (by rw [hlen]; exact hz)
  rw [hlen]
  refine ⟨.ref s.heap.objs.size, _, I.laid (t' := s.toks) (o := .tup (cutV xs lo hi)) (fun b ob q => Heap.get?_push_of_some _ q) (Nat.le_refl _) ?_, rfl, q _ (I.hok.fresh (Nat.le_refl _))⟩
  exact ⟨Nat.le_trans (cutV_length xs lo hi) hz, _, (r.drop (HT.sIx xs.length 0 lo)).take (HT.sIx xs.length xs.length hi - HT.sIx xs.length 0 lo), IsTup.new _ _⟩

/-! ### t < u, t + u -/
end
end L2

namespace L2
open PySem PySem.Spec PyProof.Rows

/-! ### places -/
/-- the place that an index of any sign means -/
def ixN (n : Nat) (i : Int) : Option Nat := if 0 ≤ i then (if i < n then some i.toNat else none) else if -(n : Int) ≤ i then some (i + n).toNat else none
def atI {α : Type} (xs : List α) (i : Int) : Option α := (ixN xs.length i).bind fun j => xs[j]?
theorem ixN_seq {n : Nat} {i : Int} {j : Nat} (h : ixN n i = some j) : seqIndex? i n = some j ∧ j < n ∧ -(n : Int) ≤ i ∧ i < n := by
  unfold ixN at h
  by_cases h0 : 0 ≤ i
  · rw [if_pos h0] at h
    by_cases h1 : i < n
    · rw [if_pos h1] at h
      have e : i.toNat = j := Option.some.inj h
      exact ⟨by rw [seqIndex_of h0 h1, e], by omega, by omega, h1⟩
    · rw [if_neg h1] at h; cases h
  · rw [if_neg h0] at h
    by_cases h1 : -(n : Int) ≤ i
    · rw [if_pos h1] at h
      have e : (i + n).toNat = j := Option.some.inj h
      exact ⟨by rw [seqIndex_neg (by omega) h1, e], by omega, h1, by omega⟩
    · rw [if_neg h1] at h; cases h
theorem atI_get {α : Type} {xs : List α} {i : Int} {v : α} (h : atI xs i = some v) : ∃ j, seqIndex? i xs.length = some j ∧ xs[j]? = some v ∧ j < xs.length ∧ -(xs.length : Int) ≤ i ∧ i < xs.length := by
  unfold atI at h
  cases e : ixN xs.length i with
  | none => rw [e] at h; cases h
  | some j =>
    rw [e] at h
    obtain ⟨h1, h2, h3, h4⟩ := ixN_seq e
    exact ⟨j, h1, h, h2, h3, h4⟩
theorem atI_nat {α : Type} {xs : List α} {j : Nat} {v : α} (h : xs[j]? = some v) : atI xs (j : Int) = some v := by
  have hj : j < xs.length := (List.getElem?_eq_some_iff.mp h).1
  have e : ixN xs.length (j : Int) = some j := by
    unfold ixN
    rw [if_pos (by omega), if_pos (by omega)]; simp
  unfold atI; rw [e]; exact h
/-! ### what may be subscripted -/
/-- what stands as an index of a plain subscript -/
def PlainIx (b : Expr) : Prop := ∀ o i, subscripted b false o i = operate [o, i] (getItem o i)
/-- a subscript by values -/
def IxR (X : Cx) (r : R2) : Prop :=
  ∀ (value slice : Expr) (pins : List (Addr × Obj)) (s : Shared) (σ : St) (H : Hp) (x y : V) (v u : Value) (Q : VK), Inv X pins σ H s → RelV x v → RelV y u → r x y H Q →
    subscripted slice false v u = operate [v, u] (getItem v u) → wpAny (model X.prog X.w) X.A (subscriptTail value slice v u) (EP X pins σ Q) X.xe s
/-- a call of a builtin's method by values: the receiver, the arguments -/
def MtR (X : Cx) (id : String) (r : V → List V → Hp → VK → Prop) : Prop :=
  ∀ (pins : List (Addr × Obj)) (s : Shared) (σ : St) (H : Hp) (x : V) (xs : List V) (v : Value) (us : List Value) (Q : VK), Inv X pins σ H s → RelV x v → Vals xs us → r x xs H Q →
    wpAny (model X.prog X.w) X.A (call (.builtin id) (v :: us)) (EP X pins σ Q) X.xe s
section
variable {X : Cx} {a b : Expr} {ta tb : TE} {pos : Pos}
/-- a[b] -/
theorem pe_ix {r : R2} (hr : IxR X r) (ha : PE X a ta) (hb : PE X b tb) (hs : PlainIx b) : PE X (.Subscript a b pos) (tOp r ta tb) := by
  intro pins s σ H Q I h
  exact Subscript_ (binT ha hb I h fun v u s2 x y H2 I2 rx ry q => hr a b pins s2 σ H2 x y v u Q I2 rx ry q (hs _ _))

def rIxL (K : PySem.W.Frag) : R2 := fun x y H Q => ∃ p xs i v, x = .ref p ∧ y = .int i ∧ SqL K H p xs ∧ atI xs i = some v ∧ Q v H
def rIxT (K : PySem.W.Frag) : R2 := fun x y H Q => ∃ p xs i v, x = .ref p ∧ y = .int i ∧ SqT K H p xs ∧ atI xs i = some v ∧ Q v H
theorem ix_list : IxR X (rIxL X.K) := by
  intro value slice pins s σ H x y v u Q I rx ry h hs
  obtain ⟨p, xs, i, z, rfl, rfl, hq, he, q⟩ := h
  cases rx
  obtain ⟨t, rfl⟩ := ry
  obtain ⟨its, r, pl, hz⟩ := I.list hq
  obtain ⟨j, h1, h2, h3, h4, h5⟩ := atI_get he
  obtain ⟨w, ew, rw'⟩ := r.get h2
  have hl := r.length
  have hn := line63
  have fin : EP X pins σ Q w s := ⟨z, H, I, rw', q⟩
  by_cases h0 : 0 ≤ i
  · have hj : i.toNat = j := by
      rw [seqIndex_of h0 h5] at h1
      exact Option.some.inj h1
    exact item_listR pl.isList h0 (by omega) (by rw [hj]; simpa using ew) fin hs
  · have hj : (i + (its.toArray.size : Int)).toNat = j := by
      rw [seqIndex_neg (by omega) h4] at h1
      rw [List.size_toArray, ← hl]
      exact Option.some.inj h1
    exact subscriptTail_builtinR (x := w) pl.isList.typeIs slot_list_getitem.lookup
      (wpAny_getItem_list_neg (Q := fun r s' => r = w ∧ EP X pins σ Q r s') pl.isList (by omega) (by rw [List.size_toArray] <;> omega) (by omega) (by rw [hj]; simpa using ew) ⟨rfl, fin⟩) hs
theorem ix_tup : IxR X (rIxT X.K) := by
  intro value slice pins s σ H x y v u Q I rx ry h hs
  obtain ⟨p, xs, i, z, rfl, rfl, hq, he, q⟩ := h
  cases rx
  obtain ⟨t, rfl⟩ := ry
  obtain ⟨its, r, pl, hz⟩ := I.tuple hq
  obtain ⟨j, h1, h2, h3, h4, h5⟩ := atI_get he
  obtain ⟨w, ew, rw'⟩ := r.get h2
  have hl := r.length
  have hn := line63
  have fin : EP X pins σ Q w s := ⟨z, H, I, rw', q⟩
  exact subscriptTail_builtinR (x := w) pl.typeIs slot_tuple_getitem.lookup
    (getItem_tuple (j := j) (Q := fun r s' => r = w ∧ EP X pins σ Q r s') pl (by omega) (by omega) (by rw [List.size_toArray, ← hl]; exact h1) (by simpa using ew) ⟨rfl, fin⟩) hs
/-! ### xs[i] = v, any sign -/
/-- the list's object behind a store -/
theorem mapSeq_set (its : List Value) (n j : Nat) (u : Value) : Obj.mapSeq (·.setIfInBounds j u) { cls := .type "list", data := .seq its.toArray n } = { cls := .type "list", data := .seq (its.set j u).toArray n } := by
  simp [Obj.mapSeq]
theorem Inv.lst {pins : List (Addr × Obj)} {σ : St} {H : Hp} {s : Shared} {p : Addr} {xs : List V} (I : Inv X pins σ H s) (h : H p = some (.lst xs)) :
    ∃ (its : List Value) (n : Nat), Vals xs its ∧ s.heap.get? p = some { cls := .type "list", data := .seq its.toArray n } ∧ xs.length ≤ sizeLine := by
  obtain ⟨z, its, n, r, e⟩ := I.hok p _ h
  exact ⟨its, n, r, e, z⟩
/-- the list at p is written by an update of its object -/
theorem Inv.lstUpd {pins : List (Addr × Obj)} {σ : St} {H : Hp} {s : Shared} {p : Addr} {xs ys : List V} {its its' : List Value} {n n' : Nat} {f : Obj → Obj} (I : Inv X pins σ H s) (h : H p = some (.lst xs))
    (ho : s.heap.get? p = some { cls := .type "list", data := .seq its.toArray n }) (hf : f { cls := .type "list", data := .seq its.toArray n } = { cls := .type "list", data := .seq its'.toArray n' }) (r : Vals ys its') (hz : ys.length ≤ sizeLine) (t : Nat) :
    Inv X pins σ (upd H p (.lst ys)) { s with heap := s.heap.update p f, toks := t } := by
  have e : (s.heap.update p f).get? p = some { cls := .type "list", data := .seq its'.toArray n' } := by
    rw [Heap.get?_update_self f ho (by rw [hf] <;> rfl), hf]
  refine I.write (x := p) (e := p) (by rw [h]; trivial) (.inl rfl) (fun b u hb q => (Heap.get?_update_other _ _ (Ne.symm hb)).trans q) ⟨_, e⟩ ?_
  exact ⟨hz, its', n', r, e⟩
def rSetL : V → V → V → Hp → (Hp → Prop) → Prop := fun o i v H Q => ∃ p xs k j, o = .ref p ∧ i = .int k ∧ H p = some (.lst xs) ∧ ixN xs.length k = some j ∧ Q (upd H p (.lst (xs.set j v)))
theorem set_list : PSet X rSetL := by
  intro pins s σ H o i v ov iv u Q I ro ri rv h
  obtain ⟨p, xs, k, j, rfl, rfl, hp, hj, q⟩ := h
  cases ro
  obtain ⟨t, rfl⟩ := ri
  obtain ⟨its, n, r, ho, hz⟩ := I.lst hp
  obtain ⟨h1, h2, h3, h4⟩ := ixN_seq hj
  have hl := r.length
  have hn := line63
  have I' : Inv X pins σ (upd H p (.lst (xs.set j v))) { s with heap := s.heap.update p (Obj.mapSeq (·.setIfInBounds j u)) } :=
    I.lstUpd hp ho (mapSeq_set its n j u) (r.set rv j) (by rw [List.length_set]; exact hz) s.toks
  by_cases h0 : 0 ≤ k
  · have hk : k.toNat = j := by
      rw [seqIndex_of h0 h4] at h1
      exact Option.some.inj h1
    exact PySem.W.ki_setAt ho h0 (by omega) (by rw [List.size_toArray, ← hl]; exact h4) (by rw [hk]; exact ⟨_, I', q⟩)
  · have hk : (k + (its.toArray.size : Int)).toNat = j := by
      rw [seqIndex_neg (by omega) h3] at h1
      rw [List.size_toArray, ← hl]
      exact Option.some.inj h1
    exact PySem.W.ki_setBack ho (by omega) (by rw [List.size_toArray, ← hl]; exact h3) (by omega) (by rw [hk]; exact ⟨_, I', q⟩)

/-! ### slices -/
theorem slice_bounds (lo hi : Option Int) (n : Nat) : (sliceBounds lo hi none n).1 = ((HT.sIx n 0 lo : Nat) : Int) ∧ (sliceBounds lo hi none n).2.1 = ((HT.sIx n n hi : Nat) : Int) ∧ (sliceBounds lo hi none n).2.2 = 1 := by
  refine ⟨?_, ?_, rfl⟩
  · cases lo with
    | none => simp [sliceBounds, HT.sIx]
    | some i =>
      simp only [sliceBounds, HT.sIx, Option.getD_none, show (1 : Int) > 0 by decide, if_true]
      by_cases h : i < 0
      · simp only [h, if_true] <;> omega
      · simp only [h, if_false] <;> omega
  · cases hi with
    | none => simp [sliceBounds, HT.sIx]
    | some i =>
      simp only [sliceBounds, HT.sIx, Option.getD_none, show (1 : Int) > 0 by decide, if_true]
      by_cases h : i < 0
      · simp only [h, if_true] <;> omega
      · simp only [h, if_false] <;> omega
theorem slicePick_cut (its : List Value) (lo hi : Option Int) : slicePick its.toArray lo hi none = ((its.drop (HT.sIx its.length 0 lo)).take (HT.sIx its.length its.length hi - HT.sIx its.length 0 lo)).toArray := by
  obtain ⟨h1, h2, h3⟩ := slice_bounds lo hi its.toArray.size
  unfold slicePick
  rw [h1, h2, h3]
  simp only [sliceRange_one, pick_run, List.size_toArray] <;> rfl
/-- xs[lo:hi] of a list: a new list -/
def rSlL (K : PySem.W.Frag) : V → Option Int → Option Int → Hp → VK → Prop := fun x lo hi H Q => ∃ a xs, x = .ref a ∧ SqL K H a xs ∧ ∀ p, H p = none → Q (.ref p) (upd H p (.lst (cutV xs lo hi)))
theorem sl_list : SlR X (rSlL X.K) := by
  intro pins s σ H x v vl vu lo hi sl Q I rx hs pl pu h
  obtain ⟨a, xs, rfl, hx, q⟩ := h
  cases rx
  obtain ⟨its, r, ht, hz⟩ := I.list hx
  have hlen := r.length
  refine ⟨"list", _, slot_list_getitem.lookup, ht.isList.typeIs, ?_⟩
  refine wpAny_getItem_list_slice ht.isList hs pl pu .none (by simp) ?_ (by rw [List.size_toArray] <;> omega)
  rw [slicePick_cut, ← hlen]
  refine ⟨.ref s.heap.objs.size, _, I.laid (t' := s.toks) (o := .lst (cutV xs lo hi)) (fun b ob q => Heap.get?_push_of_some _ q) (Nat.le_refl _) ?_, rfl, q _ (I.hok.fresh (Nat.le_refl _))⟩
  exact ⟨Nat.le_trans (cutV_length xs lo hi) hz, _, 0, (r.drop (HT.sIx xs.length 0 lo)).take (HT.sIx xs.length xs.length hi - HT.sIx xs.length 0 lo), Heap.get?_push_size _ rfl⟩

/-! ### in, not in: flat items -/
def flatV : V → Bool
  | .non => true
  | .bl _ => true
  | .int _ => true
  | .str _ => true
  | _ => false
/-- == of flat values -/
def eqV : V → V → Bool
  | .non, .non => true
  | .bl a, .bl b => a == b
  | .bl a, .int b => (if a then 1 else 0) == b
  | .int a, .bl b => a == (if b then 1 else 0)
  | .int a, .int b => a == b
  | .str a, .str b => a == b
  | _, _ => false
theorem eqAt_V {A : Around} {s : Shared} {y x : V} {u v : Value} (ry : RelV y u) (rx : RelV x v) (fy : flatV y = true) (fx : flatV x = true) : SeqAt.EqAt A s u v (eqV y x) := by
  cases y with
  | non =>
    cases ry
    cases x with
    | non => cases rx; exact SeqAt.EqAt.same _
    | bl b => cases rx; exact SeqAt.EqAt.none_bool b
    | int b => obtain ⟨t, rfl⟩ := rx; exact SeqAt.EqAt.none_int b t
    | str b => obtain ⟨t, rfl⟩ := rx; exact SeqAt.EqAt.none_str b t
    | _ => exact absurd (show false = true from fx) Bool.false_ne_true
  | bl a =>
    cases ry
    cases x with
    | non => cases rx; exact SeqAt.EqAt.bool_none a
    | bl b => cases rx; exact SeqAt.EqAt.bool_bool a b
    | int b => obtain ⟨t, rfl⟩ := rx; exact SeqAt.EqAt.bool_int a b t
    | str b => obtain ⟨t, rfl⟩ := rx; exact SeqAt.EqAt.bool_str a b t
    | _ => exact absurd (show false = true from fx) Bool.false_ne_true
  | int a =>
    obtain ⟨t', rfl⟩ := ry
    cases x with
    | non => cases rx; exact SeqAt.EqAt.int_none a t'
    | bl b => cases rx; exact SeqAt.EqAt.int_bool a t' b
    | int b => obtain ⟨t, rfl⟩ := rx; exact SeqAt.EqAt.int_int a t' b t
    | str b => obtain ⟨t, rfl⟩ := rx; exact SeqAt.EqAt.int_str a t' b t
    | _ => exact absurd (show false = true from fx) Bool.false_ne_true
  | str a =>
    obtain ⟨t', rfl⟩ := ry
    cases x with
    | non => cases rx; exact SeqAt.EqAt.str_none a t'
    | bl b => cases rx; exact SeqAt.EqAt.str_bool a t' b
    | int b => obtain ⟨t, rfl⟩ := rx; exact SeqAt.EqAt.str_int a t' b t
    | str b => obtain ⟨t, rfl⟩ := rx; exact SeqAt.EqAt.str_str a t' b t
    | _ => exact absurd (show false = true from fx) Bool.false_ne_true
  | _ => exact absurd (show false = true from fy) Bool.false_ne_true
/-- the items' answers, read off the values (a value's own answer does not lean on its token) -/
def eqU (x : V) (u : Value) : Bool := match u with
  | .none => eqV .non x
  | .bool b => eqV (.bl b) x
  | .int i _ => eqV (.int i) x
  | .str z _ => eqV (.str z) x
  | _ => false
theorem eqU_of {x y : V} {u : Value} (r : RelV y u) (f : flatV y = true) : eqU x u = eqV y x := by
  cases y with
  | non => cases r; rfl
  | bl b => cases r; rfl
  | int i => obtain ⟨t, rfl⟩ := r; rfl
  | str z => obtain ⟨t, rfl⟩ := r; rfl
  | _ => exact absurd (show false = true from f) Bool.false_ne_true
theorem any_eqU {x : V} : ∀ {xs : List V} {us : List Value}, Vals xs us → xs.all flatV = true → us.any (eqU x) = xs.any fun y => eqV y x
  | _, _, .nil, _ => rfl
  | y :: xs, u :: us, .cons r t, f => by
    rw [List.all_cons, Bool.and_eq_true] at f
    rw [List.any_cons, List.any_cons, eqU_of r f.1, any_eqU t f.2]
theorem mem_eqAt {A : Around} {s : Shared} {x : V} {v : Value} (rx : RelV x v) (fx : flatV x = true) : ∀ {xs : List V} {us : List Value}, Vals xs us → xs.all flatV = true → ∀ u ∈ us, SeqAt.EqAt A s u v (eqU x u)
  | _, _, .nil, _ => fun u hu => by cases hu
  | y :: xs, u :: us, .cons r t, f => fun u' hu => by
    rw [List.all_cons, Bool.and_eq_true] at f
    rcases List.mem_cons.mp hu with rfl | hu
    · rw [eqU_of r f.1]; exact eqAt_V r rx f.1 fx
    · exact mem_eqAt rx fx t f.2 u' hu
def inV (x : V) (xs : List V) : Bool := xs.any fun y => eqV y x
/-- x in a list or tuple of flat items -/
def rIn (K : PySem.W.Frag) (neg : Bool) : R2 := fun x y H Q => ∃ p xs, y = .ref p ∧ (SqL K H p xs ∨ SqT K H p xs) ∧ flatV x = true ∧ xs.all flatV = true ∧ Q (.bl (if neg then !inV x xs else inV x xs)) H
theorem op_in_seq : OpR X (compareOp .In) (rIn X.K false) := by
  intro pins s σ H x y v u Q I rx ry h
  obtain ⟨p, xs, rfl, hq, fx, fs, q⟩ := h
  cases ry
  rcases hq with hq | hq
  · obtain ⟨its, r, pl, hz⟩ := I.list hq
    refine SeqAt.in_listAt (eqU x) pl.isList (fun w hw => mem_eqAt rx fx r fs w (by simpa using hw)) ⟨.bl _, H, I, rfl, ?_⟩
    rw [show its.toArray.any (eqU x) = its.any (eqU x) by simp, any_eqU r fs]
    exact q
  · obtain ⟨its, r, pl, hz⟩ := I.tuple hq
    refine SeqAt.in_tupleAt (eqU x) pl (fun w hw => mem_eqAt rx fx r fs w (by simpa using hw)) ⟨.bl _, H, I, rfl, ?_⟩
    rw [show its.toArray.any (eqU x) = its.any (eqU x) by simp, any_eqU r fs]
    exact q
theorem op_notIn_seq : OpR X (compareOp .NotIn) (rIn X.K true) := by
  intro pins s σ H x y v u Q I rx ry h
  obtain ⟨p, xs, rfl, hq, fx, fs, q⟩ := h
  cases ry
  rcases hq with hq | hq
  · obtain ⟨its, r, pl, hz⟩ := I.list hq
    refine SeqAt.notIn_listAt (eqU x) pl.isList (fun w hw => mem_eqAt rx fx r fs w (by simpa using hw)) ⟨.bl _, H, I, rfl, ?_⟩
    rw [show its.toArray.any (eqU x) = its.any (eqU x) by simp, any_eqU r fs]
    exact q
  · obtain ⟨its, r, pl, hz⟩ := I.tuple hq
    refine SeqAt.notIn_tupleAt (eqU x) pl (fun w hw => mem_eqAt rx fx r fs w (by simpa using hw)) ⟨.bl _, H, I, rfl, ?_⟩
    rw [show its.toArray.any (eqU x) = its.any (eqU x) by simp, any_eqU r fs]
    exact q
/-! ### len, list(x), tuple(x) of any list or tuple that is read -/
theorem call_len_seq : CallR X (.builtin "len") (fun xs H Q => ∃ p ys, xs = [.ref p] ∧ (SqL X.K H p ys ∨ SqT X.K H p ys) ∧ Q (.int ys.length) H) := by
  intro pins s σ H xs us Q I r h
  obtain ⟨p, ys, rfl, hq, q⟩ := h
  obtain ⟨u, rfl, rx⟩ := vals1 r
  cases rx
  have hn := line63
  rcases hq with hq | hq
  · obtain ⟨its, r', pl, hz⟩ := I.list hq
    have hlen := r'.length
    exact Calls.call_len_list pl.isList (by simp only [List.size_toArray] <;> omega) ⟨.int ys.length, H, I.tok _, ⟨s.toks + 1, by rw [List.size_toArray, hlen]⟩, q⟩
  · obtain ⟨its, r', pl, hz⟩ := I.tuple hq
    have hlen := r'.length
    exact len_tuple pl (by simp only [List.size_toArray] <;> omega) ⟨.int ys.length, H, I.tok _, ⟨s.toks + 1, by rw [List.size_toArray, hlen]⟩, q⟩
theorem call_list_of : CallR X (.type "list") (fun xs H Q => ∃ p ys, xs = [.ref p] ∧ (SqL X.K H p ys ∨ SqT X.K H p ys) ∧ ∀ l, H l = none → Q (.ref l) (upd H l (.lst ys))) := by
  intro pins s σ H xs us Q I r h
  obtain ⟨p, ys, rfl, hq, q⟩ := h
  obtain ⟨u, rfl, rx⟩ := vals1 r
  cases rx
  have fin : ∀ (its : List Value), Vals ys its → ys.length ≤ sizeLine → ∀ (h' : Heap) (c' : Nat), (∀ b o', s.heap.get? b = some o' → h'.get? b = some o') →
      h'.get? s.heap.objs.size = some { cls := .type "list", dict := none, data := .seq its.toArray c', slots := #[] } → EP X pins σ Q (.ref s.heap.objs.size) { s with heap := h' } := fun its r' hz h' c' kp e =>
    ⟨.ref s.heap.objs.size, _, I.laid (t' := s.toks) kp (Nat.le_refl _) (show ObjOk X.prog X.w _ h' _ (.lst ys) from ⟨hz, its, c', r', e⟩), rfl, q _ (I.hok.fresh (Nat.le_refl _))⟩
  rcases hq with hq | hq
  · obtain ⟨its, r', pl, hz⟩ := I.list hq
    have hlen := r'.length
    obtain ⟨o, ho, hc, n, hd⟩ := pl.isList
    exact call_list_seq p (.inl rfl) ho hc hd (fun h' c' kp e => fin its r' hz h' c' kp e) (by simp only [List.size_toArray] <;> omega)
  · obtain ⟨its, r', pl, hz⟩ := I.tuple hq
    have hlen := r'.length
    obtain ⟨o, ho, hc, n, hd⟩ := pl
    exact call_list_seq p (.inr rfl) ho hc hd (fun h' c' kp e => fin its r' hz h' c' kp e) (by simp only [List.size_toArray] <;> omega)
/-! ### the call of a builtin's method: o.m(..) -/
/-- the value is of that builtin type -/
def tyV (K : PySem.W.Frag) (T : String) (x : V) (H : Hp) : Prop := match x with
  | .str _ => T = "str"
  | .int _ => T = "int"
  | .ref p => (T = "list" ∧ ∃ xs, SqL K H p xs) ∨ (T = "tuple" ∧ ∃ o, K.lookup p = some o ∧ o.cls = .type "tuple" ∧ o.dict = none) ∨
      (T = "dict" ∧ ((∃ kvs, H p = some (.dK kvs)) ∨ ∃ kvs, H p = some (.dT kvs))) ∨ (T = "set" ∧ ∃ S n, H p = some (.set S n))
  | _ => False
theorem tyV_is {pins : List (Addr × Obj)} {σ : St} {H : Hp} {s : Shared} {T : String} {x : V} {v : Value} (I : Inv X pins σ H s) (r : RelV x v) (ty : tyV X.K T x H) :
    s.TypeIs v T ∧ ∀ a, v = .ref a → ∃ ob, s.heap.get? a = some ob ∧ ob.dict = none := by
  cases x with
  | str z =>
    obtain ⟨t, rfl⟩ := r
    cases (show T = "str" from ty)
    exact ⟨typeIs_str s z t, fun _ e => nomatch e⟩
  | int i =>
    obtain ⟨t, rfl⟩ := r
    cases (show T = "int" from ty)
    exact ⟨typeIs_int s i t, fun _ e => nomatch e⟩
  | ref p =>
    cases r
    rcases ty with ⟨rfl, xs, hq⟩ | ⟨rfl, o, hk, hc, hd⟩ | ⟨rfl, hk⟩ | ⟨rfl, S, n, hk⟩
    · obtain ⟨its, _, pl, _⟩ := I.list hq
      refine ⟨pl.isList.typeIs, fun a e => ?_⟩
      cases e
      obtain ⟨o, n, e, c, hd, _⟩ := pl
      exact ⟨o, e, hd⟩
    · refine ⟨⟨o, I.kIn p o hk, hc⟩, fun a e => ?_⟩
      cases e
      exact ⟨o, I.kIn _ o hk, hd⟩
    · have z : ∃ o, s.heap.get? p = some o ∧ o.ExactDict := by
        rcases hk with ⟨kvs, hk⟩ | ⟨kvs, hk⟩
        · obtain ⟨_, _, _, _, o, _, _, e, ex, _⟩ := I.hok p _ hk
          exact ⟨o, e, ex⟩
        · obtain ⟨_, _, _, _, o, _, _, e, ex, _⟩ := I.hok p _ hk
          exact ⟨o, e, ex⟩
      obtain ⟨o, e, ex⟩ := z
      refine ⟨⟨o, e, ex.1⟩, fun a e2 => ?_⟩
      cases e2
      exact ⟨o, e, ex.2.1⟩
    · obtain ⟨o, _, _, _, e, ex, _⟩ := I.hok p _ hk
      refine ⟨⟨o, e, ex.1⟩, fun a e2 => ?_⟩
      cases e2
      exact ⟨o, e, ex.2.1⟩
  | _ => exact False.elim ty
def tBM (K : PySem.W.Frag) (T : String) (r : V → List V → Hp → VK → Prop) (to : TE) (t : TA) : TE := fun σ H Q => to σ H fun x H1 => tyV K T x H1 ∧ t σ H1 fun xs H2 => r x xs H2 Q
variable {o e : Expr} {es : List Expr} {to : TE} {t : TA} {name : Str} {apos cpos : Pos} {T id : String} {r : V → List V → Hp → VK → Prop}
theorem pe_bm (pa : PlainAttrs T) (slot : Slot T name id) (hty : typeOf (.builtin id) = pure (.type "method_descriptor")) (hm : MtR X id r) (ho : PE X o to) (ha : PA X (e :: es) t)
    (hbase : attributeBase o name X.env (eval o X.env) = eval o X.env := by rfl)
    (hfew : ((backTo cpos (starEach (e :: es) X.env)).all (fun x => !x.1) && (backToKw cpos (keywordEach [] X.env)).all (fun x => x.1.isSome)
      && decide ((e :: es).length + ([] : List Keyword).length + (if ([] : List Keyword).isEmpty then 0 else 1) < 30)) = true := by rfl)
    (hline : (apos.endLine == cpos.line) = true := by rfl) (hs : starEach (e :: es) X.env = (false, eval e X.env) :: starEach es X.env := by rfl) (hplain : (backTo cpos (starEach es X.env)).any (·.1) = false := by rfl) :
    PE X (.Call (.Attribute o name apos) (e :: es) [] cpos) (tBM X.K T r to t) := by
  intro pins s σ H Q I h
  refine wpAny_Call_method_late hbase hfew hline rfl (thn (ho pins s σ H _ I h) fun v s1 ⟨x, H1, I1, r1, ty, q1⟩ => ?_)
  obtain ⟨h1, h2⟩ := tyV_is I1 r1 ty
  refine ⟨T, id, pa, slot, hty, h1, h2, ?_⟩
  have hA := ha cpos pins s1 σ H1 _ I1 q1
  rw [hs] at hA ⊢
  refine Calls.callWith_builtin (by show (false || (backTo cpos (starEach es X.env)).any (·.1)) = false; rw [hplain] <;> rfl) (Calls.evalArgs_plain ?_)
  exact thn hA fun us s2 ⟨vs, H2, I2, r2, q2⟩ => hm pins s2 σ H2 x vs v us Q I2 r1 r2 q2
/- xs.append(e), list.index on a module's tuple .. are MtR facts of 06m -/
end
end L2

namespace L2
open PySem PySem.Spec PyProof.Rows

def MtM (X : Cx) (id : String) (r : V → List V → Hp → VK → Prop) : Prop :=
  ∀ (pins : List (Addr × Obj)) (s : Shared) (σ : St) (H : Hp) (x : V) (xs : List V) (v : Value) (us : List Value) (Q : VK), Inv X pins σ H s → RelV x v → Vals xs us → r x xs H Q →
    wpAny (model X.prog X.w) X.A (call (.builtin id) (v :: us)) (EP X pins σ Q) X.xe s

/-! ### lists of values -/
theorem Vals.one : ∀ {x : V} {us : List Value}, Vals [x] us → ∃ u, us = [u] ∧ RelV x u
  | _, _, .cons r .nil => ⟨_, rfl, r⟩
theorem Vals.two : ∀ {x y : V} {us : List Value}, Vals [x, y] us → ∃ u v, us = [u, v] ∧ RelV x u ∧ RelV y v
  | _, _, _, .cons r (.cons q .nil) => ⟨_, _, rfl, r, q⟩
section
variable {X : Cx} {pins : List (Addr × Obj)} {σ : St} {H : Hp} {s : Shared} {l b : Addr} {xs ys zs : List V}

/-! ### the two steps: a tracked list is rewritten, a new list is laid -/
theorem Inv.lset {its its' : List Value} {n : Nat} {f : Array Value → Array Value} {t' : Nat} (I : Inv X pins σ H s) (hH : H l = some (.lst xs))
    (e : s.heap.get? l = some { cls := .type "list", data := .seq its.toArray n }) (hf : f its.toArray = its'.toArray) (hv : Vals ys its') (hz : ys.length ≤ sizeLine) :
    Inv X pins σ (upd H l (.lst ys)) { s with heap := s.heap.update l (Obj.mapSeq f), toks := t' } := by
  have q := PySem.IsL.update e f
  rw [hf] at q
  refine I.write (x := l) (e := l) (by rw [hH]; exact trivial) (.inl rfl) (fun b' u hb hu => (Heap.get?_update_other s.heap (Obj.mapSeq f) (Ne.symm hb)).trans hu) ⟨_, q⟩ ?_
  exact ⟨hz, its', _, hv, q⟩
theorem Inv.lstM (I : Inv X pins σ H s) (hH : H l = some (.lst xs)) : xs.length ≤ sizeLine ∧ ∃ (its : List Value) (n : Nat), Vals xs its ∧ xs.length = its.length ∧ s.heap.get? l = some { cls := .type "list", data := .seq its.toArray n } := by
  obtain ⟨z, its, n, r, e⟩ := I.hok l _ hH
  exact ⟨z, its, n, r, r.length, e⟩

end

section
variable {X : Cx}

/-! ### methods -/
def rAppend : V → List V → Hp → VK → Prop := fun x vs H Q => ∃ l xs y, x = .ref l ∧ vs = [y] ∧ H l = some (.lst xs) ∧ xs.length < sizeLine ∧ Q .non (upd H l (.lst (xs ++ [y])))
theorem mt_append : MtM X "list.append" rAppend := by
  intro pins s σ H x vs v us Q I rx rv h
  obtain ⟨l, xs, y, rfl, rfl, hH, hz, q⟩ := h
  cases rx
  obtain ⟨u, rfl, ru⟩ := rv.one
  obtain ⟨z, its, n, r, hl, e⟩ := I.lstM hH
  refine call_meets F.slot_list_append ⟨_, e, rfl⟩ F.entry_list_append (F.args_list_append_2 _ _) (PySem.list_append l its.toArray n u (by rw [List.size_toArray]; omega)) ⟨e, ?_⟩
  refine ⟨.non, _, I.lset (its' := its ++ [u]) hH e (by simp) (r.append (.cons ru .nil)) ?_, rfl, q⟩
  rw [List.length_append, List.length_singleton]
  omega

/-! ### list + list, list += list, list * int -/
/-! ### del xs[i] -/
end

/-! ### xs[a:b] = ys -/

end L2

namespace L2
open PySem PySem.Spec PyProof.Rows

/-! ### lists of pairs as tables -/


/-! ### a tracked dict, its keys ints and texts or tuples of these -/




/-! ### readings and rules -/


/-! ### displays -/

/-! ### methods -/


/-! ### dict(d): a copy -/


end L2

namespace Att
open PySem PySem.W PySem.Calls PyProof.Rows

/-! ### the script -/
theorem ints_of_wellAll {P : Params} {h : Heap} : ∀ (ns : List Int) (vs : List Value), WellAll P h vs (ns.map WData.int) → IntsAre vs ns := by
  intro ns
  induction ns with
  | nil =>
    intro vs w
    rw [List.map_nil] at w
    cases w
    exact .nil
  | cons n ns ih =>
    intro vs w
    rw [List.map_cons] at w
    cases w with
    | cons a b =>
      cases a
      exact .cons _ _ (ih _ b)

theorem script_of {l : OpenLaw} {n : Nat} (hn : l.most = some n) {P : Params} {h : Heap} {args : List WData} {vals : List Value}
    (hpre : l.row.toRowW.claim.pre args = true) (hwl : WellAll P h vals args) :
    ∃ a vs ns, vals = [Value.ref a] ∧ args = [WData.list (ns.map WData.int)] ∧ h.get? a = some { cls := .type "list", data := .seq vs.toArray } ∧ IntsAre vs ns ∧ ns.length ≤ n := by
  have hsh : WShape.hasAll [] args [.list .int] = true := (pre_splitW hpre).1
  have hc : l.pre.holds [] { args := args } = true := (pre_splitW hpre).2
  obtain ⟨d, r, rfl, h1, h2⟩ := hasAllW_cons hsh
  obtain rfl := hasAllW_nil h2
  obtain ⟨xs, rfl, h3⟩ := hasW_list h1
  obtain ⟨ns, rfl⟩ := items_int h3
  have hlen : ns.length ≤ n := by
    unfold OpenLaw.pre at hc
    have h4 : (WTm.not (.lt (.lit (.int (n : Int))) (.len (.arg 0)))).holds [] { args := [.list (ns.map .int)] } = true := by
      have h4 := (holds_andW hc).1
      rw [hn] at h4
      exact h4
    have h5 := condW_of h4 (w_not (w_lt w_lit (w_len_list (w_arg rfl))))
    rw [List.length_map] at h5
    refine Nat.le_of_not_lt fun q => ?_
    have q' : (n : Int) < ((ns.length : Nat) : Int) := by omega
    first
      | (rw [decide_eq_true q'] at h5; exact absurd h5 (by decide))
      | (simp at h5; omega)
  cases hwl with
  | cons w1 w2 =>
    cases w2
    cases w1 with
    | list ho hall => exact ⟨_, _, ns, rfl, rfl, ho, ints_of_wellAll ns _ hall, hlen⟩

theorem post_true (l : OpenLaw) (args : List WData) : l.row.toRowW.claim.post args (.bool true) args = true :=
  postW_of (r := l.row.toRowW) (X := (true == true))
    (show WShape.has [] (.bool true) .bool = true by first | rfl | decide | simp [WShape.has, WShape.arms, WShape.armsAll])
    (show (WTm.eq .res (.lit (.bool true))).value [] { args := args, res := some (.bool true), after := args } = some (.bool (true == true)) from w_eq_bool (w_res rfl) w_lit) rfl

/-! ### the attachment: holds_open's last premise (the goal 'hc' behind k_head) from a wpAny of the law's body -/
/-- the same from a codeAny of the CALL (for a layer whose function contracts speak of calls) -/
theorem attach_call {l : OpenLaw} {n : Nat} {q : Program} {loose : List Str} {XP : (Str → Option Value) → Heap → Prop} {YP : World → Heap → Prop} {d : DefRec}
    (hn : l.most = some n) (hdf : d.params.defaults = [])
    (call : ∀ (w : World) (s₀ s₁ : Shared) (mg mb : Str → Option Value) (fa : Addr) (o : Obj) (pm cd doc : Value) (a : Addr) (vs : List Value) (ns : List Int),
      Ground q loose [] XP w s₀ mg mb s₁.heap → YP w s₁.heap →
      s₁.heap.get? fa = some o → o.data = .func (docDef d.name d.params d.body d.scope pm cd doc) → s₁.heap.CodeRec cd d.name → mg d.name = some (.ref fa) →
      s₁.heap.get? a = some { cls := .type "list", data := .seq vs.toArray } → IntsAre vs ns → ns.length ≤ n → s₁.gens = #[] →
      codeAny (model l.prog w) callerA (.call (.ref fa) ⟨[.ref a], []⟩) (fun r s' => r = .ok (.ret (.bool true)) ∧ OldK s₁.heap s'.heap ∧ s'.os = s₁.os ∧ AllBare s'.gens) s₁) :
    WalkO q loose XP YP l.row.toRowW d [] (fun f vs => PySem.call f vs) := by
  intro w s₀ s₁ mg mb G Y fa o pm cd doc dV kV ho hd hcd hD hmg hg args vals as hpre hlay hrd hwl hlo
  obtain rfl : dV = .none := Dflts.none hD hdf
  obtain rfl : kV = .none := Dflts.noKw hD
  obtain ⟨a, vs, ns, rfl, rfl, hobj, hints, hlen⟩ := script_of hn hpre hwl
  refine enter_call (codeAny_mono (call w s₀ s₁ mg mb fa o pm cd doc a vs ns G Y ho (fd_plain hd) hcd hmg hobj hints hlen hg) fun r s' hq => ?_)
  obtain ⟨rfl, h2, h3, h4⟩ := hq
  exact ⟨.inl ⟨.bool true, .bool true, [], rfl, fun _ => rfl, .bool true, post_true l _, fun _ => ⟨List.Pairwise.nil, fun _ hm => (nomatch hm)⟩⟩, h2, h3, h4⟩

/-! ### rules over ANY heap (no ledger) from facts about the written part K: the library's own take a ledger (News) for what they write -/
end Att

namespace L2
open PySem PySem.Spec PyProof.Rows

theorem vals_ints : ∀ {vs : List Value} {ns : List Int}, IntsAre vs ns → Vals (ns.map V.int) vs
  | _, _, .nil => .nil
  | _, _, .cons n t h => .cons ⟨t, rfl⟩ (vals_ints h)

/-- nothing is tracked but the script, known to the object (or it is an object of the module) -/
def Only (H : Hp) : Prop := ∀ b, H b = none ∨ ∃ o xs, H b = some (.frz o (.lst xs))

/-- THE HEAD: the law's promise, at the heap behind the top. F, the promise of the law's def, may use that base is part of the heap (so K.In base, base.Ns mainGlobals mg stand in Mod) -/
theorem law_call {P : Program} {w : World} {K : PySem.W.Frag} {mg mb : Str → Option Value} {CX : CXT} {k : Nat} {fa a : Addr} {fd : FuncData} {x : Str} {sp : Sp} {s₁ : Shared} {vs : List Value} {ns : List Int}
    (KX : K.In s₁.heap) (hns : s₁.heap.Ns mainGlobals mg) (hb : s₁.heap.Ns builtinsNs mb) (hbb : ∀ x : Str, x ≠ "__name__" → mb x = bootBuiltins x) (hlim : s₁.heap.NoLimit) (hg : s₁.gens = #[])
    (ha : s₁.heap.get? a = some { cls := .type "list", data := .seq vs.toArray }) (hi : IntsAre vs ns) (hl : ns.length ≤ sizeLine) (hr : Room k callerA)
    (F : ∀ base : Heap, K.In base → base.Ns mainGlobals mg → FnOk P w K mg base CX k fa fd [x] sp) (hbind : ∀ (s : Shared) (u : Value), BindsTo s fd ⟨[u], []⟩ [(x, u)])
    (hsp : ∀ H : Hp, Only H → SqL K H a (ns.map V.int) → sp [.ref a] H (fun v _ => v = .bl true) fun _ _ _ => False)
    (hCX : ∀ H e s', CX [] H s₁ (fun _ _ _ => False) e s' → False) :
    codeAny (model P w) callerA (.call (.ref fa) ⟨[.ref a], []⟩) (fun r s' => r = .ok (.ret (.bool true)) ∧ OldK s₁.heap s'.heap ∧ s'.os = s₁.os ∧ AllBare s'.gens) s₁ := by
  have rv := vals_ints hi
  have lenV := hi.length
  -- from an abstract heap in which nothing but the script may be tracked
  have core : ∀ H : Hp, Only H → SqL K H a (ns.map V.int) → HOk P w H s₁.heap → (∀ b, H b ≠ none → b = a) → (H a ≠ none → K.lookup a = none) →
      codeAny (model P w) callerA (.call (.ref fa) ⟨[.ref a], []⟩) (fun r s' => r = .ok (.ret (.bool true)) ∧ OldK s₁.heap s'.heap ∧ s'.os = s₁.os ∧ AllBare s'.gens) s₁ := by
    intro H hO hS hok hA hK
    have base_of : ∀ {b : Addr} {o : Obj}, s₁.heap.get? b = some o → H b = none → (hidT s₁.heap H).get? b = some o := fun e n => hidT_get e n
    have noA : ∀ {b : Addr} {o : Obj} {es : Array DictEntry} {ep : Nat}, s₁.heap.get? b = some o → o.data = .dict es ep → H b = none := fun {b o es ep} e d => by
      cases q : H b with
      | none => rfl
      | some u =>
        have e' : b = a := hA b (by rw [q]; simp)
        subst e'
        rw [ha] at e; cases e
        have d' : Data.seq vs.toArray _ = Data.dict es ep := d
        cases d'
    have nsK : ∀ {b : Addr} {m : Str → Option Value}, s₁.heap.Ns b m → (hidT s₁.heap H).Ns b m := fun {b m} ⟨o, es, ep, e, d, r⟩ => ⟨o, es, ep, base_of e (noA e d), d, r⟩
    have hKb : K.In (hidT s₁.heap H) := fun b o e => base_of (KX b o e) (by
      cases q : H b with
      | none => rfl
      | some u =>
        have e' : b = a := hA b (by rw [q]; simp)
        subst e'
        rw [hK (by rw [q]; simp)] at e; cases e)
    have hM : Mod K mg (hidT s₁.heap H) := ⟨hKb, nsK hns, ⟨mb, nsK hb, hbb⟩, let ⟨mc, h1, h2⟩ := hlim; ⟨mc, nsK h1, h2⟩⟩
    have e0 : Env0 P w K mg (hidT s₁.heap H) callerA [] s₁ H := ⟨rfl, hM, fun b o e => of_hidT e, Nat.le_of_eq (hidT_size _ _), trivial, fun b hb => absurd (show b ∈ ([] : List Addr) from hb) (by simp), hok, .of_eq hg⟩
    refine codeAny_mono ((F _ hKb (nsK hns)).run callerA [] s₁ H ⟨[.ref a], []⟩ [.ref a] [.ref a] _ _ hr e0 (hbind s₁ (.ref a)) (.cons rfl .nil) (hsp H hO hS)) fun r s' h => ?_
    cases r with
    | error e => exact (hCX H e s' h).elim
    | ok fl =>
      cases fl with
      | next => exact False.elim h
      | brk => exact False.elim h
      | cont => exact False.elim h
      | ret u =>
        obtain ⟨v, H', os, bare, un, hok', r', q⟩ := h
        have q' : v = .bl true := q
        subst q'
        obtain rfl : u = Value.bool true := r'
        refine ⟨rfl, OldK.of_keep fun b o e => ?_, os, bare⟩
        cases q : H b with
        | none => exact un.keep b o e q (by intro z; exact absurd (show b ∈ ([] : List Addr) from z) (by simp)) (by simp)
        | some u =>
          rcases hO b with z | ⟨ob, xs, z⟩
          · rw [q] at z; cases z
          · have z2 := un.frzs b ob _ z
            obtain ⟨e1, _⟩ := hok b _ z
            obtain ⟨e2, _⟩ := hok' b _ z2
            rw [e] at e1; cases e1
            exact e2
  cases hk : K.lookup a with
  | some o =>
    -- the script is one of the module's own objects
    have e := KX a o hk
    rw [ha] at e
    cases e
    refine core (fun _ => none) (fun _ => .inl rfl) (.inr ⟨_, vs.toArray, _, hk, rfl, rfl, rfl, by rw [List.size_toArray, lenV]; exact hl, by simpa using rv⟩) (fun b u z => by have z' : (none : Option HO) = some u := z; cases z') (fun b z => absurd rfl z) fun z => absurd rfl z
  | none =>
    refine core (fun b => if b = a then some (.frz { cls := .type "list", data := .seq vs.toArray } (.lst (ns.map V.int))) else none) (fun b => ?_) (.inl (.inr ⟨{ cls := .type "list", data := .seq vs.toArray }, if_pos rfl⟩)) (fun b u z => ?_) (fun b z => ?_) fun _ => hk
    · by_cases hb : b = a
      · exact .inr ⟨_, _, if_pos hb⟩
      · exact .inl (if_neg hb)
    · by_cases hb : b = a
      · have z' := (if_pos hb).symm.trans z
        cases z'
        subst hb
        exact ⟨ha, by rw [List.length_map]; exact hl, vs, _, rv, ha⟩
      · have z' := (if_neg hb).symm.trans z
        cases z'
    · by_cases hb : b = a
      · exact hb
      · exact absurd (if_neg hb) z
end L2

namespace L2
open PySem PySem.Spec PyProof.Rows

/-- the goal that k_head leaves (case hc), from the law's promise. F gives the function object fd (K's own) once, then the promise over every base -/
theorem walk_of {l : PySem.W.OpenLaw} {n k : Nat} {q : Program} {loose : List Str} {XP : (Str → Option Value) → Heap → Prop} {YP : World → Heap → Prop} {d : DefRec} {K : Params → PySem.W.Frag} {CX : World → CXT} {sp : World → Sp} {x : Str}
    (hn : l.most = some n) (hn2 : n ≤ sizeLine) (hdf : d.params.defaults = []) (hr : Room k callerA)
    (hY : ∀ (w : World) (h : Heap), YP w h → (K w.params).In h)
    (F : ∀ (w : World) (mg : Str → Option Value) (fa : Addr) (h : Heap), (K w.params).In h → h.Ns mainGlobals mg → mg d.name = some (.ref fa) →
      ∃ fd : FuncData, (∀ (s : Shared) (u : Value), BindsTo s fd ⟨[u], []⟩ [(x, u)]) ∧
        ∀ base : Heap, (K w.params).In base → base.Ns mainGlobals mg → FnOk l.prog w (K w.params) mg base (CX w) k fa fd [x] (sp w))
    (hsp : ∀ (w : World) (H : Hp) (a : Addr) (ns : List Int), ns.length ≤ n → Only H → SqL (K w.params) H a (ns.map V.int) → sp w [.ref a] H (fun v _ => v = .bl true) fun _ _ _ => False)
    (hCX : ∀ (w : World) (H : Hp) (s : Shared) (e : Value) (s' : Shared), CX w [] H s (fun _ _ _ => False) e s' → False) :
    PySem.W.WalkO q loose XP YP l.row.toRowW d [] (fun f vs => PySem.call f vs) := by
  refine Att.attach_call hn hdf fun w s₀ s₁ mg mb fa o pm cd doc a vs ns G Y ho hd hcd hmg hobj hints hlen hg => ?_
  have KX := hY w _ Y
  obtain ⟨fd, hb, hF⟩ := F w mg fa _ KX G.T.g hmg
  exact law_call KX G.T.g G.T.b G.T.builtins G.T.nolimit hg hobj hints (Nat.le_trans hlen hn2) hr hF hb (fun H hO hS => hsp w H a ns hlen hO hS) fun H e s' => hCX w H s₁ e s'
end L2

/- THE LAST THEOREM (shape; LID, My.* are yours):
   My.Adr: a structure of the addresses that your layer names (classes, functions); My.Txt K t: a structure (Prop) of the equations over K;
   My.txt_mk : {K} {implicit addresses ..} (e1 : nsIn K mainGlobals "law" = some (some (.ref f))) (e2 : K.lookup f = some ⟨oc, od, .func (fnOf "law" "law" params body scope dV kV doc pm an cdv ct), sl⟩) (e3 : codeIn K cdv "law" = true) .. : ∃ t, My.Txt K t

set_option maxRecDepth 100000 in
set_option maxHeartbeats 0 in
theorem PySem.Challenge.cw_LID_holds : PySem.Challenge.rw_LID.Holds := by
  w_on; o_law; k_head; (case hw => w_witness2)
  k_fill
  refine L2.walk_of (l := PySem.Challenge.rw_LID) (n := 63) (k := 40) (x := "script") (CX := fun w => ..) (sp := fun _ => My.sp_law) rfl (by decide) rfl ⟨rfl, by decide, by decide⟩ (fun w h Y => PySem.W.kIn_of Y) ?F ?S ?C
  case F =>
    intro w mg fa h KX G hmg
    have T : ∃ t, My.Txt (L2.KOf KX) t := by
      dsimp only [L2.KOf]                          -- K must stand as «<heap const> w.params» for k_is
      refine' My.txt_mk ?e1 ?e2 ?e3 ..
      (case e1 => PySem.W.k_is)                    -- in the order: a name -> its address -> its object -> its parts
      (case e2 => PySem.W.k_is)
      ..
    obtain ⟨t, T⟩ := T
    have e0 := hmg.symm.trans (PySem.W.mg_of KX G T.law)
    cases e0                                       -- fa is the law's own address
    exact ⟨_, fun s u => .of_eq rfl, fun base kb nb => My.law_fn T kb nb⟩     -- if «.of_eq rfl» comes too early: refine' ⟨_, ?b, fun base kb nb => My.law_fn T kb nb⟩; exact fun s u => .of_eq rfl
  case S => exact fun w H a ns hl hO hS => ..
  case C => exact ..
(the tactic k_is has no namespace: write k_is) -/

/-! SHORT WORDS over the layer: a def of the text, its body, what a loop and a test want. -/
namespace L2
open PySem PySem.Spec PyProof.Rows

/-! ### the text by places -/
/-- the j-th statement of a class's body -/
def inClass (s : Stmt) (j : Nat) : Stmt := match s with
  | .ClassDef _ _ _ body _ _ _ _ _ _ _ => body.getD j (.Pass ⟨0, 0, 0, 0⟩)
  | _ => .Pass ⟨0, 0, 0, 0⟩
def defArgs (s : Stmt) : Arguments := match s with
  | .FunctionDef _ a _ _ _ _ _ _ _ _ => a
  | _ => { posonlyargs := [], args := [], vararg := none, kwonlyargs := [], kw_defaults := [], kwarg := none, defaults := [] }
def defBody (s : Stmt) : List Stmt := match s with
  | .FunctionDef _ _ b _ _ _ _ _ _ _ => b
  | _ => []
def defScope (s : Stmt) : Scope := match s with
  | .FunctionDef _ _ _ _ _ _ sc _ _ _ => sc
  | _ => { kind := .function, names := [], isGenerator := false, isCoroutine := false }

/-! ### no exception leaves a def -/
abbrev CX0 : CXT := fun _ _ _ _ _ _ => False
abbrev E0 : XK := fun _ _ _ => False
theorem pass0 {X : Cx} : Passes CX0 X E0 := fun _ _ _ _ _ _ _ h => h.elim

/-! ### a def (or method) of the text as it stands behind the top -/
structure Fun (K : PySem.W.Frag) (x qual : Str) (st : Stmt) (f : Addr) (fd : FuncData) : Prop where
  ex : ∃ (oc : Value) (od : Option Addr) (kV doc pm : Value) (an : Option Addr) (cdv ct : Value) (osl : Array (Option Value)),
    fd = PySem.W.fnOf x qual (defArgs st) (defBody st) (defScope st) .none kV doc pm an cdv ct ∧ K.lookup f = some ⟨oc, od, .func fd, osl⟩ ∧ PySem.W.codeIn K cdv qual = true
  kp : PySem.W.keepIn K (.ref f) = true
section
variable {P : Program} {w : World} {K : PySem.W.Frag} {mg : Str → Option Value} {base : Heap}
/-- THE RULE for a def: its body as a term of rules, and the reading of that term -/
theorem Fun.ok {x qual : Str} {st : Stmt} {f : Addr} {fd : FuncData} {N ps : List Str} {k : Nat} {sp : Sp} (F : Fun K x qual st f fd) (S : FnScope N ps (defScope st)) (len : ∀ vs H Q E, sp vs H Q E → vs.length = ps.length)
    (hbody : ∀ (cdv : Value) (A : Around) (outer : List Env) (s : Shared) (H : Hp) (vs : List V) (Q : VK) (E : XK), Room k (A.deeper (envOfC qual (defScope st) s.heap.objs.size f cdv)) → sp vs H Q E →
      ∃ t, PSs (cxOf CX0 P w K mg base N qual (defScope st) f cdv A outer s H E).nox (defBody st) t ∧ t { nx := fun _ H' => Q .non H', rt := Q } (start N vs) H) : FnOk P w K mg base CX0 (k + 1) f fd ps sp := by
  obtain ⟨oc, od, kV, doc, pm, an, cdv, ct, osl, rfl, lk, hcd⟩ := F.ex
  refine fn_of lk hcd S len fun A outer s H vs Q E hr hsp => ?_
  obtain ⟨t, h, q⟩ := hbody cdv A outer s H vs Q E hr hsp
  exact ⟨t, h.nox, q⟩
/-- how its arguments bind (no defaults): h is «fun _ _ _ _ _ _ us hl => match us, hl with | [_, _], _ => rfl», one _ a parameter -/
theorem Fun.binds {x qual : Str} {st : Stmt} {f : Addr} {fd : FuncData} {ps : List Str} (F : Fun K x qual st f fd)
    (h : ∀ (kV doc pm : Value) (an : Option Addr) (cdv ct : Value) (us : List Value), us.length = ps.length → bindArgs (PySem.W.fnOf x qual (defArgs st) (defBody st) (defScope st) .none kV doc pm an cdv ct) ⟨us, []⟩ = pure (ps.zip us)) : Binds K fd ps [] := by
  obtain ⟨oc, od, kV, doc, pm, an, cdv, ct, osl, rfl, lk, hcd⟩ := F.ex
  exact .all (h kV doc pm an cdv ct)
theorem fun_mk {x qual : Str} {st : Stmt} {f : Addr} {oc : Value} {od an : Option Addr} {osl : Array (Option Value)} {kV doc pm cdv ct : Value} (l : K.lookup f = some ⟨oc, od, .func (PySem.W.fnOf x qual (defArgs st) (defBody st) (defScope st) .none kV doc pm an cdv ct), osl⟩)
    (c : PySem.W.codeIn K cdv qual = true) (k : PySem.W.keepIn K (.ref f) = true) : Fun K x qual st f (PySem.W.fnOf x qual (defArgs st) (defBody st) (defScope st) .none kV doc pm an cdv ct) := ⟨⟨oc, od, kV, doc, pm, an, cdv, ct, osl, rfl, l, c⟩, k⟩
end
theorem hu_of {A : Around} {k : Nat} (hr : Room k A) : A.units + 1 < cLine := Nat.lt_of_le_of_lt (Nat.add_le_add_left (by decide : 1 ≤ 64) _) hr.units
theorem small1000 {n : Nat} (h : n ≤ 1000) : n < sizeLine := Nat.lt_of_le_of_lt h (by decide)

/-! ### expressions in short: the name that stands in the i-th slot -/
section
variable {X : Cx}
theorem pv (i : Nat) {x : Str} {pos : Pos} (hN : X.N[i]? = some x := by rfl) (hv : Vis X.env.scope x := by first | exact Or.inl rfl | exact Or.inr (Or.inl rfl) | exact Or.inr (Or.inr rfl)) (hd : (x == ("__debug__" : Str)) = false := by decide)
    (hcd : (x == ("__classdict__" : Str)) = false := by decide) : PE X (.Name x pos) (tVar i) := pe_var hN hv hd hcd
end

/-! ### tests -/
theorem iteF {A B : Prop} (h : B) : if false = true then A else B := by
  rw [if_neg Bool.false_ne_true]
  exact h
theorem iteT {A B : Prop} (h : A) : if true = true then A else B := by
  rw [if_pos rfl]
  exact h
theorem ite2 {c A B : Prop} [Decidable c] (h1 : c → A) (h2 : ¬ c → B) : if c then A else B := by
  by_cases h : c
  · rw [if_pos h]
    exact h1 h
  · rw [if_neg h]
    exact h2 h
/-! ### heaps -/
/-- all that was tracked is as it was -/
def Same (H H' : Hp) : Prop := ∀ b o, H b = some o → H' b = some o
theorem Same.refl (H : Hp) : Same H H := fun _ _ h => h
theorem Same.trans {H H1 H2 : Hp} (a : Same H H1) (b : Same H1 H2) : Same H H2 := fun c o h => b c o (a c o h)
theorem Same.free {H H' : Hp} (e : Same H H') {l : Addr} (h : H' l = Option.none) : H l = Option.none := by
  cases q : H l with
  | none => rfl
  | some o =>
    rw [e l o q] at h
    cases h
theorem Same.seq {K : PySem.W.Frag} {H H' : Hp} {a : Addr} {xs : List V} (e : Same H H') (h : SqL K H a xs) : SqL K H' a xs := by
  rcases h with (h | ⟨o, h⟩) | h
  · exact .inl (.inl (e _ _ h))
  · exact .inl (.inr ⟨o, e _ _ h⟩)
  · exact .inr h

/-! ### a dict's pairs: keys that differ -/
end L2

set_option Elab.async false
set_option linter.all false
set_option maxRecDepth 100000
/-! EXTENSION 1: list comprehensions, enumerate -/
namespace L2
open PySem PySem.Spec PyProof.Rows

/-! ### the cells that a block captures -/
theorem cellOf_eq {env : Env} {x : Str} {c : Addr} (h : env.cells.lookup x = some c) : cellOf env x = pure c := by
  unfold cellOf
  rw [h]
def closOf (env : Env) : List (Str × NameKind) → List (Str × Addr) → List (Str × Addr)
  | [], cs => cs
  | (n, k) :: r, cs => closOf env r (if k == .free then (n, (env.cells.lookup n).getD 0) :: cs else cs)
theorem clos_go {env : Env} : ∀ (ns : List (Str × NameKind)) (cs : List (Str × Addr)), (∀ n, (n, NameKind.free) ∈ ns → ∃ c, env.cells.lookup n = some c) →
    (forIn (m := Sem) ns cs fun x r => match x with
      | (name, kind) => if (kind == NameKind.free) = true then do let c ← cellOf env name; pure (ForInStep.yield ((name, c) :: r)) else pure (ForInStep.yield r)) = pure (closOf env ns cs)
  | [], cs, _ => rfl
  | (n, k) :: r, cs, h => by
    rw [List.forIn_cons]
    by_cases hk : (k == NameKind.free) = true
    · have ek : k = .free := by simpa using hk
      obtain ⟨c, e⟩ := h n (by rw [ek]; exact List.mem_cons_self)
      simp only [hk, if_true, cellOf_eq e]
      have q := clos_go r ((n, c) :: cs) fun m hm => h m (List.mem_cons_of_mem _ hm)
      show (forIn (m := Sem) r ((n, c) :: cs) _) = pure (closOf env r (if (k == .free) = true then (n, (env.cells.lookup n).getD 0) :: cs else cs))
      rw [if_pos hk, e]
      exact q
    · simp only [hk]
      have q := clos_go r cs fun m hm => h m (List.mem_cons_of_mem _ hm)
      show (forIn (m := Sem) r cs _) = pure (closOf env r (if (k == .free) = true then (n, (env.cells.lookup n).getD 0) :: cs else cs))
      rw [if_neg hk]
      exact q
theorem closureFor_ok {scope : Scope} {env : Env} (h : ∀ n, (n, NameKind.free) ∈ scope.names → ∃ c, env.cells.lookup n = some c) : closureFor scope env = pure (closOf env scope.names []) := by
  have e := clos_go scope.names [] h
  unfold closureFor
  show (forIn (m := Sem) scope.names [] (fun x r => match x with
      | (name, kind) => if (kind == NameKind.free) = true then do let c ← cellOf env name; pure (ForInStep.yield ((name, c) :: r)) else pure (ForInStep.yield r)) >>= fun s => pure s) = _
  rw [e]
  rfl
theorem closOf_sub {env : Env} {x : Str} {c : Addr} : ∀ (ns : List (Str × NameKind)) (cs : List (Str × Addr)), (∀ n, (n, NameKind.free) ∈ ns → ∃ c, env.cells.lookup n = some c) → (cs.lookup x = some c → env.cells.lookup x = some c) →
    (closOf env ns cs).lookup x = some c → env.cells.lookup x = some c
  | [], _, _, h0, h => h0 h
  | (n, k) :: r, cs, hf, h0, h => by
    unfold closOf at h
    refine closOf_sub r _ (fun m hm => hf m (List.mem_cons_of_mem _ hm)) (fun q => ?_) h
    by_cases hk : (k == NameKind.free) = true
    · have ek : k = .free := by simpa using hk
      subst ek
      obtain ⟨d, e⟩ := hf n List.mem_cons_self
      rw [if_pos hk, e, List.lookup_cons] at q
      by_cases hx : (x == n) = true
      · have ex : x = n := by simpa using hx
        rw [hx] at q
        subst ex
        rw [e]; exact q
      · simp only [hx] at q
        exact h0 q
    · rw [if_neg hk] at q
      exact h0 q
theorem closOf_has {env : Env} {x : Str} : ∀ (ns : List (Str × NameKind)) (cs : List (Str × Addr)), ((cs.lookup x).isSome = true ∨ (x, NameKind.free) ∈ ns) → ((closOf env ns cs).lookup x).isSome = true
  | [], _, h => h.elim id fun z => absurd z (by simp)
  | (n, k) :: r, cs, h => by
    unfold closOf
    refine closOf_has r _ ?_
    rcases h with h | h
    · refine .inl ?_
      split
      · rw [List.lookup_cons]
        split
        · rfl
        · exact h
      · exact h
    · rcases List.mem_cons.mp h with e | h
      · cases e
        refine .inl ?_
        rw [if_pos (show (NameKind.free == NameKind.free) = true from rfl), List.lookup_cons]
        simp
      · exact .inr h

/-! ### the block -/
/-- the values at a block's entry: none for its own names, the place in the def's frame for a captured one -/
def capSt (cap : List (Option Nat)) (σ : St) : St := cap.map fun o => o.bind fun j => (σ[j]?).join
/-- the block's context -/
def cxComp (X : Cx) (scope : Scope) (N' : List Str) (fp : List Addr) (pins : List (Addr × Obj)) (s₃ : Shared) (H₃ : Hp) : Cx where
  prog := X.prog
  w := X.w
  K := X.K
  mg := X.mg
  base := X.base
  A := X.A
  N := N'
  s₀ := s₃
  H₀ := H₃
  env := compEnvC scope (closOf X.env scope.names []) s₃.heap.objs.size X.env
  outer := X.stack
  stack := X.stack
  ex := fp
  fn := fun _ => false
  calm := X.calm
  pn := X.pn ++ pins
  xe := fun _ _ => False
/-- what of the text a block must have: N' its names (own and captured), cap where the captured ones stand in the def's frame -/
structure CompOk (X : Cx) (scope : Scope) (N' : List Str) (cap : List (Option Nat)) : Prop where
  kind : scope.kind = .function
  nocell : ∀ y ∈ scope.names, y.2 ≠ .cell
  loc : ∀ y ∈ scope.names, y.2 = .local → scope.names.lookup y.1 = some .local
  fr : ∀ y ∈ scope.names, y.2 = .free → X.env.kindOf y.1 = some .cell
  frl : ∀ y ∈ scope.names, y.2 = .free → scope.names.lookup y.1 = some .free
  nd : N'.Nodup
  len : cap.length = N'.length
  cap : ∀ (i j : Nat) (x : Str), cap[i]? = some (some j) → N'[i]? = some x → X.N[j]? = some x ∧ (x, NameKind.free) ∈ scope.names

section
variable {X : Cx} {scope : Scope} {N' : List Str} {cap : List (Option Nat)} {fp : List Addr} {pins : List (Addr × Obj)} {s : Shared} {σ : St} {H : Hp}
theorem CompOk.clos (S : CompOk X scope N' cap) (ok : X.Ok) : ∀ n, (n, NameKind.free) ∈ scope.names → ∃ c, X.env.cells.lookup n = some c := fun n hn => ok.has n (.inl (S.fr _ hn rfl))
theorem relabel_kind {env : Env} {x : Str} : ∀ {names : List (Str × NameKind)} {k : NameKind},
    (names.map fun (n, k) => if (k == NameKind.free && env.scope.kind == .function && env.kindOf n == some .cell) then (n, NameKind.cell) else (n, k)).lookup x = some k → k = .cell ∨ k = .free → (∀ y ∈ names, y.2 ≠ .cell) → (x, NameKind.free) ∈ names
  | [], _, h, _, _ => by simp at h
  | (n, q) :: r, k, h, hk, hc => by
    have h' : List.lookup x ((if (q == NameKind.free && env.scope.kind == .function && env.kindOf n == some .cell) = true then (n, NameKind.cell) else (n, q)) :: (r.map fun (n, k) => if (k == NameKind.free && env.scope.kind == .function && env.kindOf n == some .cell) then (n, NameKind.cell) else (n, k))) = some k := h
    by_cases hx : (x == n) = true
    · have ex : x = n := by simpa using hx
      subst ex
      by_cases hq : (q == NameKind.free && env.scope.kind == .function && env.kindOf x == some .cell) = true
      · have : q = .free := by
          rw [Bool.and_eq_true, Bool.and_eq_true] at hq
          simpa using hq.1.1
        subst this
        exact List.mem_cons_self
      · rw [if_neg hq, List.lookup_cons, hx] at h'
        have e : q = k := Option.some.inj h'
        subst e
        rcases hk with hk | hk
        · exact absurd hk (hc _ List.mem_cons_self)
        · rw [hk]; exact List.mem_cons_self
    · have hx' : (x == n) = false := by simpa using hx
      refine List.mem_cons_of_mem _ (relabel_kind (env := env) (k := k) ?_ hk fun y hy => hc y (List.mem_cons_of_mem _ hy))
      split at h'
      · rw [List.lookup_cons, hx'] at h'; exact h'
      · rw [List.lookup_cons, hx'] at h'; exact h'
theorem relabel_free {env : Env} {x : Str} (hf : env.scope.kind = .function) (hx : env.kindOf x = some .cell) : ∀ {names : List (Str × NameKind)}, names.lookup x = some .free →
    (names.map fun (n, k) => if (k == NameKind.free && env.scope.kind == .function && env.kindOf n == some .cell) then (n, NameKind.cell) else (n, k)).lookup x = some .cell
  | [], h => by simp at h
  | (n, k) :: r, h => by
    show List.lookup x ((if (k == NameKind.free && env.scope.kind == .function && env.kindOf n == some .cell) = true then (n, NameKind.cell) else (n, k)) :: _) = _
    cases hxn : x == n with
    | true =>
      have e : x = n := by simpa using hxn
      subst e
      simp only [List.lookup_cons, hxn] at h
      have ek : k = .free := Option.some.inj h
      subst ek
      rw [if_pos (by rw [hf, hx]; rfl), List.lookup_cons, hxn]
    | false =>
      simp only [List.lookup_cons, hxn] at h
      have ih := relabel_free hf hx h
      split
      · rw [List.lookup_cons, hxn]; exact ih
      · rw [List.lookup_cons, hxn]; exact ih

theorem CompOk.ok (S : CompOk X scope N' cap) (I : Inv X pins σ H s) (hf : ∀ b ∈ fp, FpOk X pins H b) (hex : ∀ b ∈ fp, ∃ o, s.heap.get? b = some o) : (cxComp X scope N' fp pins s H).Ok where
  mod := I.ok.mod
  kind := S.kind
  glob := I.ok.glob
  blt := I.ok.blt
  above := Nat.le_refl _
  inj := fun x y c h1 h2 => I.ok.inj x y c (closOf_sub _ _ (S.clos I.ok) (fun z => by simp at z) h1) (closOf_sub _ _ (S.clos I.ok) (fun z => by simp at z) h2)
  has := fun x hx => by
    have hm : (x, NameKind.free) ∈ scope.names := by
      rcases hx with hx | hx
      · exact relabel_kind (env := X.env) hx (.inl rfl) S.nocell
      · exact relabel_kind (env := X.env) hx (.inr rfl) S.nocell
    exact Option.isSome_iff_exists.mp (closOf_has scope.names [] (.inr hm))
  cab := fun x c h => by cases h
  hd := I.ok.hd
  frames := I.ok.frames
  stk := .inl rfl
  exf := fun b hb => by
    obtain ⟨o, e⟩ := hex b hb
    refine ⟨Nat.ne_of_lt (Heap.lt_size e), fun x c h => (hf b hb).2.2.2.2.1 x c (closOf_sub _ _ (S.clos I.ok) (fun z => by simp at z) h)⟩
  bs := I.bs
  bsz := Nat.le_trans I.ok.bsz I.sz
  noex := fun b o e hb => by
    rcases (hf b hb).2.2.2.1 with z | z
    · exact I.ok.noex b o e z
    · exact absurd (Nat.lt_of_lt_of_le (Heap.lt_size e) (Nat.le_trans I.ok.bsz z)) (Nat.lt_irrefl _)
  exfs := fun b hb hs => by
    rcases List.mem_cons.mp (I.stkSub b hs) with z | z
    · exact (hf b hb).2.1 z
    · exact (hf b hb).2.2.1 z
  funs := I.stack
  frf := I.stkFree

/-- a captured name, read in the block -/
theorem CompOk.look (S : CompOk X scope N' cap) (I : Inv X pins σ H s) {h₁ : Heap} {m : Str → Option Value} (cellK : ∀ x c v, X.env.cells.lookup x = some c → s.heap.IsCell c v → h₁.IsCell c v) (i : Nat) (x : Str) (v : V) (h1 : N'[i]? = some x) (h2 : (capSt cap σ)[i]? = some (some v)) :
    ∃ u, RelV v u ∧ Look (compEnvC scope (closOf X.env scope.names []) s.heap.objs.size X.env) h₁ m x u := by
  have clsub : ∀ x c, (closOf X.env scope.names []).lookup x = some c → X.env.cells.lookup x = some c := fun x c h => closOf_sub _ _ (S.clos I.ok) (fun z => by simp at z) h
  have h2' : ((cap[i]?).map fun o => o.bind fun j => (σ[j]?).join) = some (some v) := by
    have := h2
    unfold capSt at this
    rw [List.getElem?_map] at this
    exact this
  cases ec : cap[i]? with
  | none => rw [ec] at h2'; cases h2'
  | some o =>
    cases o with
    | none => rw [ec] at h2'; cases h2'
    | some j =>
      rw [ec] at h2'
      obtain ⟨hN, hfree⟩ := S.cap i j x ec h1
      have h2'' : (σ[j]?).join = some v := Option.some.inj h2'
      have hv : σ[j]? = some (some v) := by
        cases ej : σ[j]? with
        | none => rw [ej] at h2''; cases h2''
        | some y =>
          cases y with
          | none => rw [ej] at h2''; cases h2''
          | some z =>
            rw [ej] at h2''
            have e : z = v := Option.some.inj h2''
            rw [e]
      have hkind := S.fr _ hfree rfl
      obtain ⟨m0, hn0, hl0⟩ := I.loc
      obtain ⟨u, r, l⟩ := hl0 j x v hN hv (.inr (.inl hkind))
      refine ⟨u, r, ?_⟩
      rcases l with ⟨hk, _⟩ | ⟨hk, c, hc, hcell⟩
      · have z : X.env.kindOf x = some .cell := hkind
        rw [hk] at z; cases z
      · obtain ⟨c', hc'⟩ := Option.isSome_iff_exists.mp (closOf_has (env := X.env) (x := x) scope.names [] (.inr hfree))
        have ecc : c' = c := by
          have := clsub x c' hc'
          rw [hc] at this
          exact (Option.some.inj this).symm
        subst ecc
        exact .inr ⟨.inl (relabel_free I.ok.kind hkind (S.frl _ hfree rfl)), c', hc', cellK x c' _ hc hcell⟩
/-- the block's entry -/
theorem CompOk.start (S : CompOk X scope N' cap) (I : Inv X pins σ H s) (hf : ∀ b ∈ fp, FpOk X pins H b) (hex : ∀ b ∈ fp, ∃ o, s.heap.get? b = some o) {h₁ : Heap} {tk : Nat} {m : Str → Option Value} (hns : h₁.Ns s.heap.objs.size m)
    (kp : ∀ b o, s.heap.get? b = some o → h₁.get? b = some o) : Inv (cxComp X scope N' fp pins s H) [] (capSt cap σ) H { s with heap := h₁, toks := tk } := by
  have clsub : ∀ x c, (closOf X.env scope.names []).lookup x = some c → X.env.cells.lookup x = some c := fun x c h => closOf_sub _ _ (S.clos I.ok) (fun z => by simp at z) h
  have cellK : ∀ {c : Addr} {v : Option Value}, s.heap.IsCell c v → h₁.IsCell c v := fun {c v} ⟨o, e, d⟩ => ⟨o, kp c o e, d⟩
  refine ⟨S.ok I hf hex, rfl, I.bare, Un.kept kp, ⟨m, hns, fun i x v h1 h2 h3 => S.look I (fun _ _ _ _ z => cellK z) i x v h1 h2⟩, fun x c h => ?_, I.hok.fresh (Nat.le_refl _), fun x c h => I.freeC x c (clsub x c h), fun p hp => ?_, I.hok.kept kp, ?_⟩
  · obtain ⟨v, z⟩ := I.cell x c (clsub x c h)
    exact ⟨v, cellK z⟩
  · have hp0 : p ∈ (X.pn ++ pins) ++ [] := hp
    have hp' : p ∈ X.pn ++ pins := by rw [List.append_nil] at hp0; exact hp0
    obtain ⟨e, n, ne, nf, d⟩ := I.pin p hp'
    refine ⟨kp _ _ e, n, Nat.ne_of_lt (Heap.lt_size e), fun z => ?_, d⟩
    rcases List.mem_cons.mp (I.stkSub p.1 z) with q | q
    · exact ne q
    · exact nf q
  · unfold capSt
    rw [List.length_map]
    exact S.len
/-- .. at a turn's head: the block's own names are forgotten, the captured ones stand -/
theorem CompOk.again (S : CompOk X scope N' cap) (I : Inv X pins σ H s) (hf : ∀ b ∈ fp, FpOk X pins H b) {σ8 : St} {H8 : Hp} {s8 : Shared} (I8 : Inv (cxComp X scope N' fp pins s H) [] σ8 H8 s8) : Inv (cxComp X scope N' fp pins s H) [] (capSt cap σ) H8 s8 := by
  obtain ⟨m, hn, _⟩ := I8.loc
  refine ⟨I8.ok, I8.os, I8.bare, I8.base, ⟨m, hn, fun i x v h1 h2 h3 => S.look I (fun y c u hc hu => ?_) i x v h1 h2⟩, I8.cell, I8.free, I8.freeC, I8.pin, I8.hok, ?_⟩
  · obtain ⟨o, e, d⟩ := hu
    obtain ⟨sl, q⟩ := I8.base.any e (I.freeC y c hc) fun hb => (hf c hb).2.2.2.2.1 y c hc rfl
    exact ⟨_, q, d⟩
  · unfold capSt
    rw [List.length_map]
    exact S.len

/-- behind the block: the def's state again -/
theorem CompOk.back {H2 H' : Hp} {s2 s3 s' : Shared} {σ' : St} {acc : Addr} {h'' : Heap} (S : CompOk X scope N' cap) (I2 : Inv X pins σ H2 s2) (hf : ∀ b ∈ fp, FpOk X pins H2 b) {o : HO}
    (e3 : s3.heap.objs.size = s2.heap.objs.size + 1) (k3 : ∀ b u, s2.heap.get? b = some u → s3.heap.get? b = some u) (ha : acc = s2.heap.objs.size) (o3 : s3.os = s2.os)
    (I' : Inv (cxComp X scope N' fp pins s3 (upd H2 acc o)) [] σ' H' s') (sb : Heap.SameBut s3.heap.objs.size s'.heap h'') : Inv X pins σ H' { s' with heap := h'' } := by
  have u1 : Un (frs X.stack) fp H2 (upd H2 acc o) s2.heap s3.heap := Un.laid k3 (by rw [ha]; exact Nat.le_refl _) (I2.hok.fresh (by rw [ha]; exact Nat.le_refl _))
  have u2 : Un (frs X.stack) fp H2 H' s2.heap s'.heap := u1.trans I'.base
  have old : ∀ b ob, s2.heap.get? b = some ob → b ≠ s3.heap.objs.size := fun b ob e => by
    have := Heap.lt_size e
    rw [e3]
    exact Nat.ne_of_lt (Nat.lt_succ_of_lt this)
  have hC : H' s3.heap.objs.size = none := I'.free
  have u3 : Un (frs X.stack) fp H2 H' s2.heap h'' :=
    ⟨fun b ob e n hb hx => (sb.2 b (old b ob e)).trans (u2.keep b ob e n hb hx), fun b ob e n hb hx => by
      obtain ⟨sl, q⟩ := u2.slot b ob e n hb hx
      exact ⟨sl, (sb.2 b (old b ob e)).trans q⟩, u2.free, fun b ob e hx => by
      obtain ⟨o', q⟩ := u2.there b ob e hx
      exact ⟨o', (sb.2 b (old b ob e)).trans q⟩, u2.tups, u2.frzs, u2.tbls⟩
  have hok : HOk X.prog X.w H' h'' := fun b ob e => (I'.hok b ob e).stay (fun c v hc q => (sb.2 c (by
    rintro rfl
    rcases hc with z | z
    · rw [← z, hC] at e; cases e
    · rw [hC] at z; cases z)).trans q) (fun _ q => q) fun _ _ q => q
  refine I2.call' (s' := { s' with heap := h'' }) (ch := fp) (I'.os.trans o3) u3 hok I'.bare fun b hb => ?_
  obtain ⟨_, f1, _, f3, f4, f5⟩ := hf b hb
  exact ⟨f3, f1, f4, f5⟩

/-! ### the rule -/
/-- the tests of a block: none, or one -/
def PTs (X : Cx) (ifs : List Expr) (t : TT) : Prop :=
  ∀ (pins : List (Addr × Obj)) (s : Shared) (σ : St) (H : Hp) (Q : Bool → Hp → Prop), Inv X pins σ H s → t σ H Q →
    wpAny (model X.prog X.w) X.A (forIn ifs true fun c r => if r = true then do let ok ← isTrue c X.env (eval c X.env); pure (ForInStep.yield ok) else pure (ForInStep.yield r)) (TP X pins σ Q) X.xe s
def tTrue : TT := fun _ H Q => Q true H
theorem pts_nil : PTs X [] tTrue := fun _ _ _ H _ I h => wpAny_tests_nil ⟨H, I, h⟩
theorem pts_one {c : Expr} {t : TT} (h : PT X c t) : PTs X [c] t := fun pins s σ H Q I hq => wpAny_tests_one (h pins s σ H Q I hq)

/-- [elt for tg in iter if c]: W the invariant by the turn, a measure and the heap (the new list at acc) -/
def tComp (wi : TI) (cap : List (Option Nat)) (g : TG) (tc : TT) (te : TE) : TE := fun σ H Q => wi σ H fun J H1 => ∀ acc, H1 acc = none → ∃ W : Nat → Nat → Hp → Prop, (∃ m, W 0 m (upd H1 acc (.lst []))) ∧ ∀ i m H, W i m H →
  (J.stop i H ∧ Q (.ref acc) H) ∨ (J.go i H ∧ ∀ x H', J.yld i H x H' → g x (capSt cap σ) H' fun σ2 H2 => tc σ2 H2 fun b H3 => if b = true then te σ2 H3 fun y H4 => ∃ xs, H4 acc = some (.lst xs) ∧ xs.length < sizeLine ∧
    ∃ m', m' < m ∧ W (i + 1) m' (upd H4 acc (.lst (xs ++ [y]))) else ∃ m', m' < m ∧ W (i + 1) m' H3)

theorem comp_loop {elt target iter : PySem.Expr} {ifs : List PySem.Expr} {scope : Scope} {pos : Pos} {it acc : Value} {env : Env} {prog : Program} {w : World} {A : Around} {s : Shared} {R : Result → Shared → Prop} (I : Nat → Shared → Prop)
    (turn : ∀ n s, I n s → wpAny (model prog w) A (pyNext it) (fun r s₁ => match r with
      | none => R (.ok .next) s₁
      | some v => wpAny (model prog w) A (letOwnedTupleGo target it v) (fun _ s₀ => wpAny (model prog w) A (assign target env v) (fun _ s₂ =>
          wpAny (model prog w) A (forIn ifs true fun c r => if r = true then do let ok ← isTrue c env (eval c env); pure (ForInStep.yield ok) else pure (ForInStep.yield r)) (fun ok s₃ => if ok = true then wpAny (model prog w) A (eval elt env) (fun x s₄ =>
            wpAny (model prog w) A (call (.builtin "list.append") [acc, x]) (fun _ s₅ => ∃ m, m < n ∧ I m s₅) (fun _ _ => False) s₄) (fun _ _ => False) s₃
            else ∃ m, m < n ∧ I m s₃) (fun _ _ => False) s₂)
          (fun _ _ => False) s₀) (fun _ _ => False) s₁) (fun _ _ => False) s)
    (n : Nat) (h : I n s) : codeAny (model prog w) A (.compLoop (.ListComp elt [⟨target, iter, ifs, 0⟩] scope pos) 0 it acc env) R s := by
  refine codeAny_loop rfl I (fun n s hI => ?_) n h
  show wpAny _ A ((compTurn (.ListComp elt [⟨target, iter, ifs, 0⟩] scope pos) 0 it acc env).onRaise (fun x => do noteFrame x env; theTreesLotGoes x)) _ _ s
  refine wpAny_noted ?_
  rw [compTurn_list]
  refine wpAny_bind (wpAny_standAt (wpAny_bind (wpAny_mono (turn n s hI) (fun r s₁ h₁ => ?_) fun _ _ z => z.elim)))
  cases r with
  | none => exact wpAny_pure h₁
  | some v =>
    refine wpAny_bind (wpAny_mono h₁ (fun _ s₀ h₀' => ?_) fun _ _ z => z.elim)
    refine wpAny_bind (wpAny_mono h₀' (fun _ s₂ h₂ => ?_) fun _ _ z => z.elim)
    refine wpAny_bind (wpAny_mono h₂ (fun okb s₃ h₃ => ?_) fun _ _ z => z.elim)
    cases okb with
    | false => exact wpAny_pure ⟨rfl, h₃⟩
    | true => exact wpAny_bind (wpAny_bind (wpAny_mono h₃ (fun x s₄ h₄ => wpAny_bind (wpAny_mono h₄ (fun _ s₅ h₅ => wpAny_pure (wpAny_pure ⟨rfl, h₅⟩)) fun _ _ z => z.elim)) fun _ _ z => z.elim))

/-- the block from its entry on; RR: what is wanted behind it -/
theorem comp_block {elt tg iter : Expr} {ifs : List Expr} {pos : Pos} {g : TG} {tc : TT} {te : TE} {Q : VK} {s2 : Shared} {H2 : Hp} {it : Addr} {tn : Nat → Heap → Prop} {J : It} {E : Value → Shared → Prop} {RR : Value → Addr → Result → Shared → Prop}
    (S : CompOk X scope N' cap) (hc : X.calm = true) (hg : ∀ fp pins s H, PG (cxComp X scope N' fp pins s H) tg g) (hts : ∀ fp pins s H, PTs (cxComp X scope N' fp pins s H) ifs tc) (he : ∀ fp pins s H, PE (cxComp X scope N' fp pins s H) elt te)
    (I2 : Inv X pins σ H2 s2) (T : Turn X.prog X.w X.K tg J fp it tn) (st2 : tn 0 s2.heap) (f2 : ∀ b ∈ fp, FpOk X pins H2 b)
    (h : ∀ acc, H2 acc = none → ∃ W : Nat → Nat → Hp → Prop, (∃ m, W 0 m (upd H2 acc (.lst []))) ∧ ∀ i m H, W i m H →
      (J.stop i H ∧ Q (.ref acc) H) ∨ (J.go i H ∧ ∀ x H', J.yld i H x H' → g x (capSt cap σ) H' fun σ2 H2 => tc σ2 H2 fun b H3 => if b = true then te σ2 H3 fun y H4 => ∃ xs, H4 acc = some (.lst xs) ∧ xs.length < sizeLine ∧
        ∃ m', m' < m ∧ W (i + 1) m' (upd H4 acc (.lst (xs ++ [y]))) else ∃ m', m' < m ∧ W (i + 1) m' H3))
    (hRR : ∀ C s' H', (∃ m, s'.heap.Ns C m) → (∀ h'', Heap.SameBut C s'.heap h'' → Inv X pins σ H' { s' with heap := h'' }) → Q (.ref s2.heap.objs.size) H' → H' C = none → s2.heap.objs.size < C →
      RR (.ref s2.heap.objs.size) C (.ok .next) s') :
    wpAny (model X.prog X.w) X.A (newList []) (fun acc s₃ => wpAny (model X.prog X.w) X.A (newFunctionEnv scope X.env.globals (closOf X.env scope.names []) [] X.env.qual none .none (some X.env)) (fun cenv s₄ =>
      codeAny (model X.prog X.w) X.A (.compStart (.ListComp elt [⟨tg, iter, ifs, 0⟩] scope pos) 0 (.ref it) acc { cenv with scope := relabel scope X.env }) (RR acc cenv.locals) s₄) E s₃) E s2 := by
  refine wpAny_newObj_type (wpAny_newFunctionEnv S.nocell (by intro y hy; simp at hy) (fun h₁ hns₁ hsb₁ => ?_) S.kind)
  dsimp only at hns₁ hsb₁ ⊢
  have hfr : H2 s2.heap.objs.size = none := I2.hok.fresh (Nat.le_refl _)
  generalize hH3 : s2.heap.push { cls := .type "list", dict := none, data := .seq ([] : List Value).toArray } = h3 at hns₁ hsb₁ ⊢
  have e3 : h3.objs.size = s2.heap.objs.size + 1 := by rw [← hH3, Heap.size_push]
  have k3 : ∀ b u, s2.heap.get? b = some u → h3.get? b = some u := fun b u e => by rw [← hH3]; exact Heap.get?_push_of_some _ e
  -- the state with the new list
  have I3 : Inv X pins σ (upd H2 s2.heap.objs.size (.lst [])) { s2 with heap := h3, toks := s2.toks } := by
    refine I2.laid (t' := s2.toks) k3 (Nat.le_refl _) ?_
    exact ⟨Nat.zero_le _, [], 0, .nil, by rw [← hH3]; exact Heap.get?_push_size _ rfl⟩
  have f3 : ∀ b ∈ fp, FpOk X pins (upd H2 s2.heap.objs.size (.lst [])) b := fun b hb => by
    obtain ⟨o, e, _⟩ := T.obj _ _ st2 b hb
    exact ⟨by rw [upd_ne (Nat.ne_of_lt (Heap.lt_size e))]; exact (f2 b hb).1, (f2 b hb).2⟩
  have ex3 : ∀ b ∈ fp, ∃ o, h3.get? b = some o := fun b hb => by
    obtain ⟨o, e, _⟩ := T.obj _ _ st2 b hb
    exact ⟨o, k3 b o e⟩
  have kp : ∀ b o, h3.get? b = some o → h₁.get? b = some o := fun b o e => hsb₁.extBut b o (Nat.ne_of_lt (Heap.lt_size e)) (Heap.get?_push_of_some _ e)
  have I4 := S.start (fp := fp) (tk := s2.toks + ([] : List (Str × Value)).length) I3 f3 ex3 hns₁ kp
  have st4 : tn 0 h₁ := T.keep _ _ _ st2 fun b _ o e => kp b o (k3 b o e)
  obtain ⟨W, ⟨m0, w0⟩, turn⟩ := h s2.heap.objs.size hfr
  let X' := cxComp X scope N' fp pins { s2 with heap := h3, toks := s2.toks } (upd H2 s2.heap.objs.size (.lst []))
  have stat : ∀ {pins' : List (Addr × Obj)} {H' : Hp}, (∀ p ∈ pins', p.1 ∉ fp) → (∀ b ∈ fp, H' b = none) → ∀ b ∈ fp, FpOk X' pins' H' b := fun {pins' H'} hpn hn b hb => by
    obtain ⟨o, e⟩ := ex3 b hb
    refine ⟨hn b hb, Nat.ne_of_lt (Heap.lt_size e), fun z => ?_, .inl hb, fun x c hx => (f3 b hb).2.2.2.2.1 x c (closOf_sub _ _ (S.clos I2.ok) (fun z => by simp at z) hx), fun p hp => ?_⟩
    · rcases List.mem_cons.mp (I2.stkSub b z) with q | q
      · exact (f2 b hb).2.1 q
      · exact (f2 b hb).2.2.1 q
    · rcases List.mem_append.mp hp with q | q
      · exact (f2 b hb).2.2.2.2.2 p q
      · exact fun z => hpn p q (z ▸ hb)
  have loop : codeAny (model X.prog X.w) X.A (.compLoop (.ListComp elt [⟨tg, iter, ifs, 0⟩] scope pos) 0 (.ref it) (.ref s2.heap.objs.size) X'.env) (RR (.ref s2.heap.objs.size) h3.objs.size) { s2 with heap := h₁, toks := s2.toks + ([] : List (Str × Value)).length } := by
    refine comp_loop (fun n s' => ∃ i H', Inv X' [] (capSt cap σ) H' s' ∧ tn i s'.heap ∧ (∀ b ∈ fp, H' b = none) ∧ W i n H') ?_ m0 ⟨0, _, I4, st4, fun b hb => (f3 b hb).1, w0⟩
    rintro n s5 ⟨i, H5, I5, st5, fr5, w5⟩
    rcases turn i n H5 w5 with ⟨stop, qn⟩ | ⟨go, step⟩
    · refine wpAny_mono (T.done X' rfl rfl rfl hc i [] s5 (capSt cap σ) H5 (fun _ _ => False) I5 (stat (fun _ z => absurd z (by simp)) fr5) st5 stop) (fun r s6 ⟨hr, I6⟩ => ?_) fun _ _ z => z
      subst hr
      refine hRR _ s6 H5 ?_ (fun h'' sb => S.back I2 f2 (s3 := { s2 with heap := h3, toks := s2.toks }) e3 k3 rfl rfl I6 sb) qn I6.free (by rw [e3]; exact Nat.lt_succ_self _)
      obtain ⟨m, hn, _⟩ := I6.loc
      exact ⟨m, hn⟩
    · refine wpAny_mono (T.item X' rfl rfl rfl hc i [] s5 (capSt cap σ) H5 (fun _ _ => False) I5 (stat (fun _ z => absurd z (by simp)) fr5) st5 go) (fun r s6 ⟨u, hr, h6⟩ => ?_) fun _ _ z => z
      subst hr
      refine wpAny_mono h6 (fun _ s7 ⟨x, H7, I7, r7, y7, st7, fr7⟩ => ?_) fun _ _ z => z
      have I7' := I7.pinned (stat (fun _ z => absurd z (by simp)) fr7) (T.obj _ _ st7)
      have again : ∀ {σ8 : St} {H8 : Hp} {s8 : Shared}, Inv X' ([] ++ pinsAt fp s7.heap) σ8 H8 s8 → (∃ m', m' < n ∧ W (i + 1) m' H8) → ∃ m, m < n ∧ ∃ i H', Inv X' [] (capSt cap σ) H' s8 ∧ tn i s8.heap ∧ (∀ b ∈ fp, H' b = none) ∧ W i m H' := fun {σ8 H8 s8} I8 n8 => by
        obtain ⟨m', hm, w8⟩ := n8
        have pn : ∀ b ∈ fp, ∃ o, s7.heap.get? b = some o ∧ s8.heap.get? b = some o ∧ H8 b = none := fun b hb => by
          obtain ⟨o, e, d⟩ := T.obj _ _ st7 b hb
          have q := I8.pin (b, o) (List.mem_append_right _ (List.mem_append_right _ (mem_pinsAt hb e)))
          exact ⟨o, e, q.1, q.2.1⟩
        refine ⟨m', hm, i + 1, H8, S.again I3 f3 I8.unpinned, T.keep _ _ _ st7 fun b hb o e => ?_, fun b hb => ?_, w8⟩
        · obtain ⟨o', e', q, _⟩ := pn b hb
          rw [e] at e'; cases e'
          exact q
        · obtain ⟨_, _, _, q⟩ := pn b hb
          exact q
      refine wpAny_mono (hg fp pins _ _ _ s7 (capSt cap σ) H7 x u _ I7' r7 (step x H7 y7)) (fun _ s8 ⟨σ8, H8, I8, q8⟩ => ?_) fun _ _ z => z
      refine wpAny_mono (hts fp pins _ _ _ s8 σ8 H8 _ I8 q8) (fun b s9 ⟨H9, I9, q9⟩ => ?_) fun _ _ z => z
      cases b with
      | false => exact again I9 q9
      | true =>
        refine wpAny_mono (he fp pins _ _ _ s9 σ8 H9 _ I9 q9) (fun u s10 ⟨y, H10, I10, r10, xs, hx, hl, q10⟩ => ?_) fun _ _ z => z
        refine wpAny_mono (mt_append (X := X') _ s10 σ8 H10 (.ref s2.heap.objs.size) [y] (.ref s2.heap.objs.size) [u] (fun _ H' => ∃ m', m' < n ∧ W (i + 1) m' H') I10 rfl (.cons r10 .nil) ⟨_, xs, y, rfl, rfl, hx, hl, q10⟩) (fun _ s11 ⟨_, H11, I11, _, q11⟩ => again I11 q11) fun _ _ z => z
  exact codeAny_compStart_list loop (T.self _ 0 _ _ _ st4 loop)

/-- [..] as a value -/
theorem pe_comp {elt tg iter : Expr} {ifs : List Expr} {pos : Pos} {wi : TI} {g : TG} {tc : TT} {te : TE} (S : CompOk X scope N' cap) (hc : X.calm = true) (hi : PI X tg iter wi) (hg : ∀ fp pins s H, PG (cxComp X scope N' fp pins s H) tg g)
    (hts : ∀ fp pins s H, PTs (cxComp X scope N' fp pins s H) ifs tc) (he : ∀ fp pins s H, PE (cxComp X scope N' fp pins s H) elt te) (hs : ∀ x, foldedSetIterable iter X.env x = pure x := by intro _; rfl) :
    PE X (.ListComp elt [⟨tg, iter, ifs, 0⟩] scope pos) (tComp wi cap g tc te) := by
  intro pins s σ H Q I h
  rw [eval_ListComp]
  refine wpAny_comprehension_free (use := none) rfl hs (closureFor_ok (S.clos I.ok)) S.kind S.loc (thn (hi pins s σ H _ I h) fun v s1 h1 => thn h1 fun itv s2 h2 => ?_)
  obtain ⟨it, fp, tn, J, H2, e, I2, T, st2, f2, hW⟩ := h2
  subst e
  refine comp_block (RR := fun acc C => compPost (model X.prog X.w) X.A X.xe none (EP X pins σ Q) acc C) S hc hg hts he I2 T st2 f2 hW ?_
  intro C s' H' ⟨m, hn⟩ hI hq _ _
  exact ⟨m, hn, fun h'' sb => ⟨.ref s2.heap.objs.size, H', hI h'' sb, rfl, hq⟩⟩

/-- x = [..] -/
theorem ps_setcomp {elt tg iter : Expr} {ifs : List Expr} {pos : Pos} {wi : TI} {g : TG} {tc : TT} {te : TE} {i : Nat} {x : Str} {pos' spos : Pos} (hN : X.N.Nodup) (hix : X.N[i]? = some x) (hx : Loc X.env.scope x) (S : CompOk X scope N' cap) (hc : X.calm = true)
    (hi : PI X tg iter wi) (hg : ∀ fp pins s H, PG (cxComp X scope N' fp pins s H) tg g)
    (hts : ∀ fp pins s H, PTs (cxComp X scope N' fp pins s H) ifs tc) (he : ∀ fp pins s H, PE (cxComp X scope N' fp pins s H) elt te) (hs : ∀ x, foldedSetIterable iter X.env x = pure x := by intro _; rfl)
    (hsw : swapsWith (.ListComp elt [⟨tg, iter, ifs, 0⟩] scope pos) (some (.Name x pos')) spos.line X.env = pure true := by rfl) (hf : X.fn x = true ∨ X.env.scope.names.lookup x = some .local := by first | exact .inl rfl | exact .inr rfl | assumption) :
    PS X (.Assign [.Name x pos'] (.ListComp elt [⟨tg, iter, ifs, 0⟩] scope pos) spos) (tAsg (tComp wi cap g tc te) (gName i)) := by
  intro pins s σ H D I h
  rw [exec_Assign_Name_used _ _ _ _ hsw]
  refine wpAny_bind (wpAny_standAt (wpAny_bind ?_))
  show wpAny _ X.A (do let _ ← comprehension (.ListComp elt [⟨tg, iter, ifs, 0⟩] scope pos) scope X.env _ (newList []) false (eval iter X.env) (some (assign (.Name x pos') X.env))) _ _ s
  refine wpAny_bind (wpAny_mono (wpAny_comprehension_free (use := some (assign (.Name x pos') X.env)) (Q := fun _ s' => SP X pins D .next s') rfl hs (closureFor_ok (S.clos I.ok)) S.kind S.loc
    (thn (hi pins s σ H _ I h) fun v s1 h1 => thn h1 fun itv s2 h2 => ?_)) (fun _ s' hq => wpAny_pure (wpAny_pure hq)) fun _ _ e => e)
  obtain ⟨it, fp, tn, J, H2, e, I2, T, st2, f2, hW⟩ := h2
  subst e
  refine comp_block (RR := fun acc C => compPost (model X.prog X.w) X.A X.xe (some (assign (.Name x pos') X.env)) (fun _ s' => SP X pins D .next s') acc C) (Q := fun x H1 => gName i x σ H1 D.nx) S hc hg hts he I2 T st2 f2 hW ?_
  intro C s' H' ⟨m, hn⟩ hI hq hC hlt
  have I' : Inv X pins σ H' s' := hI s'.heap (.refl ..)
  show wpAny _ _ (assign (.Name x pos') X.env (.ref s2.heap.objs.size)) _ _ s'
  refine wpAny_assign_Name (store_ok2 (v := .ref s2.heap.objs.size) I' hN hix hx rfl (fun s6 I6 ⟨a, sb, ha⟩ => ?_) hf)
  have lC : ∀ b, b < s2.heap.objs.size → b ≠ C := fun b hb => Nat.ne_of_lt (Nat.lt_trans hb hlt)
  have haC : a ≠ C := by
    rcases ha with z | z
    · rw [z]; exact lC _ I2.lt
    · obtain ⟨_, q⟩ := I2.cell x a z
      exact lC _ q.lt
  refine ⟨m, hn.sameBut sb (Ne.symm haC), fun h' sb' => ⟨_, H', I6.turned (t' := s6.toks) (fun b o hb e => (sb'.2 b hb).trans e) hC (Ne.symm (lC _ I2.lt)) (.inr (Nat.le_trans I2.sz (Nat.le_of_lt hlt))) (fun y c hc' => ?_) (fun p hp => ?_), hq⟩⟩
  · obtain ⟨_, q⟩ := I2.cell y c hc'
    exact lC _ q.lt
  · exact lC _ (Heap.lt_size (I2.pin p hp).1)
end

/-! ### enumerate of a list -/
section
variable {X : Cx}
/-- a pair (i, item), a new tuple at each turn -/
def Ite (K : PySem.W.Frag) (a : Addr) : It :=
  ⟨fun i H => ∃ xs x, SqL K H a xs ∧ xs[i]? = some x, fun i H x H' => ∃ p v, H p = none ∧ x = .ref p ∧ H' = upd H p (.tup [.int (i : Nat), v]) ∧ ∀ xs, SqL K H a xs → xs[i]? = some v, fun i H => ∃ xs, SqL K H a xs ∧ xs.length ≤ i⟩
theorem turn_enum {P : Program} {w : World} {K : PySem.W.Frag} {elts : List Expr} {x1} {pos : Pos} (a e it : Addr) (hne : e ≠ it) :
    Turn P w K (.Tuple elts x1 pos) (Ite K a) [e, it] e (fun i h => ∃ old, IsEnum h e it (i : Nat) old ∧ h.IsListIter it a i) where
  mem := by simp
  obj := fun i h ⟨old, st, li⟩ b hb => by
    rcases List.mem_cons.mp hb with z | hb
    · subst z
      exact ⟨_, st, fun v z => by
        have z' : Data.fields _ = Data.cell v := z
        cases z'⟩
    · have z : b = it := by simpa using hb
      subst z
      obtain ⟨o, e, c, d⟩ := li
      exact ⟨o, e, fun v z => by rw [d] at z; cases z⟩
  keep := fun i h h' ⟨old, st, li⟩ k => ⟨old, k e (by simp) _ st, li.at fun o q => k it (by simp) o q⟩
  item := by
    intro X hP hw hK hc i pins s σ H E I hf ⟨old, st, li⟩ hg
    subst hP hw hK
    obtain ⟨xs, x, hq, hx⟩ := hg
    obtain ⟨its, rv, p, hz⟩ := I.list hq
    obtain ⟨u, hu, ru⟩ := rv.get hx
    refine wpAny_pyNext_enum_item st li p.isList (x := u) (by simpa using hu) hne fun h' eo li' tu sz kp => ?_
    refine ⟨_, rfl, wpAny_letOwnedTupleGo_enum eo fun h2 e2 sb2 => ?_⟩
    have hfr : H s.heap.objs.size = none := I.hok.fresh (Nat.le_refl _)
    have nE : ∀ b o, H b = some o → b ≠ e := fun b o q z => by rw [z, (hf e (by simp)).1] at q; cases q
    have nI : ∀ b o, H b = some o → b ≠ it := fun b o q z => by rw [z, (hf it (by simp)).1] at q; cases q
    have kp2 : ∀ b o, b ≠ e → b ≠ it → s.heap.get? b = some o → h2.get? b = some o := fun b o h1 h3 q => (sb2.2 b h1).trans (kp b o h1 h3 q)
    have hes : e < s.heap.objs.size := Heap.lt_size st
    have tu2 : h2.get? s.heap.objs.size = some { cls := .type "tuple", data := .seq #[.int (i : Nat) s.toks, u] } := (sb2.2 _ (Nat.ne_of_gt hes)).trans tu
    have li2 : h2.IsListIter it a (i + 1) := li'.at fun o q => (sb2.2 it (Ne.symm hne)).trans q
    have mem2 : ∀ b, b ∉ [e, it] → b ≠ e ∧ b ≠ it := fun b hb => ⟨fun z => hb (by simp [z]), fun z => hb (by simp [z])⟩
    have fre : ∀ b ∈ [e, it], upd H s.heap.objs.size (.tup [.int (i : Nat), x]) b = none := fun b hb => by
      obtain ⟨o, q, _⟩ : ∃ o, s.heap.get? b = some o ∧ True := by
        rcases List.mem_cons.mp hb with z | hb
        · subst z; exact ⟨_, st, trivial⟩
        · have z : b = it := by simpa using hb
          subst z
          obtain ⟨o, q, _⟩ := li
          exact ⟨o, q, trivial⟩
      rw [upd_ne (Nat.ne_of_lt (Heap.lt_size q))]
      exact (hf b hb).1
    have I1 : Inv X pins σ (upd H s.heap.objs.size (.tup [.int (i : Nat), x])) { s with heap := h2, toks := s.toks + 1 } := by
      refine I.step (g' := s.gens) (d' := s.drawn) (ch := [e, it]) (fun b hb => ?_) (fun b o _ _ hc q _ => kp2 b o (mem2 b hc).1 (mem2 b hc).2 q) (fun b o _ _ hc q _ => ⟨o.slots, kp2 b o (mem2 b hc).1 (mem2 b hc).2 q⟩)
        (fun b o _ q n => by rw [upd_ne (Nat.ne_of_lt (Heap.lt_size q))]; exact n) (fun b o hc q => ⟨o, kp2 b o (mem2 b hc).1 (mem2 b hc).2 q⟩) (fun b xs q => by rw [upd_ne (ne_of_none q hfr)]; exact q) (fun b o u q => by rw [upd_ne (ne_of_none q hfr)]; exact q)
        (fun b ps q => ⟨#[], by rw [upd_ne (ne_of_none q hfr), q]; simp⟩) (fun m hm => ?_) (fun b o q => ?_) I.bare
      · obtain ⟨_, f1, _, f3, f4, f5⟩ := hf b hb
        exact ⟨f3, f1, f4, f5⟩
      · obtain ⟨o, es, ep, ho, r⟩ := hm
        exact ⟨o, es, ep, kp2 _ o (Ne.symm (hf e (by simp)).2.1) (Ne.symm (hf it (by simp)).2.1) ho, r⟩
      · by_cases hb : b = s.heap.objs.size
        · subst hb
          rw [upd_same] at q
          cases q
          exact ⟨by show 2 ≤ sizeLine; decide, [.int (i : Nat) s.toks, u], .cons ⟨_, rfl⟩ (.cons ru .nil), ⟨_, tu2, rfl, _, rfl⟩⟩
        · rw [upd_ne hb] at q
          refine (I.hok b o q).stay (fun c v hc r => kp2 c v ?_ ?_ r) (fun c r => by rw [upd_ne (ne_of_none r hfr)]; exact r) fun c xs r => by rw [upd_ne (ne_of_none r hfr)]; exact r
          · rcases hc with z | z
            · rw [z]; exact nE b o q
            · exact nE c _ z
          · rcases hc with z | z
            · rw [z]; exact nI b o q
            · exact nI c _ z
    refine ⟨.ref s.heap.objs.size, _, I1, rfl, ⟨_, x, hfr, rfl, rfl, fun ys hy => by rw [I.list_inj hy hq]; exact hx⟩, ⟨u, ?_, li2⟩, fre⟩
    have e2' : IsEnum h2 e it ((i : Int) + 1) u := e2
    show IsEnum h2 e it (((i + 1 : Nat) : Int)) u
    rw [Int.natCast_add]
    exact e2'
  done := by
    intro X hP hw hK hc i pins s σ H E I hf ⟨old, st, li⟩ hg
    subst hP hw hK
    obtain ⟨xs, hq, hx⟩ := hg
    obtain ⟨its, rv, p, hz⟩ := I.list hq
    obtain ⟨f0, f1, f2, f3, f4, f5⟩ := hf it (by simp)
    have hl := rv.length
    exact wpAny_pyNext_enum_end (I.ok.hd hc) st li p.isList (by simp; omega) fun h' eb => ⟨rfl, I.turned (t' := s.toks) (fun b o hb q => eb b o hb q) f0 f1 f3 f4 f5⟩
  self := fun _ _ _ _ _ ⟨_, st, _⟩ h => wpAny_pyIter_enum st h
def iEnum (K : PySem.W.Frag) (ta : TA) : TI := fun σ H R => ta σ H fun vs H1 => ∃ a xs, vs = [.ref a] ∧ SqL K H1 a xs ∧ R (Ite K a) H1
theorem pi_enum {l : Expr} {ta : TA} {p pos : Pos} {elts : List Expr} {x1} {tpos : Pos} (hg : Gl X "enumerate") (hm : X.mg "enumerate" = none) (ha : PA X [l] ta) (hs : starEach [l] X.env = [(false, eval l X.env)] := by rfl) :
    PI X (.Tuple elts x1 tpos) (.Call (.Name "enumerate" p) [l] [] pos) (iEnum X.K ta) := by
  intro pins s σ H R I h
  refine Call_ (ld_blt I hg hm boot_enumerate (PyProof.Rows.callWith_type1 (thn (ha pos pins s σ H _ I h) fun us s1 ⟨vs, H1, I1, r1, q1⟩ => ?_) hs rfl))
  obtain ⟨a, xs, e, hq, q⟩ := q1
  subst e
  cases r1 with
  | cons r rr =>
    cases rr
    cases r
    obtain ⟨its, rv, pl, hz⟩ := I1.list hq
    refine call_enumerate_list pl.isList fun h' en li sz kp => wpAny_pyIter_enum en ?_
    have I2 : Inv X pins σ H1 { s1 with heap := h', toks := s1.toks } := I1.kept kp
    have fr : ∀ b, s1.heap.objs.size ≤ b → FpOk X pins H1 b := fun b hb => I1.fpOk hb (I1.hok.fresh hb)
    refine ⟨s1.heap.objs.size + 1, [s1.heap.objs.size + 1, s1.heap.objs.size], _, _, H1, rfl, I2, turn_enum a _ _ (Nat.succ_ne_self _), ⟨.none, en, li⟩, fun b hb => ?_, q⟩
    rcases List.mem_cons.mp hb with z | hb
    · subst z; exact fr _ (by omega)
    · have z : b = s1.heap.objs.size := by simpa using hb
      subst z; exact fr _ (by omega)
end
end L2

set_option Elab.async false
set_option linter.all false
set_option maxRecDepth 100000
/-! EXTENSION 2: data in the heap; ==, != of data; isinstance, min, set, len of a set -/
namespace L2
open PySem PySem.Spec PyProof.Rows

theorem Same.seqT {K : PySem.W.Frag} {H H' : Hp} {a : Addr} {xs : List V} (e : Same H H') (h : SqT K H a xs) : SqT K H' a xs := by
  rcases h with (h | ⟨o, h⟩) | h
  · exact .inl (.inl (e _ _ h))
  · exact .inl (.inr ⟨o, e _ _ h⟩)
  · exact .inr h
theorem Same.new {H : Hp} {p : Addr} {o : HO} (h : H p = none) : Same H (upd H p o) := fun b u e => by rw [upd_ne (ne_of_none e h)]; exact e
theorem Same.out {H0 H : Hp} {p : Addr} {o : HO} (s : Same H0 H) (h : H0 p = none) : Same H0 (upd H p o) := fun b u e => by rw [upd_ne (ne_of_none e h)]; exact s b u e

/-! ### data -/
mutual
def Rep (K : PySem.W.Frag) (H : Hp) : PyData → V → Prop
  | .none, v => v = .non
  | .bool b, v => v = .bl b
  | .int i, v => v = .int i
  | .str x, v => v = .str x
  | .list ds, v => ∃ a vs, v = .ref a ∧ SqL K H a vs ∧ RepAll K H ds vs
  | .tuple ds, v => ∃ a vs, v = .ref a ∧ SqT K H a vs ∧ RepAll K H ds vs
  | .dict _, _ => False
def RepAll (K : PySem.W.Frag) (H : Hp) : List PyData → List V → Prop
  | [], vs => vs = []
  | d :: ds, vs => ∃ v r, vs = v :: r ∧ Rep K H d v ∧ RepAll K H ds r
end
section
variable {K : PySem.W.Frag} {H H' : Hp}
mutual
theorem Rep.mono (s : Same H H') : ∀ {d : PyData} {v : V}, Rep K H d v → Rep K H' d v
  | .none, _, h => h
  | .bool _, _, h => h
  | .int _, _, h => h
  | .str _, _, h => h
  | .list ds, _, ⟨a, vs, e, q, r⟩ => ⟨a, vs, e, s.seq q, RepAll.mono s r⟩
  | .tuple ds, _, ⟨a, vs, e, q, r⟩ => ⟨a, vs, e, s.seqT q, RepAll.mono s r⟩
  | .dict _, _, h => h
theorem RepAll.mono (s : Same H H') : ∀ {ds : List PyData} {vs : List V}, RepAll K H ds vs → RepAll K H' ds vs
  | [], _, h => h
  | _ :: _, _, ⟨v, r, e, q, t⟩ => ⟨v, r, e, q.mono s, RepAll.mono s t⟩
end
theorem RepAll.length : ∀ {ds : List PyData} {vs : List V}, RepAll K H ds vs → vs.length = ds.length
  | [], _, h => by rw [h]; rfl
  | _ :: _, _, ⟨v, r, e, _, t⟩ => by rw [e, List.length_cons, List.length_cons, RepAll.length t]
theorem RepAll.get : ∀ {ds : List PyData} {vs : List V} {i : Nat} {d : PyData}, RepAll K H ds vs → ds[i]? = some d → ∃ v, vs[i]? = some v ∧ Rep K H d v
  | [], _, _, _, _, e => by simp at e
  | x :: ds, _, 0, d, ⟨v, r, e, q, t⟩, h => by
    subst e
    have z : x = d := by simpa using h
    subst z
    exact ⟨v, rfl, q⟩
  | _ :: ds, _, i + 1, d, ⟨v, r, e, q, t⟩, h => by
    subst e
    obtain ⟨y, h1, h2⟩ := RepAll.get (i := i) (d := d) t (by simpa using h)
    exact ⟨y, by simpa using h1, h2⟩
theorem repAll_ints : ∀ ns : List Int, RepAll K H (ns.map PyData.int) (ns.map V.int)
  | [] => rfl
  | n :: ns => ⟨.int n, _, rfl, rfl, repAll_ints ns⟩
theorem repAll_ints_eq : ∀ {ns : List Int} {vs : List V}, RepAll K H (ns.map PyData.int) vs → vs = ns.map V.int
  | [], _, h => h
  | n :: ns, _, ⟨v, r, e, q, t⟩ => by
    have q' : v = .int n := q
    rw [e, q', repAll_ints_eq t]; rfl
theorem Rep.ints {ns : List Int} {a : Addr} (h : SqL K H a (ns.map V.int)) : Rep K H (.list (ns.map .int)) (.ref a) := ⟨a, _, rfl, h, repAll_ints ns⟩
theorem Rep.intsT {ns : List Int} {a : Addr} (h : SqT K H a (ns.map V.int)) : Rep K H (.tuple (ns.map .int)) (.ref a) := ⟨a, _, rfl, h, repAll_ints ns⟩
theorem Rep.of_ints {ns : List Int} {v : V} (h : Rep K H (.list (ns.map .int)) v) : ∃ a, v = .ref a ∧ SqL K H a (ns.map V.int) := by
  obtain ⟨a, vs, e, q, r⟩ := h
  rw [repAll_ints_eq r] at q
  exact ⟨a, e, q⟩
theorem Rep.of_intsT {ns : List Int} {v : V} (h : Rep K H (.tuple (ns.map .int)) v) : ∃ a, v = .ref a ∧ SqT K H a (ns.map V.int) := by
  obtain ⟨a, vs, e, q, r⟩ := h
  rw [repAll_ints_eq r] at q
  exact ⟨a, e, q⟩
end

/-! ### read by the machine's own relation -/
section
variable {X : Cx} {pins : List (Addr × Obj)} {σ : St} {H : Hp} {s : Shared}
mutual
theorem Rep.reads (I : Inv X pins σ H s) : ∀ {d : PyData} {v : V} {u : Value}, Rep X.K H d v → RelV v u → ∃ as, Reads s.heap u d as
  | .none, _, _, h, r => by cases h; cases r; exact ⟨_, .none⟩
  | .bool b, _, _, h, r => by cases h; cases r; exact ⟨_, .bool b⟩
  | .int i, _, _, h, r => by cases h; obtain ⟨t, rfl⟩ := r; exact ⟨_, .int i t⟩
  | .str x, _, _, h, r => by cases h; obtain ⟨t, rfl⟩ := r; exact ⟨_, .str x t⟩
  | .list ds, _, _, ⟨a, vs, e, q, t⟩, r => by
    subst e
    cases r
    obtain ⟨its, rv, ⟨o, n, e1, e2, e3, e4⟩, _⟩ := I.list q
    obtain ⟨as, ra⟩ := RepAll.reads I t rv
    exact ⟨_, .list e1 e2 e4 (by simpa using ra)⟩
  | .tuple ds, _, _, ⟨a, vs, e, q, t⟩, r => by
    subst e
    cases r
    obtain ⟨its, rv, ⟨o, e1, e2, n, e4⟩, _⟩ := I.tuple q
    obtain ⟨as, ra⟩ := RepAll.reads I t rv
    exact ⟨_, .tuple e1 e2 e4 (by simpa using ra)⟩
  | .dict _, _, _, h, _ => h.elim
theorem RepAll.reads (I : Inv X pins σ H s) : ∀ {ds : List PyData} {vs : List V} {us : List Value}, RepAll X.K H ds vs → Vals vs us → ∃ as, ReadsAll s.heap us ds as
  | [], _, _, h, r => by cases h; cases r; exact ⟨_, .nil⟩
  | _ :: _, _, _, ⟨v, w', e, q, t⟩, r => by
    subst e
    cases r with
    | cons r1 r2 =>
      obtain ⟨as, h1⟩ := q.reads I r1
      obtain ⟨bs, h2⟩ := RepAll.reads I t r2
      exact ⟨_, .cons h1 h2⟩
end
end

/-! ### ==, != of data -/
section
variable {X : Cx}
def rEqD (K : PySem.W.Frag) (u : Nat) : R2 := fun x y H Q => ∃ da db, Rep K H da x ∧ Rep K H db y ∧ da.canLay0 = true ∧ db.canLay0 = true ∧ u + min da.depth db.depth < cLine ∧ Q (.bl (PyData.eqv da db)) H
def rNeD (K : PySem.W.Frag) (u : Nat) : R2 := fun x y H Q => ∃ da db, Rep K H da x ∧ Rep K H db y ∧ da.canLay0 = true ∧ db.canLay0 = true ∧ u + min da.depth db.depth < cLine ∧ Q (.bl (!PyData.eqv da db)) H
theorem op_eqD : OpR X (compareOp .Eq) (rEqD X.K X.A.units) := by
  intro pins s σ H x y v u Q I rx ry ⟨da, db, ha, hb, ca, cb, hu, q⟩
  obtain ⟨as, ra⟩ := ha.reads I rx
  obtain ⟨bs, rb⟩ := hb.reads I ry
  exact SeqAt.compareEq_reads ra rb ca cb hu ⟨.bl _, H, I, rfl, q⟩
theorem op_neD : OpR X (compareOp .NotEq) (rNeD X.K X.A.units) := by
  intro pins s σ H x y v u Q I rx ry ⟨da, db, ha, hb, ca, cb, hu, q⟩
  obtain ⟨as, ra⟩ := ha.reads I rx
  obtain ⟨bs, rb⟩ := hb.reads I ry
  exact SeqAt.compareNe_reads ra rb ca cb hu ⟨.bl _, H, I, rfl, q⟩

/-! ### isinstance with one built-in class -/
theorem call_isi : CallR X (.builtin "isinstance") (fun xs H Q => ∃ x n t b, xs = [x, .ty n] ∧ TyOf X.K H x t ∧ PySem.W.kitOne X.K t (.type n) = some b ∧ Q (.bl b) H) := by
  intro pins s σ H xs us Q I r ⟨x, n, t, b, e, ty, k, q⟩
  subst e
  obtain ⟨u, w', e, ru, rw'⟩ := Vals.two r
  subst e
  cases rw'
  exact isinst_ok I ru ty k fun tk => ⟨.bl _, H, I.tok tk, rfl, q⟩
/-! ### set(list of ints), len of it -/
theorem call_setL (hc : X.calm = true) : CallR X (.type "set") (fun xs H Q => ∃ (a : Addr) (ns : List Int), xs = [.ref a] ∧ SqL X.K H a (ns.map V.int) ∧ ns.length + 1 < scanBound ∧
    ∀ p, H p = none → Q (.ref p) (upd H p (.set (fun k' => (firstMet (fun i => ns.getD i 0) ns.length).any (· == k')) (firstMet (fun i => ns.getD i 0) ns.length).length))) := by
  intro pins s σ H xs us Q I r ⟨a, ns, e, hq, hb, q⟩
  subst e
  obtain ⟨u, e, ru⟩ := Vals.one r
  subst e
  cases ru
  obtain ⟨its, rv, p, hz⟩ := I.list hq
  have hl := rv.length
  rw [List.length_map] at hl
  have esz : its.toArray.size = ns.length := by simp [hl]
  refine call_set_list (I.ok.hd hc) p.isList (ns := ns) (by simpa using intsAre_of rv) (by rw [esz]; exact hb) fun h' tk so kp => ?_
  rw [esz] at so
  exact ⟨.ref s.heap.objs.size, _, I.laid (o := .set (fun k' => (firstMet (fun i => ns.getD i 0) ns.length).any (· == k')) (firstMet (fun i => ns.getD i 0) ns.length).length) (fun b o e => kp b o (Heap.lt_size e) e) (Nat.le_refl _) so, rfl, q _ (I.hok.fresh (Nat.le_refl _))⟩
theorem call_lenS : CallR X (.builtin "len") (fun xs H Q => ∃ (a : Addr) (S : Int → Bool) (n : Nat), xs = [.ref a] ∧ H a = some (.set S n) ∧ Q (.int n) H) := by
  intro pins s σ H xs us Q I r ⟨a, S, n, e, hq, q⟩
  subst e
  obtain ⟨u, e, ru⟩ := Vals.one r
  subst e
  cases ru
  obtain ⟨o, es, ep, t, e1, e2, e3, e4, e5, e6, e7, e8⟩ := (show s.heap.SetOf (intKind X.prog X.w) a S n from I.hok a _ hq)
  subst e8
  refine call_len_set e1 e2 e3 e7 ?_ ⟨.int _, H, I.tok _, ⟨_, rfl⟩, q⟩
  have : es.size < 2 ^ 62 := Nat.lt_of_lt_of_le e6 (by decide)
  omega

/-! ### min, max of a list of ints -/
theorem call_minL (hc : X.calm = true) : CallR X (.builtin "min") (fun xs H Q => ∃ (a : Addr) (ns : List Int), xs = [.ref a] ∧ SqL X.K H a (ns.map V.int) ∧ 0 < ns.length ∧ ∀ m, m ∈ ns → (∀ n ∈ ns, m ≤ n) → Q (.int m) H) := by
  intro pins s σ H xs us Q I r ⟨a, ns, e, hq, hne, q⟩
  subst e
  obtain ⟨u, e, ru⟩ := Vals.one r
  subst e
  cases ru
  obtain ⟨its, rv, p, hz⟩ := I.list hq
  have hi : IntsAre its ns := intsAre_of rv
  have hl := p.isList
  obtain ⟨xs, e⟩ := hi.allInts.items
  have hns : ns = xs.toList.map (·.1) := by
    rw [← hi.numsOf, ← nums_intItems, ← e]
  have hsz : 0 < xs.size := by
    have h3 := hne; rw [hns, List.length_map, Array.length_toList] at h3; exact h3
  rw [e] at hl
  refine min_intList (I.ok.hd hc) hl hsz fun v h' tk hv hk => ?_
  obtain ⟨t, rfl⟩ := intItems_at hv
  obtain ⟨h1, h2⟩ := argBest_lt (numAt xs) (xs.size - 1)
  refine ⟨.int _, H, I.kept hk, ⟨t, rfl⟩, q _ ?_ fun a ha => ?_⟩
  · rw [hns, numAt_eq]; exact getD_mem (by rw [List.length_map, Array.length_toList]; omega)
  · rw [hns] at ha
    obtain ⟨j, hj, rfl⟩ := mem_getD ha
    rw [List.length_map, Array.length_toList] at hj
    rw [← numAt_eq]; exact h2 j (by omega)
end
end L2

set_option Elab.async false
set_option linter.all false
set_option maxRecDepth 100000
/-! EXTENSION 3: blocks by a check; a block by an invariant; hidden lists -/
namespace L2
open PySem PySem.Spec PyProof.Rows

/-! ### a block's text, by a check -/
def compChk (scope dsc : Scope) (N0 N2 : List Str) (cap : List (Option Nat)) : Bool :=
  (scope.kind == .function) && (scope.names.all fun y => y.2 != .cell) && (scope.names.all fun y => y.2 != .local || scope.names.lookup y.1 == some .local) &&
  (scope.names.all fun y => y.2 != .free || dsc.names.lookup y.1 == some .cell) && (scope.names.all fun y => y.2 != .free || scope.names.lookup y.1 == some .free) && decide N2.Nodup && (cap.length == N2.length) &&
  ((List.range cap.length).all fun i => match cap[i]?, N2[i]? with
    | some (some j), some x => N0[j]? == some x && scope.names.any (fun y => y.1 == x && y.2 == .free)
    | _, _ => true)
theorem compOk_of {X : Cx} {scope dsc : Scope} {N0 N2 : List Str} {cap : List (Option Nat)} (hd : X.env.scope = dsc) (hN : X.N = N0) (h : compChk scope dsc N0 N2 cap = true) : CompOk X scope N2 cap := by
  unfold compChk at h
  simp only [Bool.and_eq_true] at h
  obtain ⟨⟨⟨⟨⟨⟨⟨h1, h2⟩, h3⟩, h4⟩, h5⟩, h6⟩, h7⟩, h8⟩ := h
  rw [List.all_eq_true] at h2 h3 h4 h5 h8
  refine ⟨by simpa using h1, fun y hy e => ?_, fun y hy e => ?_, fun y hy e => ?_, fun y hy e => ?_, of_decide_eq_true h6, by simpa using h7, fun i j x e1 e2 => ?_⟩
  · have := h2 y hy; rw [e] at this; exact absurd this (by decide)
  · have := h3 y hy; rw [e] at this; simpa using this
  · have := h4 y hy
    rw [e] at this
    show X.env.scope.names.lookup y.1 = some .cell
    rw [hd]
    simpa using this
  · have := h5 y hy; rw [e] at this; simpa using this
  · have hi : i < cap.length := (List.getElem?_eq_some_iff.mp e1).1
    have q := h8 i (List.mem_range.mpr hi)
    rw [e1, e2] at q
    simp only [Bool.and_eq_true] at q
    refine ⟨by rw [hN]; simpa using q.1, ?_⟩
    obtain ⟨y, hy, z⟩ := List.any_eq_true.mp q.2
    simp only [Bool.and_eq_true] at z
    have e3 : y.1 = x := by simpa using z.1
    have e4 : y.2 = .free := by simpa using z.2
    rw [← e3, ← e4]
    exact hy

/-! ### a block by an invariant: P turn, items, heap; the heap keeps what it had ahead (H1), the new list is at acc -/
def CW (H1 : Hp) (acc : Addr) (n : Nat) (P : Nat → List V → Hp → Prop) : Nat → Nat → Hp → Prop :=
  fun i m H => m = n - i ∧ i ≤ n ∧ Same H1 H ∧ ∃ ys, H acc = some (.lst ys) ∧ P i ys H
theorem comp_by {J : It} {n : Nat} {cap : List (Option Nat)} {g : TG} {tc : TT} {te : TE} {σ : St} {Qr : Hp → Prop} {H1 : Hp} {acc : Addr} (P : Nat → List V → Hp → Prop) (hacc : H1 acc = none)
    (go : ∀ i H, i < n → Same H1 H → J.go i H) (stop : ∀ H, Same H1 H → J.stop n H) (h0 : P 0 [] (upd H1 acc (.lst [])))
    (step : ∀ i ys H, i < n → Same H1 H → H acc = some (.lst ys) → P i ys H → ∀ x H', J.yld i H x H' → g x (capSt cap σ) H' fun σ2 H2 => tc σ2 H2 fun b H3 => if b = true then te σ2 H3 fun y H4 => ∃ xs, H4 acc = some (.lst xs) ∧ xs.length < sizeLine ∧
      ∃ m', m' < n - i ∧ CW H1 acc n P (i + 1) m' (upd H4 acc (.lst (xs ++ [y]))) else ∃ m', m' < n - i ∧ CW H1 acc n P (i + 1) m' H3)
    (fin : ∀ ys H, Same H1 H → H acc = some (.lst ys) → P n ys H → Qr H) :
    ∃ W : Nat → Nat → Hp → Prop, (∃ m, W 0 m (upd H1 acc (.lst []))) ∧ ∀ i m H, W i m H →
      (J.stop i H ∧ Qr H) ∨ (J.go i H ∧ ∀ x H', J.yld i H x H' → g x (capSt cap σ) H' fun σ2 H2 => tc σ2 H2 fun b H3 => if b = true then te σ2 H3 fun y H4 => ∃ xs, H4 acc = some (.lst xs) ∧ xs.length < sizeLine ∧
        ∃ m', m' < m ∧ W (i + 1) m' (upd H4 acc (.lst (xs ++ [y]))) else ∃ m', m' < m ∧ W (i + 1) m' H3) := by
  refine ⟨CW H1 acc n P, ⟨n, rfl, Nat.zero_le _, Same.new hacc, [], upd_same, h0⟩, ?_⟩
  rintro i m H ⟨rfl, hi, s, ys, hy, p⟩
  by_cases hlt : i < n
  · exact .inr ⟨go i H hlt s, step i ys H hlt s hy p⟩
  · have e : i = n := by omega
    subst e
    exact .inl ⟨stop H s, fin ys H s hy p⟩
/-- a turn's end with one item more -/
theorem comp_add {H1 H4 : Hp} {acc : Addr} {n i : Nat} {P : Nat → List V → Hp → Prop} {ys : List V} {y : V} (hacc : H1 acc = none) (hi : i < n) (s : Same H1 H4) (hy : H4 acc = some (.lst ys)) (hl : ys.length < sizeLine) (p : P (i + 1) (ys ++ [y]) (upd H4 acc (.lst (ys ++ [y])))) :
    ∃ xs, H4 acc = some (.lst xs) ∧ xs.length < sizeLine ∧ ∃ m', m' < n - i ∧ CW H1 acc n P (i + 1) m' (upd H4 acc (.lst (xs ++ [y]))) :=
  ⟨ys, hy, hl, n - (i + 1), by omega, rfl, hi, s.out hacc, _, upd_same, p⟩
/-- .. with none -/
theorem comp_skip {H1 H3 : Hp} {acc : Addr} {n i : Nat} {P : Nat → List V → Hp → Prop} {ys : List V} (hi : i < n) (s : Same H1 H3) (hy : H3 acc = some (.lst ys)) (p : P (i + 1) ys H3) : ∃ m', m' < n - i ∧ CW H1 acc n P (i + 1) m' H3 :=
  ⟨n - (i + 1), by omega, rfl, hi, s, _, hy, p⟩
theorem itl_go {K : PySem.W.Frag} {a : Addr} {xs : List V} {H1 : Hp} (h : SqL K H1 a xs) : ∀ i H, i < xs.length → Same H1 H → (Itl K a).go i H := fun i H hi s => ⟨xs, xs[i], s.seq h, by simp [hi]⟩
theorem itl_stop {K : PySem.W.Frag} {a : Addr} {xs : List V} {H1 : Hp} (h : SqL K H1 a xs) : ∀ H, Same H1 H → (Itl K a).stop xs.length H := fun H s => ⟨xs, s.seq h, Nat.le_refl _⟩
theorem ite_go {K : PySem.W.Frag} {a : Addr} {xs : List V} {H1 : Hp} (h : SqL K H1 a xs) : ∀ i H, i < xs.length → Same H1 H → (Ite K a).go i H := fun i H hi s => ⟨xs, xs[i], s.seq h, by simp [hi]⟩
theorem ite_stop {K : PySem.W.Frag} {a : Addr} {xs : List V} {H1 : Hp} (h : SqL K H1 a xs) : ∀ H, Same H1 H → (Ite K a).stop xs.length H := fun H s => ⟨xs, s.seq h, Nat.le_refl _⟩
theorem itr_go {lo : Int} {n : Nat} {H1 : Hp} : ∀ i H, i < n → Same H1 H → (Itr lo n).go i H := fun i H hi s => hi
theorem itr_stop {lo : Int} {n : Nat} {H1 : Hp} : ∀ H, Same H1 H → (Itr lo n).stop n H := fun H s => Nat.le_refl n

/-! ### all but one list -/
/-! ### items of data by their place -/
theorem atI_ge {α : Type} {xs : List α} {i : Int} {v : α} (h0 : 0 ≤ i) (h : xs[i.toNat]? = some v) : atI xs i = some v := by
  obtain ⟨k, rfl⟩ := Int.eq_ofNat_of_zero_le h0
  exact atI_nat (by simpa using h)
theorem atI_ints {ns : List Int} {i : Int} (h0 : 0 ≤ i) (h : i < ns.length) : atI (ns.map V.int) i = some (.int (ns.getD i.toNat 0)) := by
  have hk : i.toNat < ns.length := by omega
  refine atI_ge h0 ?_
  rw [List.getElem?_map, List.getD_eq_getElem?_getD, List.getElem?_eq_getElem hk]
  rfl

/-! ### rules with the written part named (within a block the reading must not name the block's state) -/
section
variable {X : Cx}
theorem ix_listK (K : PySem.W.Frag) (h : X.K = K) : IxR X (rIxL K) := by subst h; exact ix_list
theorem ix_tupK (K : PySem.W.Frag) (h : X.K = K) : IxR X (rIxT K) := by subst h; exact ix_tup
theorem sl_tupK (K : PySem.W.Frag) (h : X.K = K) : SlR X (rSlT K) := by subst h; exact sl_tup
theorem op_in_seqK (K : PySem.W.Frag) (h : X.K = K) : OpR X (compareOp .In) (rIn K false) := by subst h; exact op_in_seq
theorem pg_tupK (K : PySem.W.Frag) (h : X.K = K) {es : List Expr} {k : Nat} {pos : Pos} {t : TGs} {n : Nat} (hc : X.calm = true) (h' : PGs X es t) (hn : (assignEach es X.env).length = n := by rfl)
    (hst : (assignEach es X.env).findIdx? (·.1) = none := by rfl) : PG X (.Tuple es k pos) (gTup K n t) := by subst h; exact pg_tup hc h' hn hst

theorem call_isiL : CallR X (.builtin "isinstance") (fun xs H Q => ∃ (a : Addr) (ys : List V) (n : String) (b : Bool), xs = [.ref a, .ty n] ∧ SqL X.K H a ys ∧ PySem.W.kitOne X.K (.type "list") (.type n) = some b ∧ Q (.bl b) H) := by
  intro pins s σ H xs us Q I r ⟨a, ys, n, b, e, hq, k, q⟩
  subst e
  obtain ⟨u, w', e, ru, rw'⟩ := Vals.two r
  subst e
  cases rw'
  cases ru
  obtain ⟨its, rv, ⟨o, n', h1, h2, _⟩, _⟩ := I.list hq
  exact PySem.W.kia_one PySem.W.kitx_list I.kIn ⟨o, h1, h2⟩ k (fun z => nomatch z) fun tk => ⟨.bl _, H, I.tok tk, rfl, q⟩

/-! ### argument lists by a cheap check -/
def nostar : Expr → Bool
  | .Starred _ _ => false
  | _ => true
theorem starEach_ns {e : Expr} {es : List Expr} {env : Env} (h : nostar e = true) : starEach (e :: es) env = (false, eval e env) :: starEach es env := by
  cases e <;> first | rfl | (exact Bool.noConfusion h) | simp [starEach]
theorem pa_c {e : Expr} {es : List Expr} {te : TE} {t : TA} (ha : PE X e te) (hr : PA X es t) (hs : nostar e = true := by rfl) : PA X (e :: es) (tCons te t) := pa_cons ha hr (starEach_ns hs)

/-! ### written data -/
def allD (f : Expr → Option PyData) : List Expr → Option (List PyData)
  | [] => some []
  | e :: es => match f e, allD f es with
    | some d, some ds => some (d :: ds)
    | _, _ => none
def constD : Nat → Expr → Option PyData
  | 0, _ => none
  | n + 1, e => match e with
    | .Constant (.int i) _ _ => some (.int i)
    | .List es _ => if es.length ≤ 1000 then (allD (constD n) es).map .list else none
    | .Tuple es _ _ => if es.length ≤ 1000 then (allD (constD n) es).map .tuple else none
    | _ => none
def tConst (K : PySem.W.Frag) (d : PyData) : TE := fun _ H Q => ∀ v H', Same H H' → Rep K H' d v → Q v H'
def tConsts (K : PySem.W.Frag) (ds : List PyData) : TA := fun _ H Q => ∀ vs H', Same H H' → RepAll K H' ds vs → Q vs H'
theorem PE.imp {e : Expr} {t t' : TE} (h : PE X e t) (i : ∀ σ H Q, t' σ H Q → t σ H Q) : PE X e t' := fun pins s σ H Q I q => h pins s σ H Q I (i σ H Q q)
theorem PA.imp {es : List Expr} {t t' : TA} (h : PA X es t) (i : ∀ σ H Q, t' σ H Q → t σ H Q) : PA X es t' := fun pos pins s σ H Q I q => h pos pins s σ H Q I (i σ H Q q)
theorem allD_len {f : Expr → Option PyData} : ∀ {es : List Expr} {ds : List PyData}, allD f es = some ds → ds.length = es.length
  | [], _, h => by cases h; rfl
  | e :: es, ds, h => by
    unfold allD at h
    split at h
    · rename_i d ds' h1 h2
      cases h
      rw [List.length_cons, List.length_cons, allD_len h2]
    · cases h
theorem constD_ns {n : Nat} {e : Expr} {d : PyData} (h : constD n e = some d) : nostar e = true := by
  cases n with
  | zero => cases h
  | succ n => cases e <;> first | rfl | (cases h)
theorem pa_consts (K : PySem.W.Frag) (hK : X.K = K) {f : Expr → Option PyData} (hf : ∀ e d, f e = some d → PE X e (tConst K d) ∧ nostar e = true) : ∀ {es : List Expr} {ds : List PyData}, allD f es = some ds → PA X es (tConsts K ds)
  | [], _, h => by
    cases h
    exact PA.imp pa_nil fun σ H Q q => q [] H (Same.refl H) rfl
  | e :: es, ds, h => by
    unfold allD at h
    split at h
    · rename_i d ds' h1 h2
      cases h
      obtain ⟨p, ns⟩ := hf e d h1
      refine PA.imp (pa_c p (pa_consts K hK hf h2) ns) fun σ H Q q => ?_
      intro v H1 s1 r1 vs H2 s2 r2
      exact q (v :: vs) H2 (s1.trans s2) ⟨v, vs, rfl, r1.mono s2, r2⟩
    · cases h
theorem pe_const (K : PySem.W.Frag) (hK : X.K = K) : ∀ {n : Nat} {e : Expr} {d : PyData}, constD n e = some d → PE X e (tConst K d)
  | 0, _, _, h => by cases h
  | n + 1, e, d, h => by
    unfold constD at h
    split at h
    · cases h
      exact PE.imp pe_int fun σ H Q q => q _ H (Same.refl H) rfl
    · rename_i es pos
      split at h
      · rename_i hl
        cases e1 : allD (constD n) es with
        | none => rw [e1] at h; cases h
        | some ds =>
          rw [e1] at h
          cases h
          refine PE.imp (pe_lst (pa_consts K hK (fun e d q => ⟨pe_const K hK q, constD_ns q⟩) e1)) fun σ H Q q => ?_
          intro vs H1 s1 r1
          have hlen : vs.length ≤ 1000 := by rw [r1.length, allD_len e1]; exact hl
          refine ⟨Nat.le_of_lt (small1000 hlen), fun p hp => ?_⟩
          exact q (.ref p) _ (s1.trans (Same.new hp)) ⟨p, vs, rfl, SqL.of upd_same, r1.mono (Same.new hp)⟩
      · cases h
    · rename_i es k pos
      split at h
      · rename_i hl
        cases e1 : allD (constD n) es with
        | none => rw [e1] at h; cases h
        | some ds =>
          rw [e1] at h
          cases h
          refine PE.imp (pe_tup (pa_consts K hK (fun e d q => ⟨pe_const K hK q, constD_ns q⟩) e1)) fun σ H Q q => ?_
          intro vs H1 s1 r1
          have hlen : vs.length ≤ 1000 := by rw [r1.length, allD_len e1]; exact hl
          refine ⟨Nat.le_of_lt (small1000 hlen), fun p hp => ?_⟩
          exact q (.ref p) _ (s1.trans (Same.new hp)) ⟨p, vs, rfl, SqT.of upd_same, r1.mono (Same.new hp)⟩
      · cases h
    · cases h
end
end L2

set_option Elab.async false
set_option linter.all false
set_option maxRecDepth 100000
/-! EXTENSION 4: dicts: setdefault, a walk over the keys; all of a list of truths -/
namespace L2
open PySem PySem.Spec PyProof.Rows


/-! ### for k in d -/
/-! ### all([..]) -/
end L2

set_option Elab.async false
set_option linter.all false
/-! pairs of houses: what leads where (plain mathematics) -/
namespace Gr
abbrev Ps := List (Int × Int)
def adj (ps : Ps) (k : Nat) (x y : Int) : Prop := ps[k]? = some (x, y) ∨ ps[k]? = some (y, x)
/-! ### the neighbours of a house, by the pairs' numbers -/
/-! ### lists without a double -/
theorem nodup_len {α : Type} [DecidableEq α] : ∀ {xs B : List α}, xs.Nodup → (∀ x ∈ xs, x ∈ B) → xs.length ≤ B.length
  | [], _, _, _ => Nat.zero_le _
  | x :: xs, B, hn, hs => by
    have hx := hs x List.mem_cons_self
    have h2 : ∀ y ∈ xs, y ∈ B.erase x := fun y hy => by
      have ne : y ≠ x := fun e => (List.nodup_cons.mp hn).1 (e ▸ hy)
      exact (List.mem_erase_of_ne ne).mpr (hs y (List.mem_cons_of_mem _ hy))
    have h3 := nodup_len (List.nodup_cons.mp hn).2 h2
    have h4 := List.length_erase_of_mem hx
    have h5 : 0 < B.length := List.length_pos_of_mem hx
    rw [List.length_cons]; omega
theorem nodup_snoc {α : Type} {xs : List α} {x : α} (h : xs.Nodup) (hx : x ∉ xs) : (xs ++ [x]).Nodup := by
  rw [List.nodup_append]
  refine ⟨h, by simp, fun a ha b hb => ?_⟩
  have : b = x := by simpa using hb
  rw [this]
  exact fun e => hx (e ▸ ha)
/-! ### the houses come to from one, each with its step back -/
def ends (ps : Ps) : List Int := ps.flatMap fun p => [p.1, p.2]
/-! ### a way -/
/-! ### the parts -/
end Gr

set_option Elab.async false
set_option linter.all false
set_option maxRecDepth 100000
/-! lists of pairs, a dict of lists of pairs, a dict of steps back, in the heap -/
namespace L2
open PySem Gr


/-! ### tuples of two numbers -/
/-! ### for each house the list of its pairs -/

/-! ### the steps back -/
end L2

set_option Elab.async false
set_option linter.all false
set_option maxRecDepth 100000
/-! EXTENSION 5: range objects, list(range(n)) -/
namespace L2
open PySem PySem.Spec PyProof.Rows
end L2

set_option Elab.async false
set_option linter.all false
/-! rounds, marks (plain mathematics) -/
namespace Gr
/-! ### marks -/
end Gr

set_option Elab.async false
set_option linter.all false
namespace Gr
end Gr

set_option Elab.async false
set_option linter.all false
set_option maxRecDepth 100000
/-! EXTENSION 6: an exception on its way: what its notes change -/
namespace L2
open PySem PySem.Spec PyProof.Rows

end L2

set_option Elab.async false
set_option linter.all false
set_option maxRecDepth 100000
namespace L2
open PySem PySem.Spec PyProof.Rows
/-! ### the state through a note -/

/-! ### an exception here; an exception behind a call -/
end L2

set_option Elab.async false
set_option linter.all false
set_option maxRecDepth 100000
namespace L2
open PySem PySem.Spec PyProof.Rows

/-! ### an own class of errors under ValueError -/
/-! ### raise C(..) -/
end L2

set_option Elab.async false
set_option linter.all false
set_option maxRecDepth 100000
namespace L2
open PySem PySem.Spec PyProof.Rows
/-! ### an exception that is held: isinstance, except -/
end L2

set_option Elab.async false
set_option linter.all false
set_option maxRecDepth 100000
namespace L2
open PySem PySem.Spec PyProof.Rows
/-! ### expressions that may raise; try .. except C as n -/

end L2

set_option Elab.async false
set_option linter.all false
set_option maxRecDepth 100000
/-! EXTENSION 7: f-strings, list.insert -/
namespace L2
open PySem PySem.Spec PyProof.Rows
end L2

set_option linter.all false
/-! Own work: rows, offers, dues, rounds (the mathematics; no model in it). A row's by: -1 for none. -/
namespace RM
structure Row where
  hd : Int
  co : Int
  ho : Int
  by_ : Int
deriving DecidableEq
theorem Row.ext' {r s : Row} (h1 : r.hd = s.hd) (h2 : r.co = s.co) (h3 : r.ho = s.ho) (h4 : r.by_ = s.by_) : r = s := by
  cases r; cases s; simp_all
def lt (r s : Row) : Prop := r.hd < s.hd ∨ (r.hd = s.hd ∧ (r.co < s.co ∨ (r.co = s.co ∧ (r.ho < s.ho ∨ (r.ho = s.ho ∧ r.by_ < s.by_)))))
instance (r s : Row) : Decidable (lt r s) := by unfold lt; infer_instance
def le (r s : Row) : Prop := ¬ lt s r
instance (r s : Row) : Decidable (le r s) := by unfold le; infer_instance
theorem le_refl (r : Row) : le r r := by unfold le lt; omega
theorem lexT {a b c : Int} {N1 N2 N3 : Prop} (h : ¬ N1 → ¬ N2 → ¬ N3) (h1 : ¬ (b < a ∨ (b = a ∧ N1))) (h2 : ¬ (c < b ∨ (c = b ∧ N2))) : ¬ (c < a ∨ (c = a ∧ N3)) := by
  have n1 : a ≤ b := Int.not_lt.mp fun y => h1 (.inl y)
  have n2 : b ≤ c := Int.not_lt.mp fun y => h2 (.inl y)
  intro z
  rcases z with z | ⟨z, n⟩
  · exact Int.not_lt.mpr (Int.le_trans n1 n2) z
  · subst z
    have e := Int.le_antisymm n1 n2
    subst e
    exact h (fun y => h1 (.inr ⟨rfl, y⟩)) (fun y => h2 (.inr ⟨rfl, y⟩)) n
theorem le_trans {r s t : Row} (h1 : le r s) (h2 : le s t) : le r t :=
  lexT (lexT (lexT fun a b => Int.not_lt.mpr (Int.le_trans (Int.not_lt.mp a) (Int.not_lt.mp b)))) h1 h2
theorem lt_le {r s : Row} (h : lt r s) : le r s := by unfold le lt at *; omega
theorem lt_irrefl (r : Row) : ¬ lt r r := by unfold lt; omega
/-- a town: names, and ropes by their numbers -/
structure Net where
  n : Nat
  nm : Nat → Int
  a : Nat → Nat
  b : Nat → Nat
  c : Nat → Int
  live : List Nat
  inj : ∀ i j, i < n → j < n → nm i = nm j → i = j
  ab : ∀ k ∈ live, a k < n ∧ b k < n ∧ a k ≠ b k
  c1 : ∀ k ∈ live, 1 ≤ c k
section
variable (N : Net)
/-- live rope k leads from h to g -/
def Adj (k h g : Nat) : Prop := k ∈ N.live ∧ ((N.a k = h ∧ N.b k = g) ∨ (N.b k = h ∧ N.a k = g))
def own (h : Nat) : Row := ⟨N.nm h, 0, 0, -1⟩
/-- what a row makes over a rope, of any hops -/
def over (k : Nat) (r : Row) : Row := ⟨r.hd, r.co + N.c k, r.ho + 1, k⟩
end
variable {N : Net}
theorem Adj.lt {k h g : Nat} (e : Adj N k h g) : h < N.n ∧ g < N.n ∧ h ≠ g := by
  obtain ⟨hk, e⟩ := e
  obtain ⟨h1, h2, h3⟩ := N.ab k hk
  rcases e with ⟨rfl, rfl⟩ | ⟨rfl, rfl⟩
  · exact ⟨h1, h2, h3⟩
  · exact ⟨h2, h1, Ne.symm h3⟩
theorem Adj.cost {k h g : Nat} (e : Adj N k h g) : 1 ≤ N.c k := N.c1 k e.1
/-- d is the due of h, by rows R; cut: hops that come to it are no offers -/
structure IsDue (cut : Int) (R : Nat → Row) (h : Nat) (d : Row) : Prop where
  one : d = own N h ∨ ∃ k g, Adj N k h g ∧ (R g).ho + 1 < cut ∧ d = over N k (R g)
  own : le d (RM.own N h)
  all : ∀ k g, Adj N k h g → (R g).ho + 1 < cut → le d (over N k (R g))
/-- hops within their bounds -/
def Sane (N : Net) (R : Nat → Row) : Prop := ∀ h, h < N.n → 0 ≤ (R h).ho ∧ (R h).ho < N.n
def upd (R : Nat → Row) (h : Nat) (d : Row) : Nat → Row := fun x => if x = h then d else R x
/-! ### there are rows at rest, just one -/
/-! ### parts; heads -/
/-! ### hanging -/
/-- house h hangs by rope k on house g -/
structure Hang (N : Net) (R : Nat → Row) (k h g : Nat) : Prop where
  adj : Adj N k h g
  cut : (R g).ho + 1 < N.n
  eq : R h = over N k (R g)
theorem Adj.far {k h g g' : Nat} (a : Adj N k h g) (a' : Adj N k h g') : g = g' := by
  obtain ⟨hk, e⟩ := a
  obtain ⟨_, e'⟩ := a'
  have := (N.ab k hk).2.2
  omega
section
variable {R : Nat → Row} {k h g : Nat}
theorem Hang.ho (t : Hang N R k h g) : (R h).ho = (R g).ho + 1 := by rw [t.eq]; rfl
theorem Hang.hd (t : Hang N R k h g) : (R h).hd = (R g).hd := by rw [t.eq]; rfl
theorem Hang.co (t : Hang N R k h g) : (R h).co = (R g).co + N.c k := by rw [t.eq]; rfl
theorem Hang.by (t : Hang N R k h g) : (R h).by_ = k := by rw [t.eq]; rfl
theorem Hang.uniq {k' g' : Nat} (t : Hang N R k h g) (u : Hang N R k' h g') : k = k' ∧ g = g' := by
  have h1 := t.by
  have h2 := u.by
  have e : k = k' := by omega
  subst e
  exact ⟨rfl, t.adj.far u.adj⟩
/-- a rope that is open has one who hangs by it, just one -/
theorem Hang.one {h' g' : Nat} (t : Hang N R k h g) (u : Hang N R k h' g') : h = h' ∧ g = g' := by
  obtain ⟨hk, e⟩ := t.adj
  obtain ⟨_, e'⟩ := u.adj
  have h1 := t.ho
  have h2 := u.ho
  have e3 : h = h' ∨ (h = g' ∧ g = h') := by
    rcases e with ⟨rfl, rfl⟩ | ⟨rfl, rfl⟩ <;> rcases e' with ⟨rfl, rfl⟩ | ⟨rfl, rfl⟩ <;> simp
  rcases e3 with e3 | ⟨e3, e4⟩
  · subst e3
    exact ⟨rfl, t.adj.far u.adj⟩
  · subst e3 e4
    omega
end
/-! ### a fall touches those beyond alone -/
/-! ### how many rounds -/
end RM

set_option linter.all false
/-! labels that go along live ropes (the mathematics; no model in it) -/
namespace RM
variable {N : Net}
end RM

set_option Elab.async false
set_option linter.all false
set_option maxRecDepth 100000
/-! EXTENSION 8: t < u of tuples that are told apart by ints, though they hold None -/
namespace L2
open PySem PySem.Spec PyProof.Rows
/-- the outcome of t < u, where ints tell it -/
inductive LexV : List Value → List Value → Bool → Prop
  | nil : LexV [] [] false
  | ne {a c : Int} {t u : Tok} {vs ws : List Value} (h : a ≠ c) : LexV (.int a t :: vs) (.int c u :: ws) (decide (a < c))
  | eq {a : Int} {t u : Tok} {vs ws : List Value} {r : Bool} (h : LexV vs ws r) : LexV (.int a t :: vs) (.int a u :: ws) r
section
open PySem.SeqAt
open PySem.AutoSeq1 (wpAny_loadPart')
open PySem.MeetsSeq PySem.MeetsSeq2 PySem.MeetsSeq3
theorem tuple_lt_V (l b : Addr) (items items2 : Array Value) (n n2 : Nat) (dd dd2 : Option Addr) (sl sl2 : Array (Option Value)) (r : Bool) (hi : LexV items.toList items2.toList r) (hsz : items.size = items2.size) :
    Meets (Builtin.«tuple.__lt__» ⟨[.ref l, .ref b], []⟩)
      (fun _ R s => s.heap.get? l = some { cls := .type "tuple", dict := dd, data := .seq items n, slots := sl } ∧ s.heap.get? b = some { cls := .type "tuple", dict := dd2, data := .seq items2 n2, slots := sl2 } ∧
        R (.ok (.ret (.bool r))) s) :=
  .of_wp fun prog w A R s h => by
    obtain ⟨hp, g, d, tk, os⟩ := s; obtain ⟨hl, hb, h⟩ := h
    have f2 := AutoSeq1.sub_tuple_tuple
    wp_walk using wpAny_loadPart' hl, wpAny_loadPart' hb, wpAny_forIn_list _ (fun rest b s' => b.1 = none ∧ s' = ⟨hp, g, d, tk, os⟩ ∧ ∃ (vs ws : List Value), rest = vs.zip ws ∧ LexV vs ws r) _
    case turn =>
      rintro ⟨y, x⟩ rest b s' ⟨hb', rfl, vs, ws, hz, hx⟩
      cases hx with
      | nil => rw [List.zip_nil_left] at hz; cases hz
      | @ne a c t u vs ws hne =>
        rw [List.zip_cons_cons] at hz
        injection hz with hyx hrest
        injection hyx with hy hx
        subst hy hx
        obtain ⟨e, he, hiff⟩ := HT.eqAt_int A.in1 ⟨hp, g, d, tk, os⟩ a t c u
        refine wpAny_bind (he prog w _ _ ?_)
        cases e with
        | true => exact absurd (hiff.mp rfl) hne
        | false =>
          have hri := HT.rcLt_int A.in1 ⟨hp, g, d, tk, os⟩ a t c u prog w
          wp_walk using hri
          exact ⟨_, rfl, by simpa using h⟩
      | @eq a t u vs ws r' hx' =>
        rw [List.zip_cons_cons] at hz
        injection hz with hyx hrest
        injection hyx with hy hx
        subst hy hx
        obtain ⟨e, he, hiff⟩ := HT.eqAt_int A.in1 ⟨hp, g, d, tk, os⟩ a t a u
        refine wpAny_bind (he prog w _ _ ?_)
        cases e with
        | true =>
          wp_walk
          exact ⟨rfl, rfl, _, _, hrest, hx'⟩
        | false => exact absurd (hiff.mpr rfl) Bool.false_ne_true
    case fin =>
      rintro ⟨b1, b2⟩ s' ⟨hb', rfl, vs, ws, hz, hx⟩
      simp only at hb'
      subst hb'
      cases hx with
      | nil =>
        have hv : decide (items.size < items2.size) = false := decide_eq_false (by omega)
        rw [← hv] at h
        wp_walk
        exact ⟨_, rfl, by simpa [Builtin.Tuple.tupleCompareSizes] using h⟩
      | ne => rw [List.zip_cons_cons] at hz; cases hz
      | eq => rw [List.zip_cons_cons] at hz; cases hz
    case h =>
      exact ⟨rfl, rfl, items.toList, items2.toList, rfl, hi⟩
end
theorem lt_tupV {prog : Program} {w : World} {A : Around} {E : Value → Shared → Prop} {s : Shared} {l b : Addr} {items items2 : Array Value} {r : Bool} {Q : Value → Shared → Prop} (hl : IsTup s.heap l items) (hb : IsTup s.heap b items2) (hi : LexV items.toList items2.toList r) (hsz : items.size = items2.size)
    (hu : A.units < cLine) (h : Q (.bool r) s) : wpAny (model prog w) A (compareOp .Lt (.ref l) (.ref b)) Q E s := by
  obtain ⟨⟨cls, dd, data, sl⟩, ho, hc, n, hd⟩ := id hl
  obtain ⟨⟨cls2, dd2, data2, sl2⟩, ho2, hc2, n2, hd2⟩ := id hb
  simp only at hc hd hc2 hd2
  subst hc hd hc2 hd2
  exact richCompare_meets_room (op := .Lt) ⟨_, ho, rfl⟩ ⟨_, ho2, rfl⟩ PySem.F.slot_tuple_lt PySem.F.entry_tuple_lt (PySem.F.args_tuple_lt_2 _ _) (tuple_lt_V l b items items2 n n2 dd dd2 sl sl2 r hi hsz)
    ⟨ho, ho2, show Value.bool r ≠ Value.notImplemented ∧ Q (.bool r) s from ⟨(fun x => nomatch x), h⟩⟩ hu
/-- the same of the readings' values -/
inductive LexR : List V → List V → Bool → Prop
  | nil : LexR [] [] false
  | ne {a c : Int} {vs ws : List V} (h : a ≠ c) : LexR (.int a :: vs) (.int c :: ws) (decide (a < c))
  | eq {a : Int} {vs ws : List V} {r : Bool} (h : LexR vs ws r) : LexR (.int a :: vs) (.int a :: ws) r
theorem LexR.vals {vs ws : List V} {r : Bool} (h : LexR vs ws r) : ∀ {us us' : List Value}, Vals vs us → Vals ws us' → LexV us us' r := by
  induction h with
  | nil => intro us us' r1 r2; cases r1; cases r2; exact .nil
  | ne h =>
    intro us us' r1 r2
    cases r1 with
    | cons q1 _ =>
      cases r2 with
      | cons q2 _ =>
        obtain ⟨t, rfl⟩ := q1
        obtain ⟨u, rfl⟩ := q2
        exact .ne h
  | eq _ ih =>
    intro us us' r1 r2
    cases r1 with
    | cons q1 t1 =>
      cases r2 with
      | cons q2 t2 =>
        obtain ⟨t, rfl⟩ := q1
        obtain ⟨u, rfl⟩ := q2
        exact .eq (ih t1 t2)
end L2
/-! rows -/
namespace RM
open PySem L2
/-- a row's by, as a value: None where it is below nought -/
def byV (b : Int) : V := if b < 0 then .non else .int b
abbrev rowV (r : Row) : List V := [.int r.hd, .int r.co, .int r.ho, byV r.by_]
theorem byV_non {b : Int} (h : b < 0) : byV b = .non := if_pos h
theorem byV_int {b : Int} (h : 0 ≤ b) : byV b = .int b := if_neg (by omega)
/-- two rows are told apart by their ints, or have both a by -/
theorem rowLex {r s : Row} (h : r.hd ≠ s.hd ∨ r.co ≠ s.co ∨ r.ho ≠ s.ho ∨ (0 ≤ r.by_ ∧ 0 ≤ s.by_)) : LexR (rowV r) (rowV s) (decide (lt r s)) := by
  obtain ⟨r1, r2, r3, r4⟩ := r
  obtain ⟨s1, s2, s3, s4⟩ := s
  dsimp only at h
  have fin : ∀ {b b' : Bool} {vs ws}, LexR vs ws b → b = b' → LexR vs ws b' := fun h e => e ▸ h
  by_cases h1 : r1 = s1
  · subst h1
    by_cases h2 : r2 = s2
    · subst h2
      by_cases h3 : r3 = s3
      · subst h3
        obtain ⟨b1, b2⟩ : 0 ≤ r4 ∧ 0 ≤ s4 := by
          rcases h with h | h | h | h
          · exact absurd rfl h
          · exact absurd rfl h
          · exact absurd rfl h
          · exact h
        show LexR [.int r1, .int r2, .int r3, byV r4] [.int r1, .int r2, .int r3, byV s4] _
        rw [byV_int b1, byV_int b2]
        by_cases h4 : r4 = s4
        · subst h4
          exact fin (.eq (.eq (.eq (.eq .nil)))) (decide_eq_false (lt_irrefl _)).symm
        · exact fin (.eq (.eq (.eq (.ne h4)))) (by unfold lt; simp)
      · exact fin (.eq (.eq (.ne h3))) (by unfold lt; simp [h3])
    · exact fin (.eq (.ne h2)) (by unfold lt; simp [h2])
  · exact fin (.ne h1) (by unfold lt; simp [h1])
end RM

set_option Elab.async false
set_option linter.all false
set_option maxRecDepth 100000
/-! EXTENSION 9: min of rows: of two, of a list -/
namespace L2
open PySem PySem.Spec PyProof.Rows
theorem best_le (bt : Nat → Nat → Bool) : ∀ k, argBest bt k ≤ k
  | 0 => Nat.le_refl _
  | k + 1 => by
    show (if bt (k + 1) (argBest bt k) then k + 1 else argBest bt k) ≤ k + 1
    split
    · exact Nat.le_refl _
    · exact Nat.le_succ_of_le (best_le bt k)
def Pinned (ps : List (Addr × Obj)) (h : Heap) : Prop := ∀ p ∈ ps, h.get? p.1 = some p.2
section
variable {prog : Program} {w : World} {A : Around} {R : Result → Shared → Prop} {I : Addr} {fp wr : List Addr} {n : Nat} {P : Nat → Value → Prop} {St : Nat → Heap → Prop} {ps : List (Addr × Obj)}
/-- how two of them compare, as long as what is pinned stands -/
def CmpPin (prog : Program) (w : World) (A : Around) (ps : List (Addr × Obj)) (P : Nat → Value → Prop) (bt : Nat → Nat → Bool) : Prop :=
  ∀ i j vi vj (s : Shared) (Q E : Value → Shared → Prop), j < i → Pinned ps s.heap → P i vi → P j vj → Q (.bool (bt i j)) s → wpAny (model prog w) A (richCompare .Lt vi vj) Q E s
theorem minP_loop (W : Walks prog w A.in1 I fp wr n P St) (bt : Nat → Nat → Bool) (cmp : CmpPin prog w A.in1 ps P bt) (S : Addr) (nS : S ∉ fp) (np : ∀ p ∈ ps, p.1 ∉ wr ∧ p.1 ≠ S) : ∀ (k j : Nat) (s : Shared) (b0 : Value) (c : Nat), k = n - (j + 1) → j < n → St (j + 1) s.heap →
    P (argBest bt j) b0 → Pinned ps s.heap → s.heap.get? S = some { cls := .type "list", dict := none, data := .seq #[b0, b0] c, slots := #[] } →
    (∀ v h' tk, P (argBest bt (n - 1)) v → (∀ b o, b ≠ S → b ∉ wr → s.heap.get? b = some o → h'.get? b = some o) → R (.ok (.ret v)) { s with heap := h', toks := tk }) → codeAny (model prog w) A (.builtin "min.loop" ⟨[.ref I, .none, .ref S], []⟩) R s := by
  have nW : S ∉ wr := fun z => nS (W.sub _ z)
  have nm : "min.loop" = (toString "min" ++ toString ".loop" : String) := by decide
  intro k
  induction k with
  | zero =>
    intro j s b0 c e lt st hb pin hS out
    obtain rfl : n = j + 1 := by omega
    refine codeAny_builtin F.entry_min_loop (by
      rw [Around.under_plainId F.plain_min_loop _]
      refine (show wpAny (model prog w) A.in1 (seqItems? (.ref S) >>= _) _ _ s from wpAny_bind (wpAny_seqItems hS rfl ?_))
      refine (show wpAny (model prog w) A.in1 (tryCatch (pyNext (.ref I)) _ >>= _) _ _ s from wpAny_bind (wpAny_tryCatch (W.done s _ _ st fun h1 tk kp => ?_)))
      refine (show wpAny (model prog w) A.in1 (updateSeq S (fun _ => #[]) >>= _) _ _ _ from wpAny_bind (wpAny_updateSeq (kp S _ nW hS) rfl (wpAny_bind (wpAny_letGo (wpAny_pure ?_)))))
      exact out b0 _ tk hb fun b o q1 q2 q3 => (Heap.get?_update_other _ _ (Ne.symm q1)).trans (kp b o q2 q3))
  | succ k ih =>
    intro j s b0 c e lt st hb pin hS out
    have lt2 : j + 1 < n := by omega
    refine codeAny_builtin F.entry_min_loop (by
      rw [Around.under_plainId F.plain_min_loop _]
      refine (show wpAny (model prog w) A.in1 (seqItems? (.ref S) >>= _) _ _ s from wpAny_bind (wpAny_seqItems hS rfl ?_))
      refine (show wpAny (model prog w) A.in1 (tryCatch (pyNext (.ref I)) _ >>= _) _ _ s from wpAny_bind (wpAny_tryCatch (W.item (j + 1) s _ _ lt2 st fun v h1 tk hv st1 kp => ?_)))
      have pin1 : Pinned ps h1 := fun p hp => kp _ _ (np p hp).1 (pin p hp)
      have hS1 := kp S _ nW hS
      refine (show wpAny (model prog w) A.in1 (tryCatch (holding [v, v] (richCompare .Lt v b0 >>= _)) _ >>= _) _ _ _ from wpAny_bind (wpAny_tryCatch (wpAny_holding (wpAny_bind (cmp (j + 1) (argBest bt j) v b0 _ _ _ (Nat.lt_succ_of_le (best_le bt j)) pin1 hv hb ?_)))))
      refine wpAny_bind (wpAny_holding (wpAny_truthy_bool (wpAny_bind (wpAny_letGo (wpAny_pure ?_)))))
      by_cases hc : bt (j + 1) (argBest bt j) = true
      · rw [hc]
        simp only [if_true]
        refine wpAny_bind (wpAny_updateSeq hS1 rfl (wpAny_bind (wpAny_letGo ?_)))
        rw [← nm]
        refine wpAny_pure ⟨plainId_quiet F.plain_min_loop _, ih (j + 1) _ v _ (by omega) lt2 (W.frame _ _ _ st1 fun b q o z => ?_) (by simp only [argBest, hc, if_true]; exact hv) (fun p hp => ?_) (Heap.get?_update_self _ hS1 rfl) fun v2 h2 tk2 q0 q => ?_⟩
        · exact (Heap.get?_update_other _ _ (fun y : S = b => nS (y ▸ q))).trans z
        · exact (Heap.get?_update_other _ _ (Ne.symm (np p hp).2)).trans (pin1 p hp)
        · exact out v2 h2 tk2 q0 fun b o q1 q2 q3 => q b o q1 q2 ((Heap.get?_update_other _ _ (Ne.symm q1)).trans (kp b o q2 q3))
      · rw [Bool.eq_false_iff.mpr hc]
        simp only [Bool.false_eq_true, if_false]
        refine wpAny_bind (wpAny_letGo ?_)
        rw [← nm]
        refine wpAny_pure ⟨plainId_quiet F.plain_min_loop _, ih (j + 1) _ b0 c (by omega) lt2 st1 (by simp only [argBest, hc, Bool.false_eq_true, if_false]; exact hb) pin1 hS1 fun v2 h2 tk2 q0 q => ?_⟩
        exact out v2 h2 tk2 q0 fun b o q1 q2 q3 => q b o q1 q2 (kp b o q2 q3))
theorem minP_first (W : Walks prog w A.in1 I fp wr n P St) (bt : Nat → Nat → Bool) (cmp : CmpPin prog w A.in1 ps P bt) (S : Addr) (nS : S ∉ fp) (np : ∀ p ∈ ps, p.1 ∉ wr ∧ p.1 ≠ S) (hn : 0 < n) {s : Shared} {c : Nat} (st : St 0 s.heap) (pin : Pinned ps s.heap)
    (hS : s.heap.get? S = some { cls := .type "list", dict := none, data := .seq #[] c, slots := #[] }) (out : ∀ v h' tk, P (argBest bt (n - 1)) v → (∀ b o, b ≠ S → b ∉ wr → s.heap.get? b = some o → h'.get? b = some o) → R (.ok (.ret v)) { s with heap := h', toks := tk }) :
    codeAny (model prog w) A (.builtin "min.loop" ⟨[.ref I, .none, .ref S], []⟩) R s := by
  have nW : S ∉ wr := fun z => nS (W.sub _ z)
  have nm : "min.loop" = (toString "min" ++ toString ".loop" : String) := by decide
  refine codeAny_builtin F.entry_min_loop (by
    rw [Around.under_plainId F.plain_min_loop _]
    refine (show wpAny (model prog w) A.in1 (seqItems? (.ref S) >>= _) _ _ s from wpAny_bind (wpAny_seqItems hS rfl ?_))
    refine (show wpAny (model prog w) A.in1 (tryCatch (pyNext (.ref I)) _ >>= _) _ _ s from wpAny_bind (wpAny_tryCatch (W.item 0 s _ _ hn st fun v h1 tk hv st1 kp => ?_)))
    have pin1 : Pinned ps h1 := fun p hp => kp _ _ (np p hp).1 (pin p hp)
    have hS1 := kp S _ nW hS
    refine (show wpAny (model prog w) A.in1 (updateSeq S (fun _ => #[v, v]) >>= _) _ _ _ from wpAny_bind (wpAny_updateSeq hS1 rfl ?_))
    rw [← nm]
    refine wpAny_pure ⟨plainId_quiet F.plain_min_loop _, minP_loop W bt cmp S nS np _ 0 _ v _ rfl hn (W.frame _ _ _ st1 fun b q o z => ?_) hv (fun p hp => ?_) (Heap.get?_update_self _ hS1 rfl) fun v2 h2 tk2 q0 q => ?_⟩
    · exact (Heap.get?_update_other _ _ (fun y : S = b => nS (y ▸ q))).trans z
    · exact (Heap.get?_update_other _ _ (Ne.symm (np p hp).2)).trans (pin1 p hp)
    · exact out v2 h2 tk2 q0 fun b o q1 q2 q3 => q b o q1 q2 ((Heap.get?_update_other _ _ (Ne.symm q1)).trans (kp b o q2 q3)))
end
section
variable {prog : Program} {w : World} {A : Around} {E : Value → Shared → Prop} {s : Shared} {ps : List (Addr × Obj)}
/-- min(x, y) -/
theorem minP_two {x y : Value} {Q : Value → Shared → Prop} (h : wpAny (model prog w) A.in1 (pyIter (.ref s.heap.objs.size)) (fun it s2 => ∃ I fp wr n P St bt, it = .ref I ∧ Walks prog w A.in1 I fp wr n P St ∧ St 0 s2.heap ∧ (∀ b ∈ fp, b < s2.heap.objs.size) ∧ 0 < n ∧ CmpPin prog w A.in1 ps P bt ∧
      Pinned ps s2.heap ∧ (∀ p ∈ ps, p.1 ∉ wr) ∧ ∀ v h' tk, P (argBest bt (n - 1)) v → (∀ b o, b ∉ wr → s2.heap.get? b = some o → h'.get? b = some o) → Q v { s2 with heap := h', toks := tk }) E { s with heap := s.heap.push { cls := .type "tuple", data := .seq #[x, y] } }) :
    wpAny (model prog w) A (call (.builtin "min") [x, y]) Q E s := by
  have nm : "min.loop" = (toString "min" ++ toString ".loop" : String) := by decide
  have ep : Builtin.Builtins.bindParams "min" ["key", "default"] 0 ⟨[], []⟩ = pure [none, none] := rfl
  refine call_function_tree F.kind_min F.plain_min F.entry_min (F.args_min2 _ _) (show wpAny _ A.in1 (Builtin.Builtins.bindParams "min" ["key", "default"] 0 ⟨[], []⟩ >>= _) _ _ s from wpAny_bind (wpAny_of_eq ep ?_))
  refine (show wpAny _ A.in1 (newTuple [x, y] >>= _) _ _ s from wpAny_bind (wpAny_newObj_type (wpAny_bind (wpAny_mono h (fun it s2 q => ?_) fun _ _ z => z))))
  obtain ⟨I, fp, wr, n, P, St, bt, rfl, W, st, hfp, hn, cmp, pin, np, out⟩ := q
  have nS : s2.heap.objs.size ∉ fp := fun z => absurd (hfp _ z) (Nat.lt_irrefl _)
  refine wpAny_bind (wpAny_newObj_type ?_)
  rw [← nm]
  refine wpAny_pure ⟨plainId_quiet F.plain_min_loop _, minP_first W bt cmp s2.heap.objs.size nS (fun p hp => ⟨np p hp, Nat.ne_of_lt (Heap.lt_size (pin p hp))⟩) hn (W.frame _ _ _ st fun b _ o z => Heap.get?_push_of_some _ z) (fun p hp => Heap.get?_push_of_some _ (pin p hp)) (Heap.get?_push_size _ rfl) fun v h' tk hP kp => ?_⟩
  exact out v h' tk hP fun b o q1 q2 => kp b o (Nat.ne_of_lt (Heap.lt_size q2)) q1 (Heap.get?_push_of_some _ q2)
end
end L2

set_option Elab.async false
set_option linter.all false
set_option maxRecDepth 100000
namespace L2
open PySem PySem.Spec PyProof.Rows RM
section
variable {X : Cx}
theorem pairP {a b : Addr} {i : Nat} {v : Value} (h : (#[Value.ref a, Value.ref b] : Array Value)[i]? = some v) : (i = 0 ∧ v = .ref a) ∨ (i = 1 ∧ v = .ref b) := by
  match i, h with
  | 0, h => exact .inl ⟨rfl, by simpa using h.symm⟩
  | 1, h => exact .inr ⟨rfl, by simpa using h.symm⟩
  | i + 2, h => simp at h
/-- min(t, u) of tuples that ints tell apart -/
theorem call_minR2 (hc : X.calm = true) (hu : X.A.in1.units < cLine) : CallR X (.builtin "min") (fun xs H Q => ∃ a b us vs r, xs = [.ref a, .ref b] ∧ SqT X.K H a us ∧ SqT X.K H b vs ∧ us.length = vs.length ∧ LexR vs us r ∧ Q (if r then .ref b else .ref a) H) := by
  intro pins s σ H xs us Q I r h
  obtain ⟨a, b, us, vs, t, rfl, ha, hb, hl, hx, q⟩ := h
  obtain ⟨u, w', rfl, ru, rw'⟩ := Vals.two r
  cases ru
  cases rw'
  obtain ⟨ia, ra, pa, _⟩ := I.tuple ha
  obtain ⟨ib, rb, pb, _⟩ := I.tuple hb
  obtain ⟨oa, ea, ca⟩ := id pa
  obtain ⟨ob, eb, cb⟩ := id pb
  have lex := hx.vals rb ra
  have lsz : ib.toArray.size = ia.toArray.size := by rw [List.size_toArray, List.size_toArray, ← ra.length, ← rb.length]; exact hl.symm
  have la := Heap.lt_size ea
  have lb := Heap.lt_size eb
  have hT : (s.heap.push { cls := .type "tuple", data := .seq #[.ref a, .ref b] }).IsTuple s.heap.objs.size #[.ref a, .ref b] := ⟨_, Heap.get?_push_size _ rfl, rfl, 0, rfl⟩
  have sz1 : (s.heap.push { cls := .type "tuple", data := .seq #[.ref a, .ref b] }).objs.size = s.heap.objs.size + 1 := Heap.size_push ..
  refine minP_two (ps := [(a, oa), (b, ob)]) (wpAny_pyIter_tuple hT ?_)
  refine ⟨_, [_, s.heap.objs.size], [_], _, _, _, fun _ _ => t, rfl, Walks.tuple (A := X.A.in1) (I.ok.hd hc) _ s.heap.objs.size (by rw [sz1]; exact Nat.ne_of_lt (Nat.lt_succ_self _)) #[.ref a, .ref b], ⟨⟨_, Heap.get?_push_size _ rfl, rfl, rfl⟩, hT.push _⟩, fun c hm => ?_, (by show 0 < 2; decide), ?_, ?_, ?_, fun v h' tk hP hk => ?_⟩
  · show c < ((s.heap.push _).push _).objs.size
    rw [Heap.size_push, sz1]
    simp only [List.mem_cons, List.not_mem_nil, or_false] at hm
    rcases hm with rfl | rfl
    · rw [sz1]; exact Nat.lt_succ_self _
    · exact Nat.lt_succ_of_lt (Nat.lt_succ_self _)
  · intro i j vi vj s1 Q1 E1 hij pin hi hj q1
    have hi' := pairP hi
    have hj' := pairP hj
    obtain ⟨rfl, rfl⟩ : i = 1 ∧ vi = .ref b := by
      rcases hi' with ⟨z, _⟩ | z
      · omega
      · exact z
    obtain ⟨rfl, rfl⟩ : j = 0 ∧ vj = .ref a := by
      rcases hj' with z | ⟨z, _⟩
      · exact z
      · omega
    have p1 : IsTup s1.heap b ib.toArray := ⟨ob, pin (b, ob) (by simp), cb⟩
    have p2 : IsTup s1.heap a ia.toArray := ⟨oa, pin (a, oa) (by simp), ca⟩
    exact (lt_tupV p1 p2 lex lsz hu q1 : wpAny _ _ (compareOp .Lt (.ref b) (.ref a)) _ _ _)
  · intro p hp
    simp only [List.mem_cons, List.not_mem_nil, or_false] at hp
    rcases hp with rfl | rfl
    · exact Heap.get?_push_of_some _ (Heap.get?_push_of_some _ ea)
    · exact Heap.get?_push_of_some _ (Heap.get?_push_of_some _ eb)
  · intro p hp z
    simp only [List.mem_cons, List.not_mem_nil, or_false] at hp z
    rw [sz1] at z
    rcases hp with rfl | rfl
    · have e : a = s.heap.objs.size + 1 := z
      exact absurd la (by rw [e]; exact Nat.not_lt_of_lt (Nat.lt_succ_self _))
    · have e : b = s.heap.objs.size + 1 := z
      exact absurd lb (by rw [e]; exact Nat.not_lt_of_lt (Nat.lt_succ_self _))
  · have hold : ∀ c o, s.heap.get? c = some o → h'.get? c = some o := fun c o e => by
      refine hk c o (fun z => ?_) (Heap.get?_push_of_some _ (Heap.get?_push_of_some _ e))
      have lc := Heap.lt_size e
      simp only [List.mem_cons, List.not_mem_nil, or_false] at z
      rw [sz1] at z
      exact absurd lc (by rw [z]; exact Nat.not_lt_of_lt (Nat.lt_succ_self _))
    cases t with
    | true =>
      have hv : v = .ref b := by
        rcases pairP hP with ⟨z, _⟩ | z
        · exact absurd z (show ¬ argBest (fun _ _ => true) 1 = 0 by decide)
        · exact z.2
      subst hv
      exact ⟨.ref b, H, I.kept hold, rfl, by simpa using q⟩
    | false =>
      have hv : v = .ref a := by
        rcases pairP hP with z | ⟨z, _⟩
        · exact z.2
        · exact absurd z (show ¬ argBest (fun _ _ => false) 1 = 1 by decide)
      subst hv
      exact ⟨.ref a, H, I.kept hold, rfl, by simpa using q⟩
end
end L2

set_option Elab.async false
set_option linter.all false
set_option maxRecDepth 100000
/-! EXTENSION 10: == of data within comprehensions; rows as data -/
namespace L2
open PySem PySem.Spec PyProof.Rows
end L2
namespace RM
open PySem L2
/-- a row as data -/
def byD (b : Int) : PyData := if b < 0 then .none else .int b
def rowD (r : Row) : PyData := .tuple [.int r.hd, .int r.co, .int r.ho, byD r.by_]
theorem byD_rep {K : PySem.W.Frag} {H : Hp} (b : Int) : Rep K H (byD b) (byV b) := by
  unfold byD byV
  by_cases h : b < 0
  · rw [if_pos h, if_pos h]; rfl
  · rw [if_neg h, if_neg h]; rfl
theorem rowD_rep {K : PySem.W.Frag} {H : Hp} {p : Addr} {r : Row} (h : SqT K H p (rowV r)) : Rep K H (rowD r) (.ref p) :=
  ⟨p, _, rfl, h, _, _, rfl, rfl, _, _, rfl, rfl, _, _, rfl, rfl, _, _, rfl, byD_rep _, rfl⟩
theorem rowD_lay (r : Row) : (rowD r).canLay0 = true := by
  show (true && (true && (true && ((byD r.by_).canLay0 && true)))) = true
  unfold byD
  split <;> rfl
theorem rowD_deep (r : Row) : (rowD r).depth = 1 := by
  show max 0 (max 0 (max 0 (max (byD r.by_).depth 0))) + 1 = 1
  unfold byD
  split <;> rfl
theorem rowD_eqv {r s : Row} (hr : -1 ≤ r.by_) (hs : -1 ≤ s.by_) : PyData.eqv (rowD r) (rowD s) = decide (r = s) := by
  have e : PyData.eqv (rowD r) (rowD s) = ((r.hd == s.hd) && ((r.co == s.co) && ((r.ho == s.ho) && (PyData.eqv (byD r.by_) (byD s.by_) && true)))) := rfl
  rw [e]
  have eb : PyData.eqv (byD r.by_) (byD s.by_) = decide (r.by_ = s.by_) := by
    unfold byD
    by_cases h1 : r.by_ < 0 <;> by_cases h2 : s.by_ < 0
    · rw [if_pos h1, if_pos h2]
      exact (decide_eq_true (by omega)).symm
    · rw [if_pos h1, if_neg h2]
      exact (decide_eq_false (by omega)).symm
    · rw [if_neg h1, if_pos h2]
      exact (decide_eq_false (by omega)).symm
    · rw [if_neg h1, if_neg h2]
      show (r.by_ == s.by_) = _
      by_cases h3 : r.by_ = s.by_
      · rw [decide_eq_true h3, h3]; exact beq_self_eq_true _
      · rw [decide_eq_false h3]; exact beq_eq_false_iff_ne.mpr h3
  rw [eb]
  by_cases h : r = s
  · subst h
    simp
  · rw [decide_eq_false h]
    have : ¬ (r.hd = s.hd ∧ r.co = s.co ∧ r.ho = s.ho ∧ r.by_ = s.by_) := fun z => h (Row.ext' z.1 z.2.1 z.2.2.1 z.2.2.2)
    simp only [Bool.and_true]
    by_cases h1 : r.hd = s.hd
    · by_cases h2 : r.co = s.co
      · by_cases h3 : r.ho = s.ho
        · have h4 : ¬ r.by_ = s.by_ := fun z => this ⟨h1, h2, h3, z⟩
          simp [h4]
        · simp [h3]
      · simp [h2]
    · simp [h1]
/-- rows as data -/
def rowsD (n : Nat) (R : Nat → Row) : PyData := .list ((List.range n).map fun i => rowD (R i))
theorem rowsAll_rep {K : PySem.W.Frag} {H : Hp} : ∀ {ps : List Addr} {rs : List Row}, ps.length = rs.length → (∀ (i : Nat) p r, ps[i]? = some p → rs[i]? = some r → SqT K H p (rowV r)) → RepAll K H (rs.map rowD) (ps.map V.ref)
  | [], [], _, _ => rfl
  | p :: ps, r :: rs, e, h => ⟨_, _, rfl, rowD_rep (h 0 p r rfl rfl), rowsAll_rep (by simpa using e) fun i p' r' a b => h (i + 1) p' r' a b⟩
  | [], _ :: _, e, _ => by simp at e
  | _ :: _, [], e, _ => by simp at e
theorem rowsD_lay (n : Nat) (R : Nat → Row) : (rowsD n R).canLay0 = true := by
  show PyData.canLayAll0 ((List.range n).map fun i => rowD (R i)) = true
  induction (List.range n) with
  | nil => rfl
  | cons x xs ih =>
    show ((rowD (R x)).canLay0 && PyData.canLayAll0 (xs.map fun i => rowD (R i))) = true
    rw [rowD_lay, ih]; rfl
theorem rowsD_deep (n : Nat) (R : Nat → Row) : (rowsD n R).depth ≤ 2 := by
  show PyData.depthAll ((List.range n).map fun i => rowD (R i)) + 1 ≤ 2
  have : PyData.depthAll ((List.range n).map fun i => rowD (R i)) ≤ 1 := by
    induction (List.range n) with
    | nil => exact (by decide : (0 : Nat) ≤ 1)
    | cons x xs ih =>
      show max (rowD (R x)).depth (PyData.depthAll (xs.map fun i => rowD (R i))) ≤ 1
      rw [rowD_deep]
      omega
  omega
end RM

set_option Elab.async false
set_option linter.all false
set_option maxRecDepth 100000
/-! EXTENSION 11: zip of two lists -/
namespace L2
open PySem PySem.Spec PyProof.Rows
section
variable {X : Cx}
/-- a pair of the items, a new tuple at each turn -/
def Itz (K : PySem.W.Frag) (a b : Addr) : It :=
  ⟨fun i H => ∃ xs ys x y, SqL K H a xs ∧ SqL K H b ys ∧ xs[i]? = some x ∧ ys[i]? = some y,
   fun i H v H' => ∃ p x y, H p = none ∧ v = .ref p ∧ H' = upd H p (.tup [x, y]) ∧ (∀ xs, SqL K H a xs → xs[i]? = some x) ∧ ∀ ys, SqL K H b ys → ys[i]? = some y,
   fun i H => ∃ xs ys, SqL K H a xs ∧ SqL K H b ys ∧ (xs.length ≤ i ∨ ys.length ≤ i)⟩
theorem turn_zip {P : Program} {w : World} {K : PySem.W.Frag} {elts : List Expr} {x1} {pos : Pos} (a b z TI TO i1 i2 : Addr) (D : ZipApart z TI TO i1 i2 a b) :
    Turn P w K (.Tuple elts x1 pos) (Itz K a b) [z, TI, TO, i1, i2] z (fun i h => IsZip h z TI TO .none ∧ IsPair h TI (.ref i1) (.ref i2) ∧ (∃ u v, IsPair h TO u v) ∧ h.IsListIter i1 a i ∧ h.IsListIter i2 b i) where
  mem := by simp
  obj := fun i h ⟨h1, h2, ⟨u, v, h3⟩, h4, h5⟩ c hc => by
    simp only [List.mem_cons, List.not_mem_nil, or_false] at hc
    rcases hc with rfl | rfl | rfl | rfl | rfl
    · exact ⟨_, h1, fun v q => by
        have q' : Data.fields _ = Data.cell v := q
        cases q'⟩
    · exact ⟨_, h2, fun v q => by
        have q' : Data.seq _ _ = Data.cell v := q
        cases q'⟩
    · exact ⟨_, h3, fun v q => by
        have q' : Data.seq _ _ = Data.cell v := q
        cases q'⟩
    · obtain ⟨o, e, c, d⟩ := h4
      exact ⟨o, e, fun v q => by rw [d] at q; cases q⟩
    · obtain ⟨o, e, c, d⟩ := h5
      exact ⟨o, e, fun v q => by rw [d] at q; cases q⟩
  keep := fun i h h' ⟨h1, h2, ⟨u, v, h3⟩, h4, h5⟩ k => ⟨k z (by simp) _ h1, k TI (by simp) _ h2, ⟨u, v, k TO (by simp) _ h3⟩, h4.at fun o q => k i1 (by simp) o q, h5.at fun o q => k i2 (by simp) o q⟩
  item := by
    intro X hP hw hK hc i pins s σ H E I hf ⟨h1, h2, ⟨u0, v0, h3⟩, h4, h5⟩ hg
    subst hP hw hK
    obtain ⟨xs, ys, x, y, hqa, hqb, hx, hy⟩ := hg
    obtain ⟨its, rv, p1, _⟩ := I.list hqa
    obtain ⟨itt, rw', p2, _⟩ := I.list hqb
    obtain ⟨u, hu, ru⟩ := rv.get hx
    obtain ⟨v, hv, rv'⟩ := rw'.get hy
    refine wpAny_pyNext_zip_item D h1 h2 h3 h4 h5 p1.isList p2.isList (x := u) (y := v) (by simpa using hu) (by simpa using hv) fun h' eo to' li1 li2 tu sz kp => ?_
    refine ⟨_, rfl, wpAny_letOwnedTupleGo_zip eo fun hh e2 sb2 => ?_⟩
    have hfr : H s.heap.objs.size = none := I.hok.fresh (Nat.le_refl _)
    have old : ∀ c ∈ [z, TI, TO, i1, i2], c < s.heap.objs.size := fun c hc => by
      simp only [List.mem_cons, List.not_mem_nil, or_false] at hc
      rcases hc with rfl | rfl | rfl | rfl | rfl
      · exact Heap.lt_size h1
      · exact Heap.lt_size h2
      · exact Heap.lt_size h3
      · obtain ⟨o, e, _⟩ := h4; exact Heap.lt_size e
      · obtain ⟨o, e, _⟩ := h5; exact Heap.lt_size e
    have nH : ∀ c ∈ [z, TI, TO, i1, i2], ∀ b o, H b = some o → b ≠ c := fun c hc b o q e => by rw [e, (hf c hc).1] at q; cases q
    have kp2 : ∀ b o, b ∉ [z, TO, i1, i2] → s.heap.get? b = some o → hh.get? b = some o := fun b o hb q => by
      simp only [List.mem_cons, List.not_mem_nil, or_false, not_or] at hb
      exact (sb2.2 b hb.1).trans (kp b o hb.1 hb.2.1 hb.2.2.1 hb.2.2.2 q)
    have sub : ∀ c ∈ [z, TO, i1, i2], c ∈ [z, TI, TO, i1, i2] := fun c hc => by
      simp only [List.mem_cons, List.not_mem_nil, or_false] at hc ⊢
      rcases hc with q | q | q | q <;> simp [q]
    have kH : ∀ b o u, H b = some o → s.heap.get? b = some u → hh.get? b = some u := fun b o u q r => kp2 b u (fun m => nH b (sub b m) b o q rfl) r
    have tu2 : hh.get? s.heap.objs.size = some { cls := .type "tuple", data := .seq #[u, v] } := (sb2.2 _ (Nat.ne_of_gt (Heap.lt_size h1))).trans tu
    have fre : ∀ c ∈ [z, TI, TO, i1, i2], upd H s.heap.objs.size (.tup [x, y]) c = none := fun c hc => by
      rw [upd_ne (Nat.ne_of_lt (old c hc))]
      exact (hf c hc).1
    have I1 : Inv X pins σ (upd H s.heap.objs.size (.tup [x, y])) { s with heap := hh, toks := s.toks } := by
      refine I.step (g' := s.gens) (d' := s.drawn) (ch := [z, TO, i1, i2]) (fun b hb => ?_) (fun b o _ _ hc q _ => kp2 b o hc q) (fun b o _ _ hc q _ => ⟨o.slots, kp2 b o hc q⟩)
        (fun b o _ q n => by rw [upd_ne (Nat.ne_of_lt (Heap.lt_size q))]; exact n) (fun b o hc q => ⟨o, kp2 b o hc q⟩) (fun b xs q => by rw [upd_ne (ne_of_none q hfr)]; exact q) (fun b o u q => by rw [upd_ne (ne_of_none q hfr)]; exact q)
        (fun b ps q => ⟨#[], by rw [upd_ne (ne_of_none q hfr), q]; simp⟩) (fun m hm => ?_) (fun b o q => ?_) I.bare
      · obtain ⟨_, f1, _, f3, f4, f5⟩ := hf b (sub b hb)
        exact ⟨f3, f1, f4, f5⟩
      · obtain ⟨o, es, ep, ho, r⟩ := hm
        refine ⟨o, es, ep, kp2 _ o (fun q => ?_) ho, r⟩
        exact (hf _ (sub _ q)).2.1 rfl
      · by_cases hb : b = s.heap.objs.size
        · subst hb
          rw [upd_same] at q
          cases q
          exact ⟨by show 2 ≤ sizeLine; decide, [u, v], .cons ru (.cons rv' .nil), ⟨_, tu2, rfl, _, rfl⟩⟩
        · rw [upd_ne hb] at q
          refine (I.hok b o q).stay (fun c u' hc r => ?_) (fun c r => by rw [upd_ne (ne_of_none r hfr)]; exact r) fun c xs r => by rw [upd_ne (ne_of_none r hfr)]; exact r
          rcases hc with e | e
          · rw [e] at r ⊢; exact kH b o u' q r
          · exact kH c _ u' e r
    refine ⟨.ref s.heap.objs.size, _, I1, rfl, ⟨_, x, y, hfr, rfl, rfl, fun zs q => by rw [I.list_inj q hqa]; exact hx, fun zs q => by rw [I.list_inj q hqb]; exact hy⟩, ⟨e2, ?_, ⟨u, v, ?_⟩, ?_, ?_⟩, fre⟩
    · exact kp2 TI _ (by
        simp only [List.mem_cons, List.not_mem_nil, or_false, not_or]
        exact ⟨D.TIz, D.TITO, D.TIi1, D.TIi2⟩) h2
    · exact (sb2.2 TO D.TOz).trans to'
    · exact li1.at fun o q => (sb2.2 i1 D.i1z).trans q
    · exact li2.at fun o q => (sb2.2 i2 D.i2z).trans q
  done := by
    intro X hP hw hK hc i pins s σ H E I hf ⟨h1, h2, ⟨u0, v0, h3⟩, h4, h5⟩ hg
    subst hP hw hK
    obtain ⟨xs, ys, hqa, hqb, hx⟩ := hg
    obtain ⟨its, rv, p1, _⟩ := I.list hqa
    obtain ⟨itt, rw', p2, _⟩ := I.list hqb
    have l1 := rv.length
    have l2 := rw'.length
    refine wpAny_pyNext_zip_end (I.ok.hd hc) D h1 h2 h3 h4 h5 p1.isList p2.isList ?_ fun h' kp => ⟨rfl, ?_⟩
    · rcases hx with q | q
      · refine .inl ?_
        rw [List.getElem?_toArray, List.getElem?_eq_none (by omega)]
      · refine .inr ?_
        rw [List.getElem?_toArray, List.getElem?_eq_none (by omega)]
    · have sub : ∀ c ∈ [z, TO, i1, i2], c ∈ [z, TI, TO, i1, i2] := fun c hc => by
        simp only [List.mem_cons, List.not_mem_nil, or_false] at hc ⊢
        rcases hc with q | q | q | q <;> simp [q]
      have kp2 : ∀ b o, b ∉ [z, TO, i1, i2] → s.heap.get? b = some o → h'.get? b = some o := fun b o hb q => by
        simp only [List.mem_cons, List.not_mem_nil, or_false, not_or] at hb
        exact kp b o hb.1 hb.2.1 hb.2.2.1 hb.2.2.2 q
      have kH : ∀ b o u, H b = some o → s.heap.get? b = some u → h'.get? b = some u := fun b o u q r => kp2 b u (fun m => by rw [(hf b (sub b m)).1] at q; cases q) r
      refine I.step (t' := s.toks) (g' := s.gens) (d' := s.drawn) (ch := [z, TO, i1, i2]) (fun b hb => ?_) (fun b o _ _ hc q _ => kp2 b o hc q) (fun b o _ _ hc q _ => ⟨o.slots, kp2 b o hc q⟩)
        (fun b o _ q n => n) (fun b o hc q => ⟨o, kp2 b o hc q⟩) (fun b xs q => q) (fun b o u q => q) (fun b ps q => ⟨#[], by rw [q]; simp⟩) (fun m hm => ?_) (fun b o q => ?_) I.bare
      · obtain ⟨_, f1, _, f3, f4, f5⟩ := hf b (sub b hb)
        exact ⟨f3, f1, f4, f5⟩
      · obtain ⟨o, es, ep, ho, r⟩ := hm
        refine ⟨o, es, ep, kp2 _ o (fun q => ?_) ho, r⟩
        exact (hf _ (sub _ q)).2.1 rfl
      · refine (I.hok b o q).stay (fun c u' hc r => ?_) (fun c r => r) fun c xs r => r
        rcases hc with e | e
        · rw [e] at r ⊢; exact kH b o u' q r
        · exact kH c _ u' e r
  self := fun _ _ _ _ _ ⟨h1, _⟩ h => wpAny_pyIter_zip h1 h
def iZip (K : PySem.W.Frag) (ta : TA) : TI := fun σ H R => ta σ H fun vs H1 => ∃ a b xs ys, vs = [.ref a, .ref b] ∧ SqL K H1 a xs ∧ SqL K H1 b ys ∧ R (Itz K a b) H1
theorem pi_zip {l m : Expr} {ta : TA} {p pos : Pos} {elts : List Expr} {x1} {tpos : Pos} (hg : Gl X "zip") (hm : X.mg "zip" = none) (ha : PA X [l, m] ta) (hs : starEach [l, m] X.env = (false, eval l X.env) :: starEach [m] X.env := by rfl) (hpl : (backTo pos (starEach [m] X.env)).any (·.1) = false := by rfl) :
    PI X (.Tuple elts x1 tpos) (.Call (.Name "zip" p) [l, m] [] pos) (iZip X.K ta) := by
  intro pins s σ H R I h
  refine Call_ (ld_blt I hg hm boot_zip (PyProof.Rows.callWith_type1 (thn (ha pos pins s σ H _ I h) fun us s1 ⟨vs, H1, I1, r1, q1⟩ => ?_) hs hpl))
  obtain ⟨a, b, xs, ys, e, hqa, hqb, q⟩ := q1
  subst e
  obtain ⟨u, w', rfl, ru, rw'⟩ := Vals.two r1
  cases ru
  cases rw'
  obtain ⟨its, rv, pl, hz⟩ := I1.list hqa
  obtain ⟨its2, rv2, pl2, hz2⟩ := I1.list hqb
  have la : a < s1.heap.objs.size := by obtain ⟨_, e, _⟩ := pl.isList; exact Heap.lt_size e
  have lb : b < s1.heap.objs.size := by obtain ⟨_, e, _⟩ := pl2.isList; exact Heap.lt_size e
  refine call_zip_2 pl.isList pl2.isList fun h' z1 z2 z3 z4 z5 sz kp => wpAny_pyIter_zip z1 ?_
  have I2 : Inv X pins σ H1 { s1 with heap := h', toks := s1.toks } := I1.kept kp
  have fr : ∀ c, s1.heap.objs.size ≤ c → FpOk X pins H1 c := fun c hc => I1.fpOk hc (I1.hok.fresh hc)
  refine ⟨s1.heap.objs.size + 4, [s1.heap.objs.size + 4, s1.heap.objs.size + 2, s1.heap.objs.size + 3, s1.heap.objs.size, s1.heap.objs.size + 1], _, _, H1, rfl, I2, turn_zip a b _ _ _ _ _ (zipApart_new la lb), ⟨z1, z2, ⟨_, _, z3⟩, z4, z5⟩, fun c hc => fr c ?_, q⟩
  simp only [List.mem_cons, List.not_mem_nil, or_false] at hc
  rcases hc with rfl | rfl | rfl | rfl | rfl
  · exact Nat.le_add_right _ _
  · exact Nat.le_add_right _ _
  · exact Nat.le_add_right _ _
  · exact Nat.le_refl _
  · exact Nat.le_add_right _ _
end
end L2

set_option Elab.async false
set_option linter.all false
set_option maxRecDepth 100000
/-! EXTENSION 12: max of a list of ints -/
namespace L2
open PySem PySem.Spec PyProof.Rows
end L2

set_option Elab.async false
set_option linter.all false
set_option maxRecDepth 100000
/-! EXTENSION 13: rows by their first three -/
namespace RM
open PySem L2
end RM
namespace L2
open PySem PySem.Spec PyProof.Rows
end L2
namespace L2
open PySem PySem.Spec PyProof.Rows
end L2

set_option Elab.async false
set_option linter.all false
set_option maxRecDepth 100000
/-! EXTENSION 14: for over zip(..) -/
namespace L2
open PySem PySem.Spec PyProof.Rows
theorem for_zip {K : PySem.W.Frag} {a b : Addr} {xs ys : List V} {n : Nat} {g : TG} {tb : TS} {D : Ends} {σ : St} {H : Hp} (Pv : Nat → St → Hp → Prop) (la : xs.length = n) (lb : ys.length = n) (h0 : Pv 0 σ H) (hl : ∀ i σ H, i ≤ n → Pv i σ H → SqL K H a xs ∧ SqL K H b ys)
    (hs : ∀ i x y σ H p, i < n → xs[i]? = some x → ys[i]? = some y → Pv i σ H → H p = none → g (.ref p) σ (upd H p (.tup [x, y])) fun σ2 H2 => tb { D with nx := Pv (i + 1), ct := Pv (i + 1), bk := D.nx } σ2 H2) (hd : ∀ σ H, Pv n σ H → D.nx σ H) :
    ∃ W : Nat → Nat → St → Hp → Prop, (∃ m, W 0 m σ H) ∧ ∀ i m σ H, W i m σ H →
      ((Itz K a b).stop i H ∧ D.nx σ H) ∨ ((Itz K a b).go i H ∧ ∃ N : St → Hp → Prop, (∀ σ' H', N σ' H' → ∃ m', m' < m ∧ W (i + 1) m' σ' H') ∧ ∀ x H', (Itz K a b).yld i H x H' → g x σ H' fun σ2 H2 => tb { D with nx := N, ct := N, bk := D.nx } σ2 H2) := by
  refine ⟨fun i m σ H => m = n - i ∧ i ≤ n ∧ Pv i σ H, ⟨n, by simp, Nat.zero_le _, h0⟩, ?_⟩
  rintro i m σ H ⟨rfl, hi, p⟩
  obtain ⟨q1, q2⟩ := hl i σ H hi p
  by_cases hlt : i < n
  · refine .inr ⟨⟨xs, ys, xs[i]'(by omega), ys[i]'(by omega), q1, q2, List.getElem?_eq_getElem _, List.getElem?_eq_getElem _⟩, Pv (i + 1), fun σ' H' p' => ⟨n - (i + 1), by omega, rfl, hlt, p'⟩, fun x H' y => ?_⟩
    obtain ⟨c, x1, y1, hc, rfl, rfl, hx, hy⟩ := y
    exact hs i x1 y1 σ H c hlt (hx xs q1) (hy ys q2) p hc
  · have e : i = n := by omega
    subst e
    exact .inl ⟨⟨xs, ys, q1, q2, .inl (by omega)⟩, hd σ H p⟩
end L2

set_option Elab.async false
set_option linter.all false
set_option maxRecDepth 100000
set_option maxHeartbeats 4000000
/-! DATA: towns, ropes, rows, lists of them, as they stand on the heap -/
namespace TW
open PySem L2 PyProof.Rows
open RM (rowV byV byV_non byV_int)
seal L2.PE L2.PA L2.PT L2.PW L2.PS L2.PSs L2.PG L2.PGs L2.PI L2.PTs
/-! whole -/
/-! joins -/
/-- a rope's five numbers -/
structure RopeOk (n : Int) (a b c d e : Int) : Prop where
  a0 : 0 ≤ a
  a1 : a < n
  b0 : 0 ≤ b
  b1 : b < n
  ab : a ≠ b
  c1 : 1 ≤ c
  d1 : 1 ≤ d
  d4 : d ≤ 4
  e1 : 1 ≤ e
  e7 : e ≤ 7
abbrev five (a b c d e : Int) : List V := [.int a, .int b, .int c, .int d, .int e]
/-! ropes -/
/-- a rope -/
structure R5 where
  a : Int
  b : Int
  c : Int
  d : Int
  e : Int
abbrev R5.vs (r : R5) : List V := five r.a r.b r.c r.d r.e
abbrev R5.ns (r : R5) : List Int := [r.a, r.b, r.c, r.d, r.e]
def R5.D (r : R5) : PyData := .tuple (r.ns.map .int)
abbrev R5.Ok (n : Int) (r : R5) : Prop := RopeOk n r.a r.b r.c r.d r.e
/-- a list of ropes stands at l -/
def Ropes (K : PySem.W.Frag) (H : Hp) (l : Addr) (rs : List R5) : Prop := Rep K H (.list (rs.map R5.D)) (.ref l)
section
variable {K : PySem.W.Frag} {H H' : Hp} {l : Addr} {rs : List R5}
theorem Ropes.mono (s : Same H H') (h : Ropes K H l rs) : Ropes K H' l rs := Rep.mono s h
theorem Ropes.at (h : Ropes K H l rs) : ∃ vs, SqL K H l vs ∧ vs.length = rs.length ∧ ∀ (i : Nat) r, rs[i]? = some r → ∃ p, vs[i]? = some (.ref p) ∧ SqT K H p r.vs := by
  obtain ⟨a, vs, e, q, r⟩ := h
  cases e
  refine ⟨vs, q, by rw [r.length, List.length_map], fun i x hx => ?_⟩
  obtain ⟨v, h1, h2⟩ := r.get (i := i) (d := x.D) (by rw [List.getElem?_map, hx]; rfl)
  obtain ⟨p, e, h3⟩ := Rep.of_intsT (ns := x.ns) h2
  subst e
  exact ⟨p, h1, h3⟩
end
theorem firstMet_nodup : ∀ (ns : List Int), ns.Nodup → (firstMet (fun i => ns.getD i 0) ns.length).length = ns.length := by
  intro ns hn
  have e : (List.range ns.length).map (fun i => ns.getD i 0) = ns := by
    apply List.ext_getElem
    · simp
    · intro i h1 h2
      simp at h1
      simp [List.getD_eq_getElem?_getD, h1]
  have key : ∀ (xs acc : List Int), (acc ++ xs).Nodup → xs.foldl step_dedup acc = acc ++ xs := by
    intro xs
    induction xs with
    | nil => intro acc _; simp
    | cons x xs ih =>
      intro acc h
      have hx : x ∉ acc := fun hm => by
        rw [List.nodup_append] at h
        exact h.2.2 x hm x (by simp) rfl
      have e1 : step_dedup acc x = acc ++ [x] := by
        unfold step_dedup
        simp [hx]
      rw [List.foldl_cons, e1, ih _ (by simpa using h)]
      simp
  unfold firstMet
  rw [e, key ns [] (by simpa using hn)]
  simp
/-! init -/
theorem putF_new {f : Str} {v : V} : ∀ {fs : List (Str × V)} {names : List Str}, fs.map (·.1) = names → names.contains f = false → putF f v fs = fs ++ [(f, v)]
  | [], _, _, _ => rfl
  | (g, u) :: r, _, e, h => by
    subst e
    rw [List.map_cons, List.contains_cons, Bool.or_eq_false_iff] at h
    have hn : ¬ g = f := fun z => by
      have := h.1
      rw [z] at this
      simp at this
    show (if g = f then (g, v) :: r else (g, u) :: putF f v r) = _
    rw [if_neg hn, putF_new rfl h.2]
    rfl
/-- all but one object of another kind stands -/
theorem sqL_but {K : PySem.W.Frag} {H H' : Hp} {p C dx : Addr} {fs : List (Str × V)} {a : Addr} {xs : List V} (k : ∀ b o, H b = some o → b ≠ p → H' b = some o) (hp : H p = some (.ins C dx fs)) (h : SqL K H a xs) : SqL K H' a xs := by
  rcases h with (h | ⟨o, h⟩) | h
  · exact .inl (.inl (k _ _ h (ne_of h hp (by intro z; cases z))))
  · exact .inl (.inr ⟨o, k _ _ h (ne_of h hp (by intro z; cases z))⟩)
  · exact .inr h
theorem sqT_but {K : PySem.W.Frag} {H H' : Hp} {p C dx : Addr} {fs : List (Str × V)} {a : Addr} {xs : List V} (k : ∀ b o, H b = some o → b ≠ p → H' b = some o) (hp : H p = some (.ins C dx fs)) (h : SqT K H a xs) : SqT K H' a xs := by
  rcases h with (h | ⟨o, h⟩) | h
  · exact .inl (.inl (k _ _ h (ne_of h hp (by intro z; cases z))))
  · exact .inl (.inr ⟨o, k _ _ h (ne_of h hp (by intro z; cases z))⟩)
  · exact .inr h
mutual
theorem rep_but {K : PySem.W.Frag} {H H' : Hp} {p C dx : Addr} {fs : List (Str × V)} (k : ∀ b o, H b = some o → b ≠ p → H' b = some o) (hp : H p = some (.ins C dx fs)) : ∀ {d : PyData} {v : V}, Rep K H d v → Rep K H' d v
  | .none, _, h => h
  | .bool _, _, h => h
  | .int _, _, h => h
  | .str _, _, h => h
  | .list ds, _, ⟨a, vs, e, q, r⟩ => ⟨a, vs, e, sqL_but k hp q, repAll_but k hp r⟩
  | .tuple ds, _, ⟨a, vs, e, q, r⟩ => ⟨a, vs, e, sqT_but k hp q, repAll_but k hp r⟩
  | .dict _, _, h => h
theorem repAll_but {K : PySem.W.Frag} {H H' : Hp} {p C dx : Addr} {fs : List (Str × V)} (k : ∀ b o, H b = some o → b ≠ p → H' b = some o) (hp : H p = some (.ins C dx fs)) : ∀ {ds : List PyData} {vs : List V}, RepAll K H ds vs → RepAll K H' ds vs
  | [], _, h => h
  | _ :: _, _, ⟨v, r, e, q, t⟩ => ⟨v, r, e, rep_but k hp q, repAll_but k hp t⟩
end
abbrev flds (ln lr : Addr) (n m : Nat) : List (Str × V) := [("house_names", .ref ln), ("rope_tuples", .ref lr), ("size", .int n), ("many", .int m)]
/-- a town stands at p, its own lists at ln and lr -/
structure TownAt (K : PySem.W.Frag) (C : Addr) (H : Hp) (p ln lr : Addr) (ns : List Int) (rs : List R5) : Prop where
  ob : ∃ dx, H p = some (.ins C dx (flds ln lr ns.length rs.length))
  nl : H ln = some (.lst (ns.map V.int))
  rl : ∃ vs, H lr = some (.lst vs) ∧ RepAll K H (rs.map R5.D) vs
section
variable {K : PySem.W.Frag} {C : Addr} {H H' : Hp} {p ln lr : Addr} {ns : List Int} {rs : List R5}
theorem TownAt.mono (s : Same H H') (h : TownAt K C H p ln lr ns rs) : TownAt K C H' p ln lr ns rs := by
  obtain ⟨⟨dx, h1⟩, h2, vs, h3, h4⟩ := h
  exact ⟨⟨dx, s _ _ h1⟩, s _ _ h2, vs, s _ _ h3, h4.mono s⟩
end
/-! nmrope -/
/-! numbers -/
theorem eqV_int (a x : Int) : eqV (.int a) (.int x) = decide (x = a) := by
  show (a == x) = decide (x = a)
  by_cases e : x = a
  · rw [decide_eq_true e, e]; exact beq_self_eq_true a
  · rw [decide_eq_false e]; exact beq_eq_false_iff_ne.mpr (Ne.symm e)
theorem inV_ints (x : Int) (xs : List Int) : inV (.int x) (xs.map V.int) = decide (x ∈ xs) := by
  unfold inV
  induction xs with
  | nil => simp
  | cons y ys ih =>
    rw [List.map_cons, List.any_cons, ih, eqV_int]
    by_cases h1 : x = y
    · subst h1; simp
    · by_cases h2 : x ∈ ys
      · simp [h1, h2]
      · simp [h1, h2]
theorem flat_ints (xs : List Int) : (xs.map V.int).all flatV = true := by
  rw [List.all_eq_true]
  intro v hv
  obtain ⟨x, _, rfl⟩ := List.mem_map.mp hv
  rfl
def above (xs : List Int) (x : Int) : Nat := (xs.filter fun y => decide (x ≤ y)).length
theorem above_lt {xs : List Int} {x : Int} (h : x ∈ xs) : above xs (x + 1) < above xs x := by
  unfold above
  induction xs with
  | nil => cases h
  | cons y ys ih =>
    have mono : (ys.filter fun y => decide (x + 1 ≤ y)).length ≤ (ys.filter fun y => decide (x ≤ y)).length := by
      clear ih h
      induction ys with
      | nil => simp
      | cons z zs ih2 =>
        simp only [List.filter_cons]
        by_cases h1 : x + 1 ≤ z
        · rw [if_pos (by simpa using h1), if_pos (by simp; omega)]; simp; exact ih2
        · rw [if_neg (by simpa using h1)]
          split
          · simp; omega
          · exact ih2
    simp only [List.filter_cons]
    by_cases hy : x = y
    · subst hy
      rw [if_neg (by simp; omega), if_pos (by simp)]
      simp; omega
    · have h2 : x ∈ ys := by
        rcases List.mem_cons.mp h with e | e
        · exact absurd e hy
        · exact e
      have := ih h2
      by_cases h1 : x + 1 ≤ y
      · rw [if_pos (by simpa using h1), if_pos (by simp; omega)]; simp; exact this
      · rw [if_neg (by simpa using h1), if_neg (by simp; omega)]; exact this
/-! wropes -/
theorem at2 {x z i : Int} (h0 : 0 ≤ i) (h3 : i < 2) : ∃ y, (y = x ∨ y = z) ∧ atI [V.int x, V.int z] i = some (.int y) := by
  have : i = 0 ∨ i = 1 := by omega
  rcases this with rfl | rfl
  · exact ⟨x, .inl rfl, rfl⟩
  · exact ⟨z, .inr rfl, rfl⟩
theorem ends_ok {n x y : Int} (hn : 2 ≤ n) : 0 ≤ x % n ∧ x % n < n ∧ 0 ≤ (x % n + 1 + y % (n - 1)) % n ∧ (x % n + 1 + y % (n - 1)) % n < n ∧ x % n ≠ (x % n + 1 + y % (n - 1)) % n := by
  have h1 := Int.emod_nonneg x (show n ≠ 0 by omega)
  have h2 := Int.emod_lt_of_pos x (show 0 < n by omega)
  have h3 := Int.emod_nonneg y (show n - 1 ≠ 0 by omega)
  have h4 := Int.emod_lt_of_pos y (show 0 < n - 1 by omega)
  have h5 := Int.emod_nonneg (x % n + 1 + y % (n - 1)) (show n ≠ 0 by omega)
  have h6 := Int.emod_lt_of_pos (x % n + 1 + y % (n - 1)) (show 0 < n by omega)
  refine ⟨h1, h2, h5, h6, ?_⟩
  generalize x % n = a at *
  generalize y % (n - 1) = b at *
  by_cases hlt : a + 1 + b < n
  · rw [Int.emod_eq_of_lt (by omega) hlt]; omega
  · rw [← Int.sub_emod_right, Int.emod_eq_of_lt (by omega) (by omega)]; omega
theorem ifS_by {c : TT} {t u r : TS} {D : Ends} {σ : L2.St} {H : Hp} (J : L2.St → Hp → Prop) (hn : ∀ σ H, J σ H → r D σ H) (h : (∀ σ H, J σ H → r D σ H) → tIfS c t u { D with nx := r D } σ H) : tSeq (tIfS c t u) r D σ H := h hn
/-! anyrow -/
/-- a row that may be handed in -/
structure RowFit (n m : Nat) (r : RM.Row) : Prop where
  hd : 0 ≤ r.hd
  co : 0 ≤ r.co
  ho : 0 ≤ r.ho ∧ r.ho < n
  by_ : r.by_ = -1 ∨ (0 ≤ r.by_ ∧ r.by_ < m)
theorem ifD_by {c : TT} {t u : TS} {D : Ends} {σ : L2.St} {H : Hp} (J : L2.St → Hp → Prop) (hn : ∀ σ H, J σ H → D.nx σ H) (h : (∀ σ H, J σ H → D.nx σ H) → tIfS c t u D σ H) : tIfS c t u D σ H := h hn
/-! live -/
abbrev natsV (ks : List Nat) : List V := ks.map fun k => V.int (k : Nat)
theorem natsV_snoc (ks : List Nat) (k : Nat) : natsV (ks ++ [k]) = natsV ks ++ [V.int (k : Nat)] := by
  unfold natsV
  rw [List.map_append]
  rfl
/-! near -/
theorem sqT_lst {K : PySem.W.Frag} {H : Hp} {q a : Addr} {xs ys : List V} {o : HO} (hq : H q = some (.lst xs)) (h : SqT K H a ys) : SqT K (upd H q o) a ys := by
  rcases h with (h | ⟨ob, h⟩) | h
  · exact .inl (.inl (by rw [upd_ne (ne_of h hq (by intro z; cases z))]; exact h))
  · exact .inl (.inr ⟨ob, by rw [upd_ne (ne_of h hq (by intro z; cases z))]; exact h⟩)
  · exact .inr h
/-! wdue -/
/-- the town, as the mathematics has it -/
def townNet (ns : List Int) (rs : List R5) (live : List Nat) (nd : ns.Nodup) (ok : ∀ r ∈ rs, r.Ok ns.length) (hl : ∀ k ∈ live, k < rs.length) : RM.Net where
  n := ns.length
  nm i := ns.getD i 0
  a k := ((rs[k]?).map fun r => r.a.toNat).getD 0
  b k := ((rs[k]?).map fun r => r.b.toNat).getD 0
  c k := ((rs[k]?).map fun r => r.c).getD 0
  live := live
  inj i j hi hj e := by
    have e1 : ns.getD i 0 = ns[i] := by simp [List.getD_eq_getElem?_getD, hi]
    have e2 : ns.getD j 0 = ns[j] := by simp [List.getD_eq_getElem?_getD, hj]
    have e : ns[i] = ns[j] := by rw [← e1, ← e2]; exact e
    exact (List.getElem?_inj hi nd).mp (by rw [List.getElem?_eq_getElem hi, List.getElem?_eq_getElem hj, e])
  ab k hk := by
    have h := hl k hk
    have o := ok _ (List.getElem_mem h)
    simp only [List.getElem?_eq_getElem h, Option.map_some, Option.getD_some]
    have h1 := o.a0; have h2 := o.a1; have h3 := o.b0; have h4 := o.b1; have h5 := o.ab
    exact ⟨by omega, by omega, by omega⟩
  c1 k hk := by
    have h := hl k hk
    have o := ok _ (List.getElem_mem h)
    simp only [List.getElem?_eq_getElem h, Option.map_some, Option.getD_some]
    exact o.c1
/-- rows stand at l -/
def RowsAt (K : PySem.W.Frag) (H : Hp) (l : Addr) (n : Nat) (R : Nat → RM.Row) : Prop := ∃ ps : List Addr, SqL K H l (ps.map V.ref) ∧ ps.length = n ∧ ∀ (i : Nat) p, ps[i]? = some p → SqT K H p (rowV (R i))
theorem RowsAt.mono {K : PySem.W.Frag} {H H' : Hp} {l : Addr} {n : Nat} {R : Nat → RM.Row} (s : Same H H') (h : RowsAt K H l n R) : RowsAt K H' l n R := by
  obtain ⟨ps, h1, h2, h3⟩ := h
  exact ⟨ps, s.seq h1, h2, fun i p e => s.seqT (h3 i p e)⟩
/-! fit -/
theorem ints_lay : ∀ ns : List Int, PyData.canLayAll0 (ns.map .int) = true
  | [] => rfl
  | n :: ns => by
    show (PyData.canLay0 (.int n) && PyData.canLayAll0 (ns.map .int)) = true
    rw [ints_lay ns]; rfl
theorem ints_deep : ∀ ns : List Int, PyData.depthAll (ns.map .int) = 0
  | [] => rfl
  | n :: ns => by
    show max (PyData.depth (.int n)) (PyData.depthAll (ns.map .int)) = 0
    rw [ints_deep ns]; rfl
section
variable {ns : List Int} {rs : List R5} {live : List Nat} {nd : ns.Nodup} {ok : ∀ r ∈ rs, r.Ok ns.length} {hl : ∀ k ∈ live, k < rs.length}
/-- rows that may be handed in -/
def FitAll (n m : Nat) (R : Nat → RM.Row) : Prop := ∀ i, i < n → RowFit n m (R i)
theorem FitAll.sane {m : Nat} {R : Nat → RM.Row} (h : FitAll ns.length m R) : RM.Sane (townNet ns rs live nd ok hl) R := fun i hi => (h i hi).ho
theorem due_fit {R : Nat → RM.Row} {h : Nat} {d : RM.Row} (hR : FitAll ns.length rs.length R) (hh : h < ns.length) (h0 : ∀ x ∈ ns, 0 ≤ x) (i : RM.IsDue (N := townNet ns rs live nd ok hl) ns.length R h d) : RowFit ns.length rs.length d := by
  rcases i.one with e | ⟨k, g, a, c, e⟩
  · rw [e]
    have en : (townNet ns rs live nd ok hl).nm h = ns[h] := by show ns.getD h 0 = _; simp [List.getD_eq_getElem?_getD, hh]
    refine ⟨?_, Int.le_refl _, ⟨Int.le_refl _, ?_⟩, .inl rfl⟩
    · show 0 ≤ (townNet ns rs live nd ok hl).nm h
      rw [en]
      exact h0 _ (List.getElem_mem hh)
    · show (0 : Int) < ns.length
      omega
  · have f := hR g a.lt.2.1
    have c1 := a.cost
    have hk : k < rs.length := hl k a.1
    rw [e]
    refine ⟨f.hd, ?_, ⟨?_, c⟩, .inr ⟨?_, ?_⟩⟩
    · show 0 ≤ (R g).co + (townNet ns rs live nd ok hl).c k
      have := f.co
      omega
    · show 0 ≤ (R g).ho + 1
      have := f.ho.1
      omega
    · show (0 : Int) ≤ (k : Nat); omega
    · show ((k : Nat) : Int) < (rs.length : Nat); omega
end
theorem RowFit.by1 {n m : Nat} {r : RM.Row} (h : RowFit n m r) : -1 ≤ r.by_ := by have := h.by_; omega
/-! truth -/
/-! ownrows -/
def OwnRows (K : PySem.W.Frag) (H : Hp) (l : Addr) (n : Nat) (R : Nat → RM.Row) : Prop := ∃ ps : List Addr, H l = some (.lst (ps.map V.ref)) ∧ ps.length = n ∧ ∀ (i : Nat) p, ps[i]? = some p → SqT K H p (rowV (R i))
theorem OwnRows.rows {K : PySem.W.Frag} {H : Hp} {l : Addr} {n : Nat} {R : Nat → RM.Row} (h : OwnRows K H l n R) : RowsAt K H l n R := by
  obtain ⟨ps, h1, h2, h3⟩ := h
  exact ⟨ps, SqL.of h1, h2, h3⟩
theorem OwnRows.mono {K : PySem.W.Frag} {H H' : Hp} {l : Addr} {n : Nat} {R : Nat → RM.Row} (s : Same H H') (h : OwnRows K H l n R) : OwnRows K H' l n R := by
  obtain ⟨ps, h1, h2, h3⟩ := h
  exact ⟨ps, s _ _ h1, h2, fun i p e => s.seqT (h3 i p e)⟩
/-! townat -/
def isAt (rs : List R5) (h : Int) (i : Nat) : Bool := match rs[i]? with | some r => decide (h = r.a) || decide (h = r.b) | none => false
def atH (rs : List R5) (h : Int) (n : Nat) : List Nat := (List.range n).filter (isAt rs h)
theorem atH_succ (rs : List R5) (h : Int) (n : Nat) : atH rs h (n + 1) = atH rs h n ++ (if isAt rs h n then [n] else []) := by
  unfold atH
  rw [List.range_succ, List.filter_append]
  congr 1
  by_cases h' : isAt rs h n = true
  · rw [if_pos h']; simp [h']
  · rw [if_neg h']; simp [h']
theorem atH_len (rs : List R5) (h : Int) (n : Nat) : (atH rs h n).length ≤ n := by
  have := List.length_filter_le (isAt rs h) (List.range n)
  rw [List.length_range] at this
  exact this
theorem in_two (x a b : Int) : inV (V.int x) [V.int a, V.int b] = (decide (x = a) || decide (x = b)) := by
  show (eqV (.int a) (.int x) || (eqV (.int b) (.int x) || false)) = _
  rw [eqV_int, eqV_int, Bool.or_false]
/-! own -/
/-! due -/
theorem natsV_ints (ks : List Nat) : natsV ks = (ks.map fun k : Nat => (k : Int)).map V.int := by
  unfold natsV
  rw [List.map_map]
  rfl
theorem inV_nats (x : Nat) (xs : List Nat) : inV (.int (x : Nat)) (natsV xs) = decide (x ∈ xs) := by
  rw [natsV_ints, inV_ints]
  by_cases h : x ∈ xs
  · rw [decide_eq_true h]
    exact decide_eq_true (List.mem_map.mpr ⟨x, h, rfl⟩)
  · rw [decide_eq_false h]
    refine decide_eq_false fun z => h ?_
    obtain ⟨y, hy, e⟩ := List.mem_map.mp z
    have : y = x := by omega
    exact this ▸ hy
theorem flat_nats (xs : List Nat) : (natsV xs).all flatV = true := by rw [natsV_ints]; exact flat_ints _
theorem mem_atH {rs : List R5} {h : Int} {n k : Nat} : k ∈ atH rs h n ↔ k < n ∧ isAt rs h k = true := by
  unfold atH
  rw [List.mem_filter, List.mem_range]
section
variable {ns : List Int} {rs : List R5} {live : List Nat} {nd : ns.Nodup} {ok : ∀ r ∈ rs, r.Ok ns.length} {hl : ∀ k ∈ live, k < rs.length}
/-- the other end, as the program tells it -/
def farOf (r : R5) (h : Nat) : Nat := (if (h : Int) = r.a then r.b else r.a).toNat
theorem adj_far {k h g : Nat} (hk : k ∈ live) : RM.Adj (townNet ns rs live nd ok hl) k h g ↔ isAt rs (h : Int) k = true ∧ g = farOf (rs[k]'(hl k hk)) h := by
  have hlt := hl k hk
  have o := ok _ (List.getElem_mem hlt)
  have e1 : rs[k]? = some rs[k] := List.getElem?_eq_getElem hlt
  have ea : (townNet ns rs live nd ok hl).a k = rs[k].a.toNat := by show ((rs[k]?).map fun r => r.a.toNat).getD 0 = _; rw [e1]; rfl
  have eb : (townNet ns rs live nd ok hl).b k = rs[k].b.toNat := by show ((rs[k]?).map fun r => r.b.toNat).getD 0 = _; rw [e1]; rfl
  unfold RM.Adj isAt farOf
  rw [ea, eb, e1]
  dsimp only
  generalize rs[k] = r at o
  have h1 := o.a0; have h2 := o.b0; have h3 := o.ab
  constructor
  · rintro ⟨_, ⟨q1, q2⟩ | ⟨q1, q2⟩⟩
    · have z : (h : Int) = r.a := by omega
      rw [if_pos z]
      exact ⟨by simp [z], q2.symm⟩
    · have z : (h : Int) = r.b := by omega
      rw [if_neg (by omega)]
      exact ⟨by simp [z], q2.symm⟩
  · rintro ⟨q1, q2⟩
    refine ⟨hk, ?_⟩
    have q1 : (h : Int) = r.a ∨ (h : Int) = r.b := by simpa using q1
    by_cases z : (h : Int) = r.a
    · rw [if_pos z] at q2
      exact .inl ⟨by omega, q2.symm⟩
    · rw [if_neg z] at q2
      exact .inr ⟨by omega, q2.symm⟩
end
/-! resting -/
/-! rowsdata -/
theorem RowsAt.data {K : PySem.W.Frag} {H : Hp} {l : Addr} {n : Nat} {R : Nat → RM.Row} (h : RowsAt K H l n R) : Rep K H (RM.rowsD n R) (.ref l) := by
  obtain ⟨ps, h1, h2, h3⟩ := h
  refine ⟨l, _, rfl, h1, ?_⟩
  have := RM.rowsAll_rep (K := K) (H := H) (ps := ps) (rs := (List.range n).map R) (by rw [List.length_map, List.length_range]; exact h2) (fun i p r e1 e2 => by
    rw [List.getElem?_map] at e2
    have hi : i < n := by have := (List.getElem?_eq_some_iff.mp e1).1; omega
    rw [List.getElem?_range hi] at e2
    cases e2
    exact h3 i p e1)
  rw [List.map_map] at this
  exact this
theorem rowGetD {rl : List RM.Row} {i : Nat} {z : RM.Row} (h : i < rl.length) : rl.getD i z = rl[i] := by rw [List.getD_eq_getElem?_getD, List.getElem?_eq_getElem h]; rfl
theorem snoc_at {α : Type} {xs : List α} {x y : α} {j : Nat} (h : (xs ++ [x])[j]? = some y) : xs[j]? = some y ∨ (j = xs.length ∧ y = x) := by
  by_cases hj : j < xs.length
  · rw [List.getElem?_append_left hj] at h
    exact .inl h
  · have := (List.getElem?_eq_some_iff.mp h).1
    rw [List.length_append] at this
    have e : j = xs.length := by have : j < xs.length + 1 := this; omega
    subst e
    rw [List.getElem?_append_right (Nat.le_refl _), Nat.sub_self] at h
    cases h
    exact .inr ⟨rfl, rfl⟩
/-! sets, rounds -/
/-! rests -/
section
variable {ns : List Int} {rs : List R5} {live : List Nat} {nd : ns.Nodup} {ok : ∀ r ∈ rs, r.Ok ns.length} {hl : ∀ k ∈ live, k < rs.length}
theorem nm_at {h : Nat} (hh : h < ns.length) : (townNet ns rs live nd ok hl).nm h = ns[h] := by
  show ns.getD h 0 = _
  simp [List.getD_eq_getElem?_getD, hh]
end
theorem FitAll.upd {n m : Nat} {S : Nat → RM.Row} {x : Nat} {r : RM.Row} (f : FitAll n m S) (hr : RowFit n m r) : FitAll n m (RM.upd S x r) := fun i hi => by
  unfold RM.upd
  by_cases e : i = x
  · rw [if_pos e]; exact hr
  · rw [if_neg e]; exact f i hi
/-! labels; what leads on, as data -/
theorem ixN_nat {n i : Nat} (h : i < n) : ixN n (i : Int) = some i := by
  unfold ixN
  rw [if_pos (by omega), if_pos (by omega)]
  simp
section
variable {ns : List Int} {rs : List R5} {live : List Nat} {nd : ns.Nodup} {ok : ∀ r ∈ rs, r.Ok ns.length} {hl : ∀ k ∈ live, k < rs.length}
theorem net_c {k : Nat} (h : k < rs.length) : (townNet ns rs live nd ok hl).c k = rs[k].c := by
  show ((rs[k]?).map fun r => r.c).getD 0 = _
  rw [List.getElem?_eq_getElem h]; rfl
end
theorem own_set {K : PySem.W.Frag} {H : Hp} {l : Addr} {n : Nat} {S : Nat → RM.Row} {ps : List Addr} {x : Nat} {p : Addr} {r : RM.Row} (hP : H l = some (.lst (ps.map V.ref))) (ePs : ps.length = n) (hrow : ∀ (i : Nat) p, ps[i]? = some p → SqT K H p (rowV (S i))) (hp : SqT K H p (rowV r)) (hx : x < ps.length) : OwnRows K (upd H l (.lst ((ps.map V.ref).set x (V.ref p)))) l n (RM.upd S x r) := by
  refine ⟨ps.set x p, by rw [upd_same, List.map_set], by rw [List.length_set]; exact ePs, fun j pj e => ?_⟩
  refine sqT_lst hP ?_
  unfold RM.upd
  by_cases e1 : j = x
  · subst e1
    rw [List.getElem?_set_self hx] at e
    cases e
    rw [if_pos rfl]
    exact hp
  · rw [List.getElem?_set_ne (Ne.symm e1)] at e
    rw [if_neg e1]
    exact hrow j pj e
/-! the best of what leads on -/
end TW
/-! smaller proof terms -/
namespace TW
open PySem L2 PyProof.Rows
theorem ixL_mk {K : PySem.W.Frag} {H : Hp} {Q : VK} {p : Addr} {xs : List V} {i : Int} {v : V} (h : SqL K H p xs) (e : atI xs i = some v) (k : Q v H) : rIxL K (.ref p) (.int i) H Q := ⟨p, xs, i, v, rfl, rfl, h, e, k⟩
theorem ixTc_mk {K : PySem.W.Frag} {σ : L2.St} {H : Hp} {Q : VK} {p : Addr} {xs : List V} {i : Int} {v : V} (h : SqT K H p xs) (e : atI xs i = some v) (k : Q v H) : tC (.int i) σ H fun y H2 => rIxT K (.ref p) y H2 Q := ⟨p, xs, i, v, rfl, rfl, h, e, k⟩
theorem ifS_byN {c : TT} {t u r : TS} {D : Ends} {σ : L2.St} {H : Hp} (J : L2.St → Hp → Prop) (hn : ∀ σ H, J σ H → r D σ H) (h : ∀ N : L2.St → Hp → Prop, (∀ σ H, J σ H → N σ H) → tIfS c t u { D with nx := N } σ H) : tSeq (tIfS c t u) r D σ H := h _ hn
theorem for_rangeN {lo : Int} {n : Nat} {g : TG} {tb : TS} {D : Ends} {σ : L2.St} {H : Hp} (Pv : Nat → L2.St → Hp → Prop) (h0 : Pv 0 σ H)
    (hs : ∀ i σ H (N : L2.St → Hp → Prop), (∀ σ' H', Pv (i + 1) σ' H' → N σ' H') → i < n → Pv i σ H → g (.int (lo + i)) σ H fun σ2 H2 => tb { D with nx := N, ct := N, bk := D.nx } σ2 H2) (hd : ∀ σ H, Pv n σ H → D.nx σ H) :
    ∃ W : Nat → Nat → L2.St → Hp → Prop, (∃ m, W 0 m σ H) ∧ ∀ i m σ H, W i m σ H →
      ((Itr lo n).stop i H ∧ D.nx σ H) ∨ ((Itr lo n).go i H ∧ ∃ N : L2.St → Hp → Prop, (∀ σ' H', N σ' H' → ∃ m', m' < m ∧ W (i + 1) m' σ' H') ∧ ∀ x H', (Itr lo n).yld i H x H' → g x σ H' fun σ2 H2 => tb { D with nx := N, ct := N, bk := D.nx } σ2 H2) :=
  for_range Pv h0 (fun i σ H hi p => hs i σ H _ (fun _ _ x => x) hi p) hd
theorem for_listN {K : PySem.W.Frag} {a : Addr} {xs : List V} {g : TG} {tb : TS} {D : Ends} {σ : L2.St} {H : Hp} (Pv : Nat → L2.St → Hp → Prop) (h0 : Pv 0 σ H) (hl : ∀ i σ H, i ≤ xs.length → Pv i σ H → SqL K H a xs)
    (hs : ∀ i x σ H (N : L2.St → Hp → Prop), (∀ σ' H', Pv (i + 1) σ' H' → N σ' H') → xs[i]? = some x → Pv i σ H → g x σ H fun σ2 H2 => tb { D with nx := N, ct := N, bk := D.nx } σ2 H2) (hd : ∀ σ H, Pv xs.length σ H → D.nx σ H) :
    ∃ W : Nat → Nat → L2.St → Hp → Prop, (∃ m, W 0 m σ H) ∧ ∀ i m σ H, W i m σ H →
      ((Itl K a).stop i H ∧ D.nx σ H) ∨ ((Itl K a).go i H ∧ ∃ N : L2.St → Hp → Prop, (∀ σ' H', N σ' H' → ∃ m', m' < m ∧ W (i + 1) m' σ' H') ∧ ∀ x H', (Itl K a).yld i H x H' → g x σ H' fun σ2 H2 => tb { D with nx := N, ct := N, bk := D.nx } σ2 H2) :=
  for_list Pv h0 hl (fun i x σ H hi p => hs i x σ H _ (fun _ _ x => x) hi p) hd
end TW

set_option Elab.async false
set_option linter.all false
set_option maxRecDepth 100000
set_option maxHeartbeats 4000000
/-! DATA 2: by what houses hang -/
namespace TW
open PySem L2 PyProof.Rows
open RM (rowV byV byV_non byV_int)
seal L2.PE L2.PA L2.PT L2.PW L2.PS L2.PSs L2.PG L2.PGs L2.PI L2.PTs
section
open Classical
/-- the rope by which a house hangs, and the house on which it hangs -/
noncomputable def hangOf (N : RM.Net) (R : Nat → RM.Row) (h : Nat) : Option (Nat × Nat) :=
  if e : ∃ p : Nat × Nat, RM.Hang N R p.1 h p.2 then some (choose e) else none
end
theorem hangOf_some {N : RM.Net} {R : Nat → RM.Row} {h k g : Nat} : hangOf N R h = some (k, g) ↔ RM.Hang N R k h g := by
  unfold hangOf
  constructor
  · intro e
    split at e
    · rename_i q
      have := Classical.choose_spec q
      rw [Option.some.inj e] at this
      exact this
    · cases e
  · intro t
    have q : ∃ p : Nat × Nat, RM.Hang N R p.1 h p.2 := ⟨(k, g), t⟩
    rw [dif_pos q]
    have u := Classical.choose_spec q
    obtain ⟨e1, e2⟩ := u.uniq t
    exact congrArg some (Prod.ext e1 e2)
theorem hangOf_none {N : RM.Net} {R : Nat → RM.Row} {h : Nat} (q : ∀ k g, ¬ RM.Hang N R k h g) : hangOf N R h = none := by
  cases e : hangOf N R h with
  | none => rfl
  | some p => exact absurd (hangOf_some.mp e) (q p.1 p.2)
def ItemAt (K : PySem.W.Frag) (H : Hp) (v : V) : Option (Nat × Nat) → Prop
  | none => v = .non
  | some p => ∃ t, v = .ref t ∧ SqT K H t [.int (p.1 : Nat), .int (p.2 : Nat)]
theorem ItemAt.mono {K : PySem.W.Frag} {H H' : Hp} {v : V} {o : Option (Nat × Nat)} (s : Same H H') (h : ItemAt K H v o) : ItemAt K H' v o := by
  cases o with
  | none => exact h
  | some p =>
    obtain ⟨t, e, q⟩ := h
    exact ⟨t, e, s.seqT q⟩
theorem ItemAt.lst {K : PySem.W.Frag} {H : Hp} {v : V} {o : Option (Nat × Nat)} {l : Addr} {xs : List V} {ob : HO} (hl : H l = some (.lst xs)) (h : ItemAt K H v o) : ItemAt K (upd H l ob) v o := by
  cases o with
  | none => exact h
  | some p =>
    obtain ⟨t, e, q⟩ := h
    exact ⟨t, e, sqT_lst hl q⟩
def OwnUps (K : PySem.W.Frag) (H : Hp) (l : Addr) (n : Nat) (u : Nat → Option (Nat × Nat)) : Prop := ∃ vs : List V, H l = some (.lst vs) ∧ vs.length = n ∧ ∀ (i : Nat) v, vs[i]? = some v → ItemAt K H v (u i)
section
variable {ns : List Int} {rs : List R5} {live : List Nat} {nd : ns.Nodup} {ok : ∀ r ∈ rs, r.Ok ns.length} {hl : ∀ k ∈ live, k < rs.length}
theorem hang_far {R : Nat → RM.Row} {k h : Nat} (hk : k ∈ live) : (∃ g, RM.Hang (townNet ns rs live nd ok hl) R k h g) ↔ isAt rs (h : Int) k = true ∧ (R (farOf (rs[k]'(hl k hk)) h)).ho + 1 < ns.length ∧ R h = RM.over (townNet ns rs live nd ok hl) k (R (farOf (rs[k]'(hl k hk)) h)) := by
  constructor
  · rintro ⟨g, t⟩
    obtain ⟨q1, q2⟩ := (adj_far hk).mp t.adj
    subst q2
    exact ⟨q1, t.cut, t.eq⟩
  · rintro ⟨q1, q2, q3⟩
    exact ⟨_, (adj_far hk).mpr ⟨q1, rfl⟩, q2, q3⟩
theorem hang_g {R : Nat → RM.Row} {k h g : Nat} (t : RM.Hang (townNet ns rs live nd ok hl) R k h g) : g = farOf (rs[k]'(hl k t.adj.1)) h := ((adj_far t.adj.1).mp t.adj).2
theorem far_lt {k h : Nat} (hk : k < rs.length) (ok : ∀ r ∈ rs, r.Ok ns.length) : farOf rs[k] h < ns.length := by
  have o := ok _ (List.getElem_mem hk)
  have h1 := o.a0; have h2 := o.a1; have h3 := o.b0; have h4 := o.b1
  unfold farOf
  split <;> omega
theorem far_int {k h : Nat} (hk : k < rs.length) (ok : ∀ r ∈ rs, r.Ok ns.length) : (if (h : Int) = rs[k].a then rs[k].b else rs[k].a) = ((farOf rs[k] h : Nat) : Int) := by
  have o := ok _ (List.getElem_mem hk)
  have h1 := o.a0; have h2 := o.b0
  unfold farOf
  split <;> omega
theorem far_sum {k h : Nat} (hk : k < rs.length) (ok : ∀ r ∈ rs, r.Ok ns.length) (q : isAt rs (h : Int) k = true) : rs[k].a + rs[k].b - (h : Int) = ((farOf rs[k] h : Nat) : Int) := by
  have o := ok _ (List.getElem_mem hk)
  have h1 := o.a0; have h2 := o.b0
  unfold isAt at q
  rw [List.getElem?_eq_getElem hk] at q
  have q : (h : Int) = rs[k].a ∨ (h : Int) = rs[k].b := by simpa using q
  unfold farOf
  split <;> omega
end
/-! what a law tells of a town -/
theorem ropes_all {K : PySem.W.Frag} {H : Hp} : ∀ {ts : List Addr} {rs : List R5}, ts.length = rs.length → (∀ (j : Nat) t r, ts[j]? = some t → rs[j]? = some r → SqT K H t r.vs) → RepAll K H (rs.map R5.D) (ts.map V.ref)
  | [], [], _, _ => rfl
  | t :: ts, r :: rs, el, h => ⟨_, _, rfl, Rep.intsT (ns := r.ns) (h 0 t r rfl rfl), ropes_all (by simpa using el) fun i p' r' a b => h (i + 1) p' r' a b⟩
  | [], _ :: _, e, _ => by simp at e
  | _ :: _, [], e, _ => by simp at e
structure Told (K : PySem.W.Frag) (H : Hp) (q a b c : Addr) (ns : List Int) (rs : List R5) (live : List Nat) : Prop where
  tup : SqT K H q [.int (ns.length : Nat), .ref a, .ref b, .ref c]
  nms : SqL K H a (ns.map V.int)
  rps : Ropes K H b rs
  liv : SqL K H c (natsV live)
theorem Told.mono {K : PySem.W.Frag} {H H' : Hp} {q a b c : Addr} {ns : List Int} {rs : List R5} {live : List Nat} (s : Same H H') (h : Told K H q a b c ns rs live) : Told K H' q a b c ns rs live :=
  ⟨s.seqT h.tup, s.seq h.nms, h.rps.mono s, s.seq h.liv⟩
/-- a town that may be made -/
structure Good (ns : List Int) (rs : List R5) (live : List Nat) : Prop where
  n1 : 1 ≤ ns.length
  n10 : ns.length ≤ 10
  nd : ns.Nodup
  nn : ∀ x ∈ ns, 0 ≤ x
  l20 : rs.length ≤ 20
  ok : ∀ r ∈ rs, r.Ok ns.length
  lt : ∀ k ∈ live, k < rs.length
  up : live.Pairwise (· < ·)
theorem at10 {i : Int} (h0 : 0 ≤ i) (h1 : i < 10) : ∃ w : Nat, 1 ≤ w ∧ w ≤ 10 ∧ atI (([1, 2, 3, 4, 5, 6, 4, 5, 3, 10] : List Int).map V.int) i = some (.int (w : Nat)) := by
  obtain ⟨k, rfl⟩ := Int.eq_ofNat_of_zero_le h0
  have hk : k < 10 := Int.ofNat_lt.mp h1
  have all : ∀ k : Fin 10, 1 ≤ [1, 2, 3, 4, 5, 6, 4, 5, 3, 10].getD k.1 0 ∧ [1, 2, 3, 4, 5, 6, 4, 5, 3, 10].getD k.1 0 ≤ 10 := by decide
  have a := all ⟨k, hk⟩
  refine ⟨[1, 2, 3, 4, 5, 6, 4, 5, 3, 10].getD k 0, a.1, a.2, atI_nat ?_⟩
  have at_ : ∀ k : Fin 10, [1, 2, 3, 4, 5, 6, 4, 5, 3, 10][k.1]? = some (((([1, 2, 3, 4, 5, 6, 4, 5, 3, 10] : List Nat).getD k.1 0 : Nat)) : Int) := by decide
  rw [List.getElem?_map, at_ ⟨k, hk⟩]
  rfl
theorem at2p {x y i : Int} (hx : 0 < x) (hy : 0 < y) (h0 : 0 ≤ i) (h2 : i < 2) : ∃ w, 0 < w ∧ atI [V.int x, V.int y] i = some (.int w) := by
  have : i = 0 ∨ i = 1 := by omega
  rcases this with rfl | rfl
  · exact ⟨x, hx, rfl⟩
  · exact ⟨y, hy, rfl⟩
theorem at3q {x y z i : Int} (hx : 0 < x) (hy : 0 < y) (hz : 0 < z) (h0 : 0 ≤ i) (h3 : i < 3) : ∃ w, 0 < w ∧ atI [V.int x, V.int y, V.int z] i = some (.int w) := by
  have : i = 0 ∨ i = 1 ∨ i = 2 := by omega
  rcases this with rfl | rfl | rfl
  · exact ⟨x, hx, rfl⟩
  · exact ⟨y, hy, rfl⟩
  · exact ⟨z, hz, rfl⟩
theorem at3r {x y z i : Int} (lo hi : Int) (hx : lo ≤ x ∧ x ≤ hi) (hy : lo ≤ y ∧ y ≤ hi) (hz : lo ≤ z ∧ z ≤ hi) (h0 : 0 ≤ i) (h3 : i < 3) : ∃ w, (lo ≤ w ∧ w ≤ hi) ∧ atI [V.int x, V.int y, V.int z] i = some (.int w) := by
  have : i = 0 ∨ i = 1 ∨ i = 2 := by omega
  rcases this with rfl | rfl | rfl
  · exact ⟨x, hx, rfl⟩
  · exact ⟨y, hy, rfl⟩
  · exact ⟨z, hz, rfl⟩
theorem inV_non (xs : List Nat) : inV .non (natsV xs) = false := by
  unfold inV
  rw [Bool.eq_false_iff]
  intro h
  obtain ⟨x, hx, e⟩ := List.any_eq_true.mp h
  obtain ⟨y, _, rfl⟩ := List.mem_map.mp hx
  cases e
theorem three_eqv (a b c x y z : Int) : PyData.eqv (.tuple (([a, b, c] : List Int).map .int)) (.tuple (([x, y, z] : List Int).map .int)) = decide (a = x ∧ b = y ∧ c = z) := by
  show (PyData.eqv (.int a) (.int x) && (PyData.eqv (.int b) (.int y) && (PyData.eqv (.int c) (.int z) && true))) = _
  show ((a == x) && ((b == y) && ((c == z) && true))) = _
  rw [Bool.and_true, Bool.eq_iff_iff]
  simp
theorem cut_last (xs : List V) (i : Int) (h : i = -1 ∨ i = (xs.length : Int) - 1) : cutV xs none (some i) = xs.take (xs.length - 1) := by
  unfold cutV HT.sIx
  show (xs.drop 0).take ((if i < 0 then (i + (xs.length : Int)).toNat else min i.toNat xs.length) - 0) = _
  rw [List.drop_zero, Nat.sub_zero]
  congr 1
  rcases h with rfl | rfl
  · rw [if_pos (by decide)]
    omega
  · split <;> omega
theorem Good.fewer {ns : List Int} {rs : List R5} {live : List Nat} (g : Good ns rs live) (m : Nat) : Good ns rs (live.take m) :=
  ⟨g.n1, g.n10, g.nd, g.nn, g.l20, g.ok, fun k hk => g.lt k (List.mem_of_mem_take hk), g.up.sublist (List.take_sublist _ _)⟩
theorem pair_data {K : PySem.W.Frag} {H : Hp} {l x y : Addr} {n : Nat} {R : Nat → RM.Row} {live : List Nat} (h0 : SqL K H l [.ref x, .ref y]) (h1 : SqL K H x (natsV live)) (h2 : RowsAt K H y n R) :
    Rep K H (.list [.list ((live.map fun k : Nat => (k : Int)).map .int), RM.rowsD n R]) (.ref l) :=
  ⟨l, _, rfl, h0, .ref x, _, rfl, Rep.ints (natsV_ints live ▸ h1), .ref y, _, rfl, h2.data, rfl⟩
theorem pair_lay (n : Nat) (R : Nat → RM.Row) (live : List Nat) : PyData.canLay0 (.list [.list ((live.map fun k : Nat => (k : Int)).map .int), RM.rowsD n R]) = true := by
  show (PyData.canLayAll0 ((live.map fun k : Nat => (k : Int)).map .int) && ((RM.rowsD n R).canLay0 && true)) = true
  rw [ints_lay, RM.rowsD_lay]; rfl
theorem pair_deep (n : Nat) (R : Nat → RM.Row) (live : List Nat) : PyData.depth (.list [.list ((live.map fun k : Nat => (k : Int)).map .int), RM.rowsD n R]) ≤ 64 := by
  show max (PyData.depthAll ((live.map fun k : Nat => (k : Int)).map .int) + 1) (max (RM.rowsD n R).depth 0) + 1 ≤ 64
  have := RM.rowsD_deep n R
  rw [ints_deep]
  omega
end TW

set_option Elab.async false
set_option linter.all false
set_option maxRecDepth 100000
/-! EXTENSION 15: sorted of a list of ints -/
namespace L2
open PySem PySem.Spec PyProof.Rows
theorem vals_of_ints {us : List Value} {ns : List Int} (h : IntsAre us ns) : Vals (ns.map V.int) us := by
  induction h with
  | nil => exact .nil
  | cons n t _ ih => exact .cons ⟨t, rfl⟩ ih
section
variable {X : Cx}
def rSorted (K : PySem.W.Frag) : List V → Hp → VK → Prop := fun xs H Q => ∃ (a : Addr) (ns : List Int), xs = [.ref a] ∧ SqL K H a (ns.map V.int) ∧ ns.length < 64 ∧ ∀ l (ns' : List Int), H l = none → ns'.Perm ns → ns'.Pairwise (· ≤ ·) → Q (.ref l) (upd H l (.lst (ns'.map V.int)))
theorem call_sorted : CallR X (.builtin "sorted") (rSorted X.K) := by
  intro pins s σ H xs us Q I r ⟨a, ns, e, hq, h64, q⟩
  subst e
  obtain ⟨u, e, ru⟩ := Vals.one r
  subst e
  cases ru
  obtain ⟨its, rv, p, hz⟩ := I.list hq
  have hi : IntsAre its ns := intsAre_of rv
  have hlen := IntsAre.length hi
  refine sorted_ints (vs := its) p.isList hi (by omega) fun out ns' a1 a2 a3 => ?_
  obtain ⟨e, he⟩ := sortedAll_at s.heap its out
  refine ⟨.ref (s.heap.objs.size + 1), _, I.laid (a := s.heap.objs.size + 1) (o := .lst (ns'.map V.int)) (t' := s.toks) (fun b o e => sortedAll_old e) (Nat.le_succ _) ⟨?_, out.toList, e, vals_of_ints a1, ?_⟩, rfl, q _ ns' (I.hok.fresh (Nat.le_succ _)) a2 a3⟩
  · rw [List.length_map, a2.length_eq]
    exact Nat.le_of_lt (small1000 (by omega))
  · rw [he]
end
end L2

set_option Elab.async false
set_option linter.all false
set_option maxRecDepth 100000
set_option maxHeartbeats 4000000
/-! DATA 3: ways up, open ropes -/
namespace TW
open PySem L2 PyProof.Rows
open RM (rowV byV byV_non byV_int)
seal L2.PE L2.PA L2.PT L2.PW L2.PS L2.PSs L2.PG L2.PGs L2.PI L2.PTs
theorem rise_uniq : ∀ {xs ys : List Nat}, xs.Pairwise (· < ·) → ys.Pairwise (· < ·) → (∀ k, k ∈ xs ↔ k ∈ ys) → xs = ys
  | [], [], _, _, _ => rfl
  | [], y :: ys, _, _, h => absurd ((h y).mpr List.mem_cons_self) (by simp)
  | x :: xs, [], _, _, h => absurd ((h x).mp List.mem_cons_self) (by simp)
  | x :: xs, y :: ys, hx, hy, h => by
    have hx1 := List.pairwise_cons.mp hx
    have hy1 := List.pairwise_cons.mp hy
    have e : x = y := by
      rcases List.mem_cons.mp ((h x).mp List.mem_cons_self) with z | z
      · exact z
      · rcases List.mem_cons.mp ((h y).mpr List.mem_cons_self) with w | w
        · exact w.symm
        · have := hy1.1 x z
          have := hx1.1 y w
          omega
    subst e
    rw [rise_uniq hx1.2 hy1.2 fun k => ?_]
    constructor
    · intro z
      rcases List.mem_cons.mp ((h k).mp (List.mem_cons_of_mem _ z)) with w | w
      · have := hx1.1 k z; omega
      · exact w
    · intro z
      rcases List.mem_cons.mp ((h k).mpr (List.mem_cons_of_mem _ z)) with w | w
      · have := hy1.1 k z; omega
      · exact w
theorem Hang.lt {N : RM.Net} {R : Nat → RM.Row} {k h g : Nat} (t : RM.Hang N R k h g) : h < N.n ∧ g < N.n := ⟨t.adj.lt.1, t.adj.lt.2.1⟩
/-- the open ropes, rising -/
def Opens (N : RM.Net) (R : Nat → RM.Row) (os : List Nat) : Prop := os.Pairwise (· < ·) ∧ ∀ k, k ∈ os ↔ ∃ h g, RM.Hang N R k h g
theorem Opens.uniq {N : RM.Net} {R : Nat → RM.Row} {xs ys : List Nat} (a : Opens N R xs) (b : Opens N R ys) : xs = ys := rise_uniq a.1 b.1 fun k => (a.2 k).trans (b.2 k).symm
theorem sorted_nats {ks : List Nat} {ms : List Int} (p : ms.Perm (ks.map fun k : Nat => (k : Int))) (pw : ms.Pairwise (· ≤ ·)) (nd : ks.Nodup) : ∃ os : List Nat, ms.map V.int = natsV os ∧ os.Pairwise (· < ·) ∧ (∀ k, k ∈ os ↔ k ∈ ks) ∧ os.length = ks.length := by
  have nn : ∀ m ∈ ms, ∃ k : Nat, m = (k : Int) ∧ k ∈ ks := fun m hm => by
    obtain ⟨k, hk, e⟩ := List.mem_map.mp (p.mem_iff.mp hm)
    exact ⟨k, e.symm, hk⟩
  have e1 : (ms.map Int.toNat).map (fun k : Nat => (k : Int)) = ms := by
    rw [List.map_map]
    conv => rhs; rw [← List.map_id ms]
    apply List.map_congr_left
    intro m hm
    obtain ⟨k, e, _⟩ := nn m hm
    rw [e]
    rfl
  have ndm : ms.Nodup := by
    refine p.nodup_iff.mpr ?_
    unfold List.Nodup
    rw [List.pairwise_map]
    exact nd.imp fun h e => h (by omega)
  refine ⟨ms.map Int.toNat, ?_, ?_, fun k => ?_, by rw [List.length_map, p.length_eq, List.length_map]⟩
  · rw [natsV_ints, e1]
  · rw [List.pairwise_map]
    have both := List.pairwise_and_iff.mpr ⟨pw, ndm⟩
    refine List.Pairwise.imp_of_mem (fun {a b} ha hb h => ?_) both
    obtain ⟨x, ex, _⟩ := nn a ha
    obtain ⟨y, ey, _⟩ := nn b hb
    have h1 := h.1
    have h2 := h.2
    omega
  · constructor
    · intro hk
      obtain ⟨m, hm, e⟩ := List.mem_map.mp hk
      obtain ⟨y, ey, hy⟩ := nn m hm
      rw [ey] at e
      have : y = k := by rw [← e]; rfl
      exact this ▸ hy
    · intro hk
      have : ((k : Nat) : Int) ∈ ms := p.mem_iff.mpr (List.mem_map.mpr ⟨k, hk, rfl⟩)
      exact List.mem_map.mpr ⟨_, this, rfl⟩
end TW

set_option Elab.async false
set_option linter.all false
set_option maxRecDepth 100000
set_option maxHeartbeats 4000000
/-! DATA 4: the pairs of open ropes -/
namespace TW
open PySem L2 PyProof.Rows Gr
open RM (rowV byV byV_non byV_int)
end TW

set_option Elab.async false
set_option linter.all false
set_option maxRecDepth 100000
/-! EXTENSION 16: list(reversed(xs)), list(range(a, b)) -/
namespace L2
open PySem PySem.Calls PySem.Spec PyProof.Rows PyProof.V PySem.W
end L2
namespace L2
open PySem PySem.Calls PySem.Spec PyProof.Rows PyProof.V PySem.W
end L2

set_option Elab.async false
set_option linter.all false
set_option maxRecDepth 100000
set_option maxHeartbeats 4000000
/-! DATA 5: one way at most where ropes hold no ring -/
namespace Gr
end Gr
namespace TW
open PySem L2 PyProof.Rows Gr
end TW

set_option Elab.async false
set_option linter.all false
set_option maxRecDepth 100000
/-! EXTENSION 17: list(range(a, b)) -/
namespace L2
open PySem PySem.Calls PySem.Spec PyProof.Rows PyProof.V PySem.W
end L2
namespace TW
open PySem L2 PyProof.Rows Gr
end TW

set_option Elab.async false
set_option linter.all false
set_option maxRecDepth 100000
/-! strands: the wires that stand -/
namespace TW
open PySem L2 PyProof.Rows
end TW

set_option Elab.async false
set_option linter.all false
set_option maxRecDepth 100000
/-! EXTENSION 18: any -/
namespace L2
open PySem PySem.Spec PyProof.Rows
end L2

set_option Elab.async false
set_option linter.all false
set_option maxRecDepth 100000
/-! live ropes by strands; two sets of strands -/
namespace TW
open PySem L2 PyProof.Rows
end TW

set_option Elab.async false
set_option linter.all false
set_option maxRecDepth 100000
namespace TW
open PySem L2 PyProof.Rows
end TW

set_option Elab.async false
set_option linter.all false
set_option maxRecDepth 100000
/-! EXTENSION 19: isinstance of own instances, a def of a class called by the class's name, one of several readings -/
namespace L2
open PySem PySem.Spec PyProof.Rows
end L2

set_option Elab.async false
set_option linter.all false
set_option maxRecDepth 100000
/-! letters -/
namespace TW
open PySem L2 PyProof.Rows
end TW

set_option Elab.async false
set_option linter.all false
set_option maxRecDepth 100000
/-! EXTENSION 20: what the sort of fewer than 64 items makes, by any order that is asked -/
namespace L2
open PySem PySem.W PyProof.Rows
section
variable {n : Nat} {r : Nat → Int} {cmp : Nat → Nat → (Bool → Shared → Prop) → Shared → Prop} {s : Shared}
variable (hc : ∀ i j C, i < n → j < n → C (decide (r i < r j)) s → cmp i j C s)
include hc
end
end L2

set_option Elab.async false
set_option linter.all false
set_option maxRecDepth 100000
/-! EXTENSION 21: sorted of a list of triples of ints -/
namespace L2
open PySem PySem.W PySem.Spec PyProof.Rows
end L2

set_option Elab.async false
set_option linter.all false
set_option maxRecDepth 100000
/-! EXTENSION 22: the items of a dict whose keys are tuples -/
namespace L2
open PySem PySem.W PySem.Spec PyProof.Rows
/-! ### the machine's own steps, for any dict -/
end L2

set_option Elab.async false
set_option linter.all false
set_option maxRecDepth 100000
/-! EXTENSION 23: for k, v in d.items() -/
namespace L2
open PySem PySem.W PySem.Spec PyProof.Rows
end L2

set_option Elab.async false
set_option linter.all false
set_option maxRecDepth 100000
namespace L2
end L2
/-! notes -/
namespace TW
open PySem L2 PyProof.Rows
/-! two books -/
end TW

set_option Elab.async false
set_option linter.all false
set_option maxRecDepth 100000
/-! EXTENSION 24: a walk over the keys of a dict whose keys are tuples -/
namespace L2
open PySem PySem.W PySem.Spec PyProof.Rows
end L2

set_option Elab.async false
set_option linter.all false
set_option maxRecDepth 100000
/-! comprehensions whose items are flat; what a house does with a letter -/
namespace TW
open PySem L2 PyProof.Rows
/-! a rope or None -/
end TW

set_option Elab.async false
set_option linter.all false
set_option maxRecDepth 100000
/-! texts: joined and split -/
namespace TX
open PySem PySem.StrLaws PySem.Builtin PySem.Builtin.Str
abbrev cs (x : Str) : List Nat := x.cps.toList
end TX

set_option Elab.async false
set_option linter.all false
set_option maxRecDepth 100000
/-! numbers as they are written -/
namespace TX
open PySem PySem.StrLaws PySem.Builtin PySem.Builtin.Str PySem.NumText
end TX

set_option Elab.async false
set_option linter.all false
set_option maxRecDepth 100000
/-! a town's text -/
namespace TX
open PySem PySem.StrLaws PySem.Builtin PySem.Builtin.Str
end TX

set_option Elab.async false
set_option linter.all false
set_option maxRecDepth 100000
/-! EXTENSION 25: texts: split, join, int of a text, a walk over a text's signs -/
namespace L2
open PySem PySem.W PySem.Spec PyProof.Rows
end L2

set_option Elab.async false
set_option linter.all false
set_option maxRecDepth 100000
/-! EXTENSION 27: zip of two tuples -/
namespace L2
open PySem PySem.W PySem.Spec PyProof.Rows
end L2

set_option Elab.async false
set_option linter.all false
set_option maxRecDepth 100000
/-! EXTENSION 26: xs[::-1] -/
namespace L2
open PySem PySem.W PySem.Spec PyProof.Rows
end L2

set_option Elab.async false
set_option linter.all false
set_option maxRecDepth 100000
/-! lists of texts, lists of tuples of numbers -/
namespace TW
open PySem L2 PyProof.Rows
end TW

set_option Elab.async false
set_option linter.all false
set_option maxRecDepth 100000
/-! a net in the heap: what lies where -/
namespace TW
open PySem L2 PyProof.Rows
inductive Role where
  | net | strands | upright | wires (i : Nat) | rowsO | rows (g : Nat) | booksO | book (g : Nat) | notes (g : Nat)
  | homes | groups | handedO | handed (c : Nat) | letters | posted (i : Nat) | letter (i : Nat) | done (i : Nat) | deeds (i : Nat) | copies
  deriving DecidableEq
/-! what a net holds -/
/-! building a net: stage by stage -/
end TW

set_option Elab.async false
set_option linter.all false
set_option maxRecDepth 100000
/-! what is read of a net -/
namespace TW
open PySem L2 PyProof.Rows
end TW
namespace TW
open PySem L2 PyProof.Rows
end TW

set_option Elab.async false
set_option linter.all false
set_option maxRecDepth 100000
/-! what lies beside the nets -/
namespace TW
open PySem L2 PyProof.Rows
end TW

set_option Elab.async false
set_option linter.all false
set_option maxRecDepth 100000
/-! EXTENSION 28: a def whose last parameter has a default -/
namespace L2
open PySem PySem.Spec PyProof.Rows
end L2

set_option Elab.async false
set_option linter.all false
set_option maxRecDepth 100000
/-! a net with letters: one change each -/
namespace TW
open PySem L2 PyProof.Rows
end TW

set_option Elab.async false
set_option linter.all false
set_option maxRecDepth 100000
/-! a letter is posted: four new places -/
namespace TW
open PySem L2 PyProof.Rows
end TW

set_option Elab.async false
set_option linter.all false
set_option maxRecDepth 100000
/-! EXTENSION 29: a block [..] whose item may raise -/
namespace L2
open PySem PySem.Spec PyProof.Rows

/-! ### an exception that leaves a def, whatever its mark -/

/-! ### an item that may raise -/

end L2

set_option Elab.async false
set_option linter.all false
set_option maxRecDepth 100000
/-! EXTENSION 30: slices of texts, a text many times, try with an if in it -/
namespace L2
open PySem PySem.Spec PyProof.Rows PySem.Builtin PySem.Builtin.Str
end L2
namespace TX
open PySem PySem.Builtin PySem.Builtin.Str
end TX

set_option Elab.async false
set_option linter.all false
set_option maxRecDepth 100000
/-! which texts are read -/
namespace TX
open PySem PySem.StrLaws PySem.Builtin PySem.Builtin.Str
/-! ### what is read has a form -/
/-! ### signs and blanks -/
/-! ### what is not read -/
end TX

set_option Elab.async false
set_option linter.all false
set_option maxRecDepth 100000
/-! EXTENSION 31: sorted(set(list of ints)): the table of a set -/
namespace ST
open PySem
def Inc (xs : Array Nat) : Prop := xs.toList.Pairwise (· < ·)
theorem inc_get {xs : Array Nat} (h : Inc xs) {i j : Nat} (hij : i < j) {a b : Nat} (ha : xs.toList[i]? = some a) (hb : xs.toList[j]? = some b) : a < b := by
  obtain ⟨hi, rfl⟩ := List.getElem?_eq_some_iff.mp ha
  obtain ⟨hj, rfl⟩ := List.getElem?_eq_some_iff.mp hb
  exact List.pairwise_iff_getElem.mp h i j hi hj hij
def Cut (xs : Array Nat) (j p : Nat) : Prop := p ≤ xs.size ∧ (∀ i x, i < p → xs.toList[i]? = some x → x < j) ∧ ∀ i x, p ≤ i → xs.toList[i]? = some x → j ≤ x
theorem go_cut {xs : Array Nat} (h : Inc xs) (j : Nat) : ∀ (fuel lo hi : Nat), lo ≤ hi → hi ≤ xs.size → hi - lo ≤ fuel → (∀ i x, i < lo → xs.toList[i]? = some x → x < j) → (∀ i x, hi ≤ i → xs.toList[i]? = some x → j ≤ x) → Cut xs j (SetTable.below.go xs j fuel lo hi)
  | 0, lo, hi, h1, h2, h3, h4, h5 => by
    have : lo = hi := by omega
    subst this
    exact ⟨h2, h4, h5⟩
  | fuel + 1, lo, hi, h1, h2, h3, h4, h5 => by
    unfold SetTable.below.go
    by_cases hlt : lo < hi
    · rw [if_pos hlt]
      dsimp only
      have hm : (lo + hi) / 2 < xs.size := by omega
      have em : xs.toList[(lo + hi) / 2]? = some (xs.getD ((lo + hi) / 2) j) := by
        rw [Array.getElem?_toList, Array.getElem?_eq_getElem hm, Array.getD_eq_getD_getElem?, Array.getElem?_eq_getElem hm]
        rfl
      by_cases hc : xs.getD ((lo + hi) / 2) j < j
      · rw [if_pos hc]
        refine go_cut h j fuel _ _ (by omega) h2 (by omega) (fun i x hi' hx => ?_) h5
        by_cases e : i = (lo + hi) / 2
        · subst e
          rw [em] at hx
          cases hx
          exact hc
        · exact Nat.lt_trans (inc_get h (show i < (lo + hi) / 2 by omega) hx em) hc
      · rw [if_neg hc]
        refine go_cut h j fuel _ _ (by omega) (by omega) (by omega) h4 (fun i x hi' hx => ?_)
        by_cases e : i = (lo + hi) / 2
        · subst e
          rw [em] at hx
          cases hx
          omega
        · exact Nat.le_trans (by omega) (Nat.le_of_lt (inc_get h (show (lo + hi) / 2 < i by omega) em hx))
    · rw [if_neg hlt]
      have : lo = hi := by omega
      subst this
      exact ⟨h2, h4, h5⟩
theorem below_cut {xs : Array Nat} (h : Inc xs) (j : Nat) : Cut xs j (SetTable.below xs j) :=
  go_cut h j xs.size 0 xs.size (Nat.zero_le _) (Nat.le_refl _) (by omega) (fun i x hi => absurd hi (Nat.not_lt_zero _)) (fun i x hi hx => by
    have := (List.getElem?_eq_some_iff.mp hx).1
    rw [Array.length_toList] at this
    omega)
theorem cut_eq {xs : Array Nat} {j p q : Nat} (hp : Cut xs j p) (hq : Cut xs j q) : p = q := by
  rcases Nat.lt_trichotomy p q with h | h | h
  · have hl : p < xs.toList.length := by rw [Array.length_toList]; have := hq.1; omega
    have a := hq.2.1 p _ h (List.getElem?_eq_getElem hl)
    have b := hp.2.2 p _ (Nat.le_refl _) (List.getElem?_eq_getElem hl)
    omega
  · exact h
  · have hl : q < xs.toList.length := by rw [Array.length_toList]; have := hp.1; omega
    have a := hp.2.1 q _ h (List.getElem?_eq_getElem hl)
    have b := hq.2.2 q _ (Nat.le_refl _) (List.getElem?_eq_getElem hl)
    omega
/-- behind the place of an item stands the next one -/
theorem below_next {xs : Array Nat} (h : Inc xs) {i x : Nat} (hx : xs.toList[i]? = some x) : SetTable.below xs (x + 1) = i + 1 := by
  refine cut_eq (below_cut h _) ⟨?_, fun k y hk hy => ?_, fun k y hk hy => ?_⟩
  · have := (List.getElem?_eq_some_iff.mp hx).1
    rw [Array.length_toList] at this
    omega
  · by_cases e : k = i
    · subst e; rw [hx] at hy; cases hy; omega
    · have := inc_get h (show k < i by omega) hy hx
      omega
  · have := inc_get h (show i < k by omega) hx hy
    omega
theorem below_zero {xs : Array Nat} (h : Inc xs) : SetTable.below xs 0 = 0 :=
  cut_eq (below_cut h _) ⟨Nat.zero_le _, fun i x hi => absurd hi (Nat.not_lt_zero _), fun i x _ _ => Nat.zero_le _⟩
theorem insertAt_toList {α : Type} (xs : Array α) (p : Nat) (x : α) : (SetTable.insertAt xs p x).toList = xs.toList.take p ++ x :: xs.toList.drop p := by
  unfold SetTable.insertAt
  simp only [Array.toList_append, Array.toList_push, Array.toList_extract, List.append_assoc]
  simp only [List.extract, List.drop_zero, Nat.sub_zero]
  rw [List.take_of_length_le (l := xs.toList.drop p) (by rw [List.length_drop, Array.length_toList]; exact Nat.le_refl _)]
  rfl
theorem inc_put {xs : Array Nat} (h : Inc xs) {j : Nat} (hj : xs[SetTable.below xs j]? ≠ some j) : Inc (SetTable.insertAt xs (SetTable.below xs j) j) := by
  obtain ⟨h1, h2, h3⟩ := below_cut h j
  generalize SetTable.below xs j = p at h1 h2 h3 hj
  unfold Inc
  rw [insertAt_toList, List.pairwise_append]
  have gt : ∀ b ∈ xs.toList.drop p, j < b := fun b hb => by
    obtain ⟨i, hi, rfl⟩ := List.getElem_of_mem hb
    rw [List.length_drop] at hi
    have e : xs.toList[p + i]? = some (xs.toList.drop p)[i] := by rw [List.getElem_drop, List.getElem?_eq_getElem]
    have h4 := h3 (p + i) _ (by omega) e
    rcases Nat.lt_or_eq_of_le h4 with h5 | h5
    · exact h5
    · exfalso
      by_cases h0 : i = 0
      · subst h0
        rw [← h5] at e
        rw [Nat.add_zero, Array.getElem?_toList] at e
        exact hj e
      · have hp : p < xs.toList.length := by omega
        have ep : xs.toList[p]? = some xs.toList[p] := List.getElem?_eq_getElem hp
        have a := h3 p _ (Nat.le_refl _) ep
        have b := inc_get h (show p < p + i by omega) ep e
        omega
  refine ⟨h.sublist (List.take_sublist ..), List.pairwise_cons.mpr ⟨gt, h.sublist (List.drop_sublist ..)⟩, fun a ha b hb => ?_⟩
  have ha' : a < j := by
    obtain ⟨i, hi, rfl⟩ := List.getElem_of_mem ha
    rw [List.length_take] at hi
    exact h2 i _ (by omega) (by rw [List.getElem_take, List.getElem?_eq_getElem])
  rcases List.mem_cons.mp hb with e | hb
  · rw [e]; exact ha'
  · exact Nat.lt_trans ha' (gt b hb)
theorem inc_range (n : Nat) : Inc (Array.range n) := by
  unfold Inc
  rw [Array.toList_range]
  exact List.pairwise_lt_range
theorem inc_laid {owner : Array (Option Nat)} {n : Nat} : Inc (((List.range n).filterMap fun j => (owner.getD j none).map (j, ·)).map (·.1)).toArray := by
  unfold Inc
  rw [List.toList_toArray]
  have e : ∀ l : List Nat, (l.filterMap fun j => (owner.getD j none).map (j, ·)).map (·.1) = l.filter fun j => (owner.getD j none).isSome := fun l => by
    induction l with
    | nil => rfl
    | cons a l ih =>
      rw [List.filterMap_cons, List.filter_cons]
      cases owner.getD a none with
      | none => exact ih
      | some k =>
        show a :: _ = _
        rw [ih]
        rfl
  rw [e]
  exact List.pairwise_lt_range.sublist List.filter_sublist

/-- what a set of ints keeps of its table -/
structure Tb (led : Bool) (t : SetTable) : Prop where
  inc : Inc t.place
  dum : t.dummies = #[]
  ld : t.led = led
theorem Tb.fresh (f m : Nat) (led : Bool) : Tb led (.fresh f m led) := ⟨List.Pairwise.nil, rfl, rfl⟩
theorem Tb.standIn {led : Bool} {t : SetTable} (h : Tb led t) (n : Nat) : Tb led (t.standIn n) := ⟨inc_range n, rfl, h.ld⟩
theorem Tb.plainOff {led : Bool} {t : SetTable} (h : Tb led t) : Tb led { t with plain := false } := ⟨h.inc, h.dum, h.ld⟩
theorem Tb.slot {led : Bool} {t : SetTable} (h : Tb led t) (j : Nat) : t.slot j = .empty ∨ ∃ i, t.slot j = .live i := by
  unfold SetTable.slot
  dsimp only
  split
  · exact .inr ⟨_, rfl⟩
  · rw [h.dum]
    left
    rw [if_neg]
    unfold SetTable.has
    simp
theorem Tb.empty {led : Bool} {t : SetTable} (h : Tb led t) {j : Nat} (e : t.slot j = .empty) : t.place[SetTable.below t.place j]? ≠ some j := by
  intro z
  unfold SetTable.slot at e
  dsimp only at e
  rw [if_pos (by rw [z]; simp)] at e
  cases e
theorem Tb.probe {led : Bool} {t : SetTable} (h : Tb led t) {f : Nat → Int} {hh : Int} {j : Nat} {dm : Option Nat} : ∀ (fuel : Nat) (p : SetTable.Probe), p.dummy = none → SetTable.probe.go t f hh fuel p = some (.empty j dm) → dm = none ∧ t.slot j = .empty
  | 0, _, _, e => by cases e
  | fuel + 1, p, hp, e => by
    have adv : ∀ q : SetTable.Probe, (t.advance q).dummy = q.dummy := fun q => by
      unfold SetTable.advance
      split <;> rfl
    unfold SetTable.probe.go at e
    rcases h.slot p.j with z | ⟨i, z⟩
    · rw [z] at e
      cases e
      exact ⟨hp, z⟩
    · rw [z] at e
      dsimp only at e
      split at e
      · cases e
      · exact h.probe fuel _ (by rw [adv]; exact hp) e
theorem Tb.free {led : Bool} {t : SetTable} (h : Tb led t) {hh : Int} {j : Nat} {b : Bool} (e : t.freeSlot hh = some (j, b)) : b = false ∧ t.slot j = .empty := by
  unfold SetTable.freeSlot at e
  split at e
  · rename_i j' dm q
    obtain ⟨h1, h2⟩ := h.probe _ _ rfl q
    subst h1
    cases e
    exact ⟨rfl, h2⟩
  · cases e
theorem Tb.put {led : Bool} {t : SetTable} (h : Tb led t) {j : Nat} (e : t.slot j = .empty) : Tb led (t.put j).1 := by
  unfold SetTable.put
  dsimp only
  refine ⟨inc_put h.inc (h.empty e), ?_, h.ld⟩
  rw [h.dum]
  rw [if_neg (by unfold SetTable.has; simp)]
theorem Tb.orStandIn {led : Bool} {t : SetTable} (h : Tb led t) (n : Nat) : Tb led (t.orStandIn n) := by
  unfold SetTable.orStandIn
  split
  · exact h
  · exact h.standIn n
theorem Tb.layNew {led : Bool} {t : SetTable} (h : Tb led t) (es : Array (Int × Value)) (hh : Int) (x : Value) : Tb led (layNew t es hh x).2.1 := by
  unfold PySem.layNew
  split
  · rename_i slot wd q
    exact (h.put (h.free q).2).orStandIn _
  · exact h.standIn _
theorem Tb.relayAll {led : Bool} {t : SetTable} (h : Tb led t) (es : Array (Int × Value)) (n : Nat) : Tb led (relayAll t es n).2.1 := by
  unfold PySem.relayAll
  split
  · rename_i t' order q
    dsimp only
    split
    · unfold SetTable.relaid SetTable.laid at q
      simp only [Option.bind_eq_bind, Option.bind_eq_some_iff, Option.pure_def, Option.some.injEq, Prod.mk.injEq] at q
      obtain ⟨owner, _, rfl, _⟩ := q
      exact ⟨inc_laid, rfl, h.ld⟩
    · exact h.standIn _
  · exact h.standIn _
end ST

set_option Elab.async false
set_option linter.all false
set_option maxRecDepth 100000
/-! EXTENSION 32: a set of ints is built, its table known -/
namespace ST
open PySem PyProof.Rows
section
variable {prog : Program} {w : World} {A : Around} {E : Value → Shared → Prop} {s : Shared}
/-- the entries of a set of ints: S tells which, n how many, the table is kept -/
structure Ents (prog : Program) (w : World) (led : Bool) (S : Int → Bool) (n : Nat) (es : Array (Int × Value)) (t : SetTable) : Prop where
  el : ElemsOf (intKind prog w) es.toList
  me : ∀ k, S k = true ↔ ∃ e ∈ es.toList, (intKind prog w).is k e.2 = true
  bd : es.size < scanBound
  ft : t.fits es.size = true
  sz : es.size = n
  tb : Tb led t
def SetT (prog : Program) (w : World) (led : Bool) (h : Heap) (a : Addr) (S : Int → Bool) (n : Nat) : Prop :=
  ∃ o es ep t, h.get? a = some o ∧ o.ExactSet ∧ o.data = .set es ep t ∧ Ents prog w led S n es t
theorem SetT.keep {led : Bool} {h h' : Heap} {a : Addr} {S : Int → Bool} {n : Nat} (q : SetT prog w led h a S n) (k : ∀ o, h.get? a = some o → h'.get? a = some o) : SetT prog w led h' a S n := by
  obtain ⟨o, es, ep, t, ho, r⟩ := q
  exact ⟨o, es, ep, t, k o ho, r⟩
theorem SetT.cast {led : Bool} {h : Heap} {a : Addr} {S S' : Int → Bool} {n n' : Nat} (q : SetT prog w led h a S n) (e1 : ∀ k, S k = S' k) (e2 : n = n') : SetT prog w led h a S' n' := by
  have : S = S' := funext e1
  subst this
  subst e2
  exact q
theorem setT_store {led : Bool} {h : Heap} {a : Addr} {o : Obj} {es es' : Array (Int × Value)} {ep : Nat} {t t' : SetTable} {S : Int → Bool} {n : Nat} (ho : h.get? a = some o) (hx : o.ExactSet) (hd : o.data = .set es ep t) (q : Ents prog w led S n es' t') :
    (h.update a (Obj.putSet es' t')).get? a = some { o with data := .set es' (ep + 1) t' } ∧ SetT prog w led (h.update a (Obj.putSet es' t')) a S n := by
  have g := Heap.get?_update_self (Obj.putSet es' t') ho (by rw [putSet_of es' t' hd]; rfl)
  rw [putSet_of es' t' hd] at g
  exact ⟨g, _, es', ep + 1, t', g, hx, rfl, q⟩
/-- one more int -/
theorem add_tb {a : Addr} {led : Bool} {S : Int → Bool} {n : Nat} {k : Int} {x : Value} {Q : Bool → Shared → Prop} (hk : (intKind prog w).is k x = true) (hs : x.scannable = true) (q : SetT prog w led s.heap a S n) (room : n + 1 < scanBound)
    (fin : ∀ b h', Heap.SameBut a s.heap h' → SetT prog w led h' a (fun k' => S k' || decide (k' = k)) (if S k then n else n + 1) → Q b { s with heap := h' }) :
    wpAny (model prog w) A (setAddHashed a x ((intKind prog w).hash k)) Q E s := by
  obtain ⟨o, es, ep, t, ho, hx, hd, q⟩ := q
  unfold setAddHashed setAddHashedIn
  refine wpAny_holding (wpAny_bind (wpAny_setState_of ho hd q.ft ?_))
  dsimp only
  rw [if_pos (byScan_of hs q.bd q.el)]
  refine wpAny_bind ?_
  unfold setAddByScan
  refine wpAny_bind (wpAny_rule (wpAny_bind (wpAny_setScan_of hk ho hd q.ft q.el ?_)))
  cases hr : es.toList.findIdx? (fun e => (intKind prog w).is k e.2) with
  | some j =>
    dsimp only
    obtain ⟨hj, hp, _⟩ := List.findIdx?_eq_some_iff_getElem.mp hr
    have sk : S k = true := (q.me k).mpr ⟨es.toList[j], List.getElem_mem hj, hp⟩
    refine wpAny_pure (wpAny_pure ?_)
    refine fin false s.heap (.refl ..) ⟨o, es, ep, t, ho, hx, hd, q.el, fun k' => ?_, q.bd, q.ft, by rw [sk]; exact q.sz, q.tb⟩
    rw [Bool.or_eq_true, decide_eq_true_eq, ← q.me k']
    exact ⟨fun z => z.elim id fun e => e ▸ sk, .inl⟩
  | none =>
    dsimp only
    have sk : S k = false := by
      cases z : S k with
      | false => rfl
      | true =>
        obtain ⟨e, he, hp⟩ := (q.me k).mp z
        have := List.findIdx?_eq_none_iff.mp hr e he
        rw [hp] at this
        cases this
    have pm := layNew_perm t es ((intKind prog w).hash k) x
    have fi := layNew_fits t es ((intKind prog w).hash k) x
    have tb := q.tb.layNew es ((intKind prog w).hash k) x
    generalize layNew t es ((intKind prog w).hash k) x = L at pm fi tb
    obtain ⟨es1, t1, wd, gave⟩ := L
    dsimp only at pm fi tb ⊢
    rw [Array.toList_push] at pm
    have len1 : es1.size = n + 1 := by
      rw [← Array.length_toList, pm.length_eq, List.length_append, Array.length_toList, q.sz]
      rfl
    have gw : ∀ (b : Bool) {s1 : Shared} {Q' : Unit → Shared → Prop}, Q' () s1 → wpAny (model prog w) A (match b with | true => rule "set.scan.the-table-gave-way" | false => pure ()) Q' E s1 := fun b s1 Q' z => by
      cases b
      · exact wpAny_pure z
      · exact wpAny_rule z
    have ents : ∀ t2 : SetTable, t2.fits es1.size = true → Tb led t2 → Ents prog w led (fun k' => S k' || decide (k' = k)) (n + 1) es1 t2 := fun t2 f2 b2 =>
      ⟨(q.el.push hk hs).perm pm, mem_push_iff hk q.me pm, by rw [len1]; exact room, f2, len1, b2⟩
    have tail : ∀ t2 : SetTable, t2.fits es1.size = true → Tb led t2 → wpAny (model prog w) A (do
        storeSet a es1 t2
        if (!wd && t2.tooFull) = true then do
            (match (relayAll t2 es1 (SetTable.grown es1.size)).2.2 with | true => rule "set.scan.the-table-gave-way" | false => pure ())
            storeSet a (relayAll t2 es1 (SetTable.grown es1.size)).1 (relayAll t2 es1 (SetTable.grown es1.size)).2.1
            pure (some true)
          else pure (some true)) (fun r s1 => wpAny (model prog w) A (match r with | some added => pure added | none => setAddHashedIn a x ((intKind prog w).hash k) 99999) Q E s1) E s := fun t2 f2 b2 => by
      have e1 := ents t2 f2 b2
      refine wpAny_bind (wpAny_storeSet_of ho hd ?_ (fits_of_scanBound e1.bd))
      obtain ⟨g1, q1⟩ := setT_store ho hx hd e1
      have sb1 := Heap.SameBut.update s.heap a (Obj.putSet es1 t2)
      split
      · have pm2 := relayAll_perm t2 es1 (SetTable.grown es1.size)
        have fi2 := relayAll_fits t2 es1 (SetTable.grown es1.size)
        have tb2 := b2.relayAll es1 (SetTable.grown es1.size)
        generalize relayAll t2 es1 (SetTable.grown es1.size) = R at pm2 fi2 tb2
        obtain ⟨es2, t3, gave2⟩ := R
        dsimp only at pm2 fi2 tb2 ⊢
        have len2 : es2.size = es1.size := by rw [← Array.length_toList, pm2.length_eq, Array.length_toList]
        have e2 : Ents prog w led (fun k' => S k' || decide (k' = k)) (n + 1) es2 t3 :=
          ⟨e1.el.perm pm2, fun k' => (e1.me k').trans ⟨fun ⟨e, he, z⟩ => ⟨e, pm2.mem_iff.mpr he, z⟩, fun ⟨e, he, z⟩ => ⟨e, pm2.mem_iff.mp he, z⟩⟩, by rw [len2]; exact e1.bd, fi2, by rw [len2]; exact len1, tb2⟩
        refine wpAny_bind (gw gave2 (wpAny_bind (wpAny_storeSet_of g1 rfl ?_ (fits_of_scanBound e2.bd))))
        obtain ⟨g2, q2⟩ := setT_store g1 hx rfl e2
        refine wpAny_pure (wpAny_pure (fin true _ (sb1.trans (Heap.SameBut.update _ a _)) ?_))
        rw [sk]
        exact q2
      · refine wpAny_pure (wpAny_pure (fin true _ sb1 ?_))
        rw [sk]
        exact q1
    refine wpAny_bind (gw gave ?_)
    split
    · rw [hashByValue_scannable 8 hs]
      refine wpAny_bind (wpAny_pure ?_)
      refine tail _ ?_ ?_
      · split
        · exact fi
        · exact SetTable.fits_plain_off fi
      · split
        · exact tb
        · exact tb.plainOff
    · refine wpAny_bind (wpAny_pure ?_)
      exact tail _ fi tb
end
end ST

set_option Elab.async false
set_option linter.all false
set_option maxRecDepth 100000
/-! EXTENSION 33: set(list of ints), its table known -/
namespace ST
open PySem PyProof.Rows
section
variable {prog : Program} {w : World} {A : Around} {R : Result → Shared → Prop} {I : Addr} {fp wr : List Addr} {G : Array GenState → Array GenState → Prop} {n : Nat} {P : Nat → Value → Prop} {St : Nat → Shared → Prop}
/-- the loop that fills it -/
theorem fill_tb (W : WalksS prog w A.in1 I fp wr G n P St) (a : Addr) (hf : a ∉ fp) (led : Bool) (val : Nat → Int) (hv : ∀ i v, P i v → ∃ t, v = .int (val i) t) (hb : n + 1 < scanBound) :
    ∀ (k i : Nat) (s : Shared), n - i = k → i ≤ n → St i s → SetT prog w led s.heap a (fun k' => (firstMet val i).any (· == k')) (firstMet val i).length →
      (∀ s', Moved (a :: wr) G s s' → SetT prog w led s'.heap a (fun k' => (firstMet val n).any (· == k')) (firstMet val n).length → R (.ok (.ret .none)) s') →
      codeAny (model prog w) A (.builtin "set.update.loop" ⟨[.ref a, .ref I], []⟩) R s
  | 0, i, s, hk, hi, st, q, fin => by
    obtain rfl : i = n := by omega
    have aw : a ∉ wr := fun z => hf (W.sub _ z)
    refine codeAny_builtin F.entry_set_update_loop ?_
    rw [Around.under_plainId F.plain_set_update_loop _]
    refine wpAny_bind (m := pyNext (.ref I)) (W.done s _ _ st fun s' mv => ?_)
    exact wpAny_pure (fin s' (mv.mono fun b z => List.mem_cons_of_mem _ z) (q.keep fun o e => mv.heap a _ aw e))
  | k + 1, i, s, hk, hi, st, q, fin => by
    have lt : i < n := by omega
    have aw : a ∉ wr := fun z => hf (W.sub _ z)
    refine codeAny_builtin F.entry_set_update_loop ?_
    rw [Around.under_plainId F.plain_set_update_loop _]
    refine wpAny_bind (m := pyNext (.ref I)) (W.item i s _ _ lt st fun v s' hP st' mv => ?_)
    obtain ⟨t, rfl⟩ := hv i v hP
    have q' : SetT prog w led s'.heap a (fun k' => (firstMet val i).any (· == k')) (firstMet val i).length := q.keep fun o e => mv.heap a _ aw e
    refine wpAny_bind (m := holding [Value.int (val i) t] (setAdd a (.int (val i) t))) (wpAny_holding ?_)
    unfold setAdd
    refine wpAny_holding (wpAny_bind ((intKind prog w).pyHash (k := val i) (intKind_is _ _ _ _) ?_))
    have room : (firstMet val i).length + 1 < scanBound := by
      have := firstMet_length_le val i
      omega
    refine add_tb (s := { s' with toks := s'.toks + 1 }) (intKind_is _ _ _ _) rfl q' room fun b h' sb q2 => ?_
    have q3 : SetT prog w led h' a (fun k' => (firstMet val (i + 1)).any (· == k')) (firstMet val (i + 1)).length :=
      q2.cast (fun k' => by rw [firstMet_succ, step_any]) (by rw [firstMet_succ, step_length])
    refine wpAny_pure ⟨plainId_quiet F.plain_set_update_loop _, fill_tb W a hf led val hv hb k (i + 1) _ (by omega) lt (W.frame _ s' _ _ st' (Nat.le_succ _) fun c hc o e => ?_) q3 fun s2 mv2 q4 => ?_⟩
    · exact (sb.2 c fun z => hf (z ▸ hc)).trans e
    · refine fin s2 (Moved.trans W.gtrans ((mv.mono fun b z => List.mem_cons_of_mem _ z).then_heap (Nat.le_succ _) fun c o hc e => ?_) mv2) q4
      exact (sb.2 c fun z => hc (by rw [z]; exact List.mem_cons_self)).trans e
end
section
variable {prog : Program} {w : World} {A : Around} {E : Value → Shared → Prop} {s : Shared}
abbrev ledOf (w : World) : Bool := !w.params.followText "set-order"
abbrev newSetO (w : World) : Obj := { cls := .type "set", dict := none, data := .set #[] 0 (.fresh 0 0 (ledOf w)) }
theorem new_tb (a : Value) {Q : Value → Shared → Prop} (h : Q (.ref s.heap.objs.size) { s with heap := s.heap.push (newSetO w) }) :
    codeAny (model prog w) A (.call (.builtin "set.__new__") ⟨[.type "set", a], []⟩) (wants Q E) s := by
  refine codeAny_of_tree ?_
  refine wpAny_bind (m := checkBuiltinCall "set.__new__" ⟨[.type "set", a], []⟩) (wpAny_of_eq (F.newCall_set_1 a) (wpAny_pure ⟨plainId_quiet F.plain_set_new _, codeAny_builtin F.entry_set_new ?_⟩))
  rw [Around.under_plainId F.plain_set_new _]
  unfold Builtin.«set.__new__» Builtin.Frozenset.newClass
  have hsub := sub_set_self
  obtain ⟨hp, g, d, tk, os⟩ := s
  dsimp only
  wp_walk
  refine wpAny_askSetting (wpAny_pure ?_)
  dsimp only
  simp only [newObj]
  refine wpAny_bind (wpAny_alloc (wpAny_pure ?_))
  exact wpAny_pure h
end
end ST

set_option Elab.async false
set_option linter.all false
set_option maxRecDepth 100000
/-! EXTENSION 34: the call set(list of ints), its table known -/
namespace ST
open PySem PyProof.Rows
section
variable {prog : Program} {w : World} {A : Around} {E : Value → Shared → Prop} {s : Shared}
/-- what stands behind it: the set at a new place, all else as it was -/
def Filled (prog : Program) (w : World) (h h' : Heap) (ns : List Int) (m : Nat) : Prop :=
  SetT prog w (ledOf w) h' h.objs.size (fun k' => (firstMet (fun i => ns.getD i 0) m).any (· == k')) (firstMet (fun i => ns.getD i 0) m).length ∧ ∀ b o, b < h.objs.size → h.get? b = some o → h'.get? b = some o
set_option maxHeartbeats 4000000 in
theorem init_tb {l : Addr} {items : Array Value} {ns : List Int} (hh : A.handled = none) (hl : s.heap.IsList l items) (hi : IntsAre items.toList ns) (hb : items.size + 1 < scanBound) :
    codeAny (model prog w) A (.call (.builtin "set.__init__") ⟨[.ref s.heap.objs.size, .ref l], []⟩) (wants (fun r s2 => r = .none ∧ ∃ h' tk, s2 = { s with heap := h', toks := tk } ∧ Filled prog w s.heap h' ns items.size) E) { s with heap := s.heap.push (newSetO w) } := by
  have hS : (s.heap.push (newSetO w)).get? s.heap.objs.size = some (newSetO w) := Heap.get?_push_size _ rfl
  have hT : Shared.TypeIs { s with heap := s.heap.push (newSetO w) } (.ref s.heap.objs.size) "set" := ⟨_, hS, rfl⟩
  refine codeAny_call_builtin F.called_set.init.plain F.entry_set_init (check_set_init_1 hT ?_)
  obtain ⟨⟨oc, od, oda, osl⟩, ho, hc, nl, hd⟩ := hl
  simp only at hc hd
  subst hc
  subst hd
  have ho2 : (s.heap.push (newSetO w)).get? l = some { cls := .type "list", dict := od, data := .seq items nl, slots := osl } := Heap.get?_push_of_some _ ho
  have hsls := F.sub_list_set
  have hslf := F.sub_list_frozenset
  have hne : (Value.type "list" == Value.type "dict") = false := by decide
  have hl1 : (s.heap.push (newSetO w)).IsList l items := ⟨_, ho2, rfl, nl, rfl⟩
  unfold Builtin.«set.__init__» noKeywords Builtin.Frozenset.updateFrom
  generalize hPI : pyIter = PI
  wp_walk
  subst hPI
  refine wpAny_pyIter_list hl1 ?_
  refine wpAny_bind (wpAny_runValue ?_)
  have lt : l < s.heap.objs.size := Heap.lt_size ho
  have ne1 : l ≠ (s.heap.push (newSetO w)).objs.size := by
    rw [Heap.size_push]
    exact Nat.ne_of_lt (Nat.lt_succ_of_lt lt)
  have nin : s.heap.objs.size ∉ [(s.heap.push (newSetO w)).objs.size, l] := by
    rw [Heap.size_push]
    intro z
    rcases List.mem_cons.mp z with z | z
    · exact absurd z (Nat.ne_of_lt (Nat.lt_succ_self _))
    · exact absurd (List.mem_singleton.mp z) (Nat.ne_of_gt lt)
  have hv : ∀ (i : Nat) (v : Value), items[i]? = some v → ∃ t, v = .int ((fun i => ns.getD i 0) i) t := fun i v e => IntsAre.int_at hi i v (by rw [Array.getElem?_toList]; exact e)
  refine fill_tb ((Walks.list (by simp [hh]) _ l ne1 items).toS) s.heap.objs.size nin (ledOf w) (fun i => ns.getD i 0) hv hb items.size 0 _ (by omega) (Nat.zero_le _) ⟨⟨_, Heap.get?_push_size _ rfl, rfl, rfl⟩, (hl1.push _)⟩ ?_ ?_
  · exact ⟨_, #[], 0, _, Heap.get?_push_of_some _ hS, ⟨rfl, rfl, rfl⟩, rfl, fun e he => by simp at he, fun k => by simp [firstMet], by decide, rfl, by simp [firstMet], Tb.fresh _ _ _⟩
  · intro s' mv q
    obtain ⟨h', g', d', tk', os'⟩ := s'
    obtain rfl : g' = s.gens := mv.gens
    obtain rfl : d' = s.drawn := mv.drawn
    obtain rfl : os' = s.os := mv.os
    show wpAny _ _ _ _ _ _
    refine wpAny_pure ?_
    refine wpAny_pure ⟨rfl, h', tk', rfl, q, fun b o hb e => ?_⟩
    refine mv.heap b o (fun z => ?_) (Heap.get?_push_of_some _ (Heap.get?_push_of_some _ e))
    rcases List.mem_cons.mp z with z | z
    · exact absurd z (Nat.ne_of_lt hb)
    · have z := List.mem_singleton.mp z
      rw [Heap.size_push] at z
      exact absurd z (Nat.ne_of_lt (Nat.lt_succ_of_lt hb))
set_option maxHeartbeats 4000000 in
theorem set_tb {l : Addr} {items : Array Value} {ns : List Int} {Q : Value → Shared → Prop} (hh : A.handled = none) (hl : s.heap.IsList l items) (hi : IntsAre items.toList ns) (hb : items.size + 1 < scanBound)
    (fin : ∀ (h' : Heap) (tk : Nat), Filled prog w s.heap h' ns items.size → Q (.ref s.heap.objs.size) { s with heap := h', toks := tk }) : wpAny (model prog w) A (call (.type "set") [.ref l]) Q E s := by
  obtain ⟨c, tl, hmro⟩ := F.called_set.mro
  have hmade := F.called_set.made
  have hsub := F.called_set.sub
  refine wpAny_call (codeAny_of_tree ?_)
  refine wpAny_pure ⟨Code.quiet_builtin _ (by decide +kernel), codeAny_builtin F.entry_type_call ?_⟩
  rw [Around.under_plain (weight_type_call_type "set" [.ref l] []) rfl]
  have h1 := F.called_set.notType
  have h2 := F.called_set.canCreate
  have hct := F.typeCall_set_1 (.ref l)
  repeat (any_goals (first | assumption | wp_step))
  refine codeAny_mono (new_tb (.ref l) (E := E) (Q := fun obj s1 => obj = .ref s.heap.objs.size ∧ s1 = { s with heap := s.heap.push (newSetO w) }) ⟨rfl, rfl⟩) fun r s1 hr => ?_
  cases r with
  | error e => exact hr
  | ok fl =>
    cases fl with
    | ret obj =>
      obtain ⟨rfl, rfl⟩ := hr
      have hS : (s.heap.push (newSetO w)).get? s.heap.objs.size = some (newSetO w) := Heap.get?_push_size _ rfl
      have hT : Shared.TypeIs { s with heap := s.heap.push (newSetO w) } (.ref s.heap.objs.size) "set" := ⟨_, hS, rfl⟩
      have hli := F.called_set.init.lookup
      have hbi := F.called_set.init.bind (.ref s.heap.objs.size)
      repeat (any_goals (first | assumption | wp_step))
      refine codeAny_mono (init_tb (E := E) (by simp [hh]) hl hi hb) fun r2 s2 hr2 => ?_
      cases r2 with
      | error e => exact hr2
      | ok fl2 =>
        cases fl2 with
        | ret r =>
          obtain ⟨rfl, h', tk, rfl, q⟩ := hr2
          repeat (any_goals (first | assumption | wp_step))
          exact fin h' tk q
        | _ => exact hr2.elim
    | _ => exact hr.elim
end
end ST

set_option Elab.async false
set_option linter.all false
set_option maxRecDepth 100000
/-! EXTENSION 35: a walk over a set of ints -/
namespace ST
open PySem PyProof.Rows
theorem own_si : Manifest.owners.lookup (String.ofList ['r', 'o', 't', 'a', 'r', 'e', 't', 'i', '_', 't', 'e', 's'].reverse) = some Manifest.sig_set_iterator := by kernel_rfl
theorem sl_next : Slot "set_iterator" "__next__" "set_iterator.__next__" := Slot.of (owner := "set_iterator") (n := "__next__") (by rw [typeLookup_type, builtinLookup_eq_fast]; kernel_rfl) (by decide +kernel) (by decide +kernel) (by decide +kernel) (by first | exact .inl (by decide +kernel) | exact .inr (by decide +kernel)) (by rw [isSubtype_type]; kernel_rfl)
theorem sl_iter : Slot "set_iterator" "__iter__" "set_iterator.__iter__" := Slot.of (owner := "set_iterator") (n := "__iter__") (by rw [typeLookup_type, builtinLookup_eq_fast]; kernel_rfl) (by decide +kernel) (by decide +kernel) (by decide +kernel) (by first | exact .inl (by decide +kernel) | exact .inr (by decide +kernel)) (by rw [isSubtype_type]; kernel_rfl)
theorem en_next : entryFor table "set_iterator.__next__" = some Builtin.«set_iterator.__next__» := entryFor_of_tree (by kernel_rfl)
theorem ar_next (a : Value) : argsOk "set_iterator.__next__" ⟨[a], []⟩ := by
  unfold argsOk
  rw [signature?_of (id := "set_iterator.__next__") (n := ['_', '_', 't', 'x', 'e', 'n', '_', '_']) (o := ['r', 'o', 't', 'a', 'r', 'e', 't', 'i', '_', 't', 'e', 's']) (by kernel_rfl) own_si]
  kernel_rfl
theorem en_iter : entryFor table "set.__iter__" = some Builtin.«frozenset.__iter__» := entryFor_alias (id' := "frozenset.__iter__") (by kernel_rfl) rfl (by decide +kernel) (by kernel_rfl)
section
variable {prog : Program} {w : World} {A : Around} {E : Value → Shared → Prop} {s : Shared}
/-- the set's object -/
structure At (h : Heap) (a : Addr) (es : Array (Int × Value)) (ep : Nat) (t : SetTable) : Prop where
  ob : ∃ o, h.get? a = some o ∧ o.ExactSet ∧ o.data = .set es ep t
  ft : t.fits es.size = true
theorem At.keep {h h' : Heap} {a : Addr} {es : Array (Int × Value)} {ep : Nat} {t : SetTable} (q : At h a es ep t) (k : ∀ o, h.get? a = some o → h'.get? a = some o) : At h' a es ep t := by
  obtain ⟨⟨o, ho, r⟩, f⟩ := q
  exact ⟨⟨o, k o ho, r⟩, f⟩
/-- how the table is gone through: by the world's own order .. -/
theorem next_text {a : Addr} {es : Array (Int × Value)} {ep slot i : Nat} {t : SetTable} {Q : Option (Value × Nat) → Shared → Prop} (q : At s.heap a es ep t) (hw : w.params.followText "set-order" = true)
    (fin : Q (((pickOrder (w.params.setOrder a ep) es)[i]?).map fun e => (e.2, slot)) s) : wpAny (model prog w) A (setNext a slot i ep) Q E s := by
  obtain ⟨⟨o, ho, hx, hd⟩, hf⟩ := q
  unfold setNext
  refine wpAny_bind (wpAny_setState_of ho hd hf ?_)
  dsimp only
  unfold setsByText
  refine wpAny_bind (wpAny_bind (wpAny_askSetting (wpAny_pure ?_)))
  rw [if_pos (show (model prog w).w.params.followText "set-order" = true from hw), if_neg (by simp)]
  refine wpAny_bind ?_
  unfold setWalk
  refine wpAny_bind (wpAny_setState_of ho hd hf ?_)
  dsimp only
  unfold setsByText
  refine wpAny_bind (wpAny_bind (wpAny_askSetting (wpAny_pure ?_)))
  rw [if_pos (show (model prog w).w.params.followText "set-order" = true from hw)]
  exact wpAny_bind (wpAny_askSetting (wpAny_pure (wpAny_pure fin)))
/-- .. by its places .. -/
theorem next_led {a : Addr} {es : Array (Int × Value)} {ep slot i : Nat} {t : SetTable} {Q : Option (Value × Nat) → Shared → Prop} (q : At s.heap a es ep t) (hw : w.params.followText "set-order" = false) (hd' : (!t.plain && decide (es.size > 1)) = false) (hl : t.led = true)
    (fin : Q (match es[SetTable.below t.place slot]?, t.place[SetTable.below t.place slot]? with
      | some (_, x), some j => some (x, j + 1)
      | _, _ => none) s) : wpAny (model prog w) A (setNext a slot i ep) Q E s := by
  obtain ⟨⟨o, ho, hx, hd⟩, hf⟩ := q
  unfold setNext
  refine wpAny_bind (wpAny_setState_of ho hd hf ?_)
  dsimp only
  unfold setsByText
  refine wpAny_bind (wpAny_bind (wpAny_askSetting (wpAny_pure ?_)))
  rw [if_neg (show ¬ (model prog w).w.params.followText "set-order" = true by rw [show (model prog w).w.params.followText "set-order" = false from hw]; exact Bool.false_ne_true)]
  show wpAny _ _ (if (!t.plain && decide (es.size > 1)) = true then _ else _) _ _ s
  rw [hd', if_neg Bool.false_ne_true]
  show wpAny _ _ ((if (!t.led && !es.isEmpty) = true then unsupported "set:maker-not-led" else pure ()) >>= fun _ => _) _ _ s
  rw [hl]
  exact wpAny_bind (wpAny_pure (wpAny_pure fin))
end
end ST

set_option Elab.async false
set_option linter.all false
set_option maxRecDepth 100000
/-! EXTENSION 36: the iterator of a set of ints -/
namespace ST
open PySem PyProof.Rows
section
variable {prog : Program} {w : World} {A : Around} {E : Value → Shared → Prop} {s : Shared}
/-- the iterator's object: how it goes on, how far it is -/
def ItI (h : Heap) (I a : Addr) (first : Value) (i n ep : Nat) : Prop := ∃ o, h.get? I = some o ∧ o.cls = .type "set_iterator" ∧ o.data = .fields #[first, rawInt (i : Nat), .ref a, rawInt (n : Nat), rawInt (ep : Nat)]
theorem ItI.type {I a : Addr} {first : Value} {i n ep : Nat} (h : ItI s.heap I a first i n ep) : s.TypeIs (.ref I) "set_iterator" := let ⟨o, ho, hc, _⟩ := h; ⟨o, ho, hc⟩
theorem field_put {h : Heap} {I : Addr} {o : Obj} {vs : Array Value} {k : Nat} {v : Value} (ho : h.get? I = some o) (hd : o.data = .fields vs) :
    (h.update I (Obj.mapFields (·.setIfInBounds k v))).get? I = some (Obj.mapFields (·.setIfInBounds k v) o) ∧ (Obj.mapFields (·.setIfInBounds k v) o).data = .fields (vs.setIfInBounds k v) ∧ (Obj.mapFields (·.setIfInBounds k v) o).cls = o.cls := by
  have hd' := Obj.data_mapFields hd (·.setIfInBounds k v)
  exact ⟨Heap.get?_update_self _ ho (Obj.isFreed_of_fields hd'), hd', Obj.cls_mapFields _ _⟩
/-- StopIteration, taken for the end -/
theorem it_stop {Q : Option Value → Shared → Prop} (hh : A.handled = none) (fin : ∀ h', (∀ b o, s.heap.get? b = some o → h'.get? b = some o) → Q none { s with heap := h' }) :
    wpAny (model prog w) A.in1 (do let x ← newExc (.type "StopIteration") []; raiseNew x : Sem PySem.Fin) (fun f s' => ∃ r, f = .done (.ret r) ∧ wpAny (model prog w) A (pure (some r)) Q E s')
      (fun e s' => wpAny (model prog w) A (do if ← isInstance e (.type "StopIteration") then pure none else throw e) Q E s') s := by
  simp only [newExc, newTuple, raiseNew]
  refine wpAny_bind (wpAny_bind (wpAny_newObj_type (wpAny_bind (m := firstArgMember _ _) (wpAny_of_eq (a := Value.none) (by first | rfl | (simp only [firstArgMember]; rfl)) (wpAny_newObj_type ?_ (by size_fits)))) (by size_fits)))
  refine wpAny_bind (wpAny_handled ?_)
  have hn : A.in1.handled = none := hh
  rw [hn]
  refine wpAny_bind (wpAny_pure (wpAny_throw (E := _) ?_))
  refine wpAny_bind (wpAny_isInstance (b := true) (T := "StopIteration") ⟨_, Heap.get?_push_size _ rfl, rfl⟩ isSubtype_stop ?_)
  exact wpAny_pure (fin _ fun b o e => Heap.get?_push_of_some _ (Heap.get?_push_of_some _ e))
/-- a turn -/
theorem it_item {I a : Addr} {slot i nx ep : Nat} {es : Array (Int × Value)} {t : SetTable} {x : Value} {Q : Option Value → Shared → Prop} (hit : ItI s.heap I a (rawInt (slot : Nat)) i es.size ep) (q : At s.heap a es ep t)
    (hn : ∀ {A' : Around} {E' : Value → Shared → Prop} {Q' : Option (Value × Nat) → Shared → Prop}, Q' (some (x, nx)) s → wpAny (model prog w) A' (setNext a slot i ep) Q' E' s)
    (fin : ∀ h', ItI h' I a (rawInt (nx : Nat)) (i + 1) es.size ep → Heap.SameBut I s.heap h' → Q (some x) { s with heap := h' }) : wpAny (model prog w) A (pyNext (.ref I)) Q E s := by
  obtain ⟨o, ho, hc, hd⟩ := id hit
  obtain ⟨⟨os, hos, hxs, hds⟩, hf⟩ := id q
  unfold pyNext
  refine wpAny_bind (wpAny_attempt (wpAny_callSpecial?_slot (name := Str.ofString "__next__") hit.type sl_next (wpAny_call_entry sl_next hit.type en_next ?_ (ar_next _))))
  unfold Builtin.«set_iterator.__next__»
  refine wpAny_bind (wpAny_pure ?_)
  refine wpAny_bind (wpAny_fieldsOf ho hd ?_)
  refine wpAny_bind (m := setEntries a) (wpAny_setEntries_of hos hds hf ?_)
  have hz : ((es.size : Int) != ((es.size : Nat) : Int)) = false := by simp
  dsimp only [List.toList_toArray]
  rw [if_neg (by rw [hz]; exact Bool.false_ne_true)]
  refine wpAny_bind (m := setNext a slot i ep) (hn ?_)
  dsimp only
  obtain ⟨g1, g2, g3⟩ := field_put (k := 0) (v := rawInt (nx : Nat)) ho hd
  refine wpAny_bind (wpAny_setField ho hd (by simp) ?_)
  obtain ⟨k1, k2, k3⟩ := field_put (k := 1) (v := rawInt ((i : Int) + 1)) g1 g2
  refine wpAny_bind (wpAny_setField g1 g2 (by simp) ?_)
  refine wpAny_pure ⟨_, rfl, wpAny_pure (fin _ ⟨_, k1, by rw [k3, g3]; exact hc, ?_⟩ ((Heap.SameBut.update ..).trans (Heap.SameBut.update ..)))⟩
  rw [k2]
  rfl
/-- its end -/
theorem it_end {I a : Addr} {slot i ep : Nat} {es : Array (Int × Value)} {t : SetTable} {Q : Option Value → Shared → Prop} (hh : A.handled = none) (hit : ItI s.heap I a (rawInt (slot : Nat)) i es.size ep) (q : At s.heap a es ep t)
    (hn : ∀ {A' : Around} {E' : Value → Shared → Prop} {Q' : Option (Value × Nat) → Shared → Prop}, Q' none s → wpAny (model prog w) A' (setNext a slot i ep) Q' E' s)
    (fin : ∀ h', Heap.ExtBut I s.heap h' → Q none { s with heap := h' }) : wpAny (model prog w) A (pyNext (.ref I)) Q E s := by
  obtain ⟨o, ho, hc, hd⟩ := id hit
  obtain ⟨⟨os, hos, hxs, hds⟩, hf⟩ := id q
  unfold pyNext
  refine wpAny_bind (wpAny_attempt (wpAny_callSpecial?_slot (name := Str.ofString "__next__") hit.type sl_next (wpAny_call_entry sl_next hit.type en_next ?_ (ar_next _))))
  unfold Builtin.«set_iterator.__next__»
  refine wpAny_bind (wpAny_pure ?_)
  refine wpAny_bind (wpAny_fieldsOf ho hd ?_)
  refine wpAny_bind (m := setEntries a) (wpAny_setEntries_of hos hds hf ?_)
  have hz : ((es.size : Int) != ((es.size : Nat) : Int)) = false := by simp
  dsimp only [List.toList_toArray]
  rw [if_neg (by rw [hz]; exact Bool.false_ne_true)]
  refine wpAny_bind (m := setNext a slot i ep) (hn ?_)
  dsimp only
  refine wpAny_bind (wpAny_setField ho hd (by simp) ?_)
  exact it_stop hh fun h' e => fin h' (by
    intro b o' hb q'
    exact e b o' ((Heap.get?_update_other _ _ (Ne.symm hb)).trans q'))
/-- .. by drawn places -/
theorem it_itemD {I a q : Addr} {i ep place nq : Nat} {tk : Tok} {oq : Obj} {pl : Array Value} {es : Array (Int × Value)} {t : SetTable} {e : Int × Value} {Q : Option Value → Shared → Prop} (hit : ItI s.heap I a (.ref q) i es.size ep) (hq : At s.heap a es ep t) (ho : s.heap.get? q = some oq) (hd : oq.data = .seq pl nq)
    (hp : pl[i]? = some (.int ((place : Nat) : Int) tk)) (he : es[place]? = some e) (fin : ∀ h', ItI h' I a (.ref q) (i + 1) es.size ep → Heap.SameBut I s.heap h' → Q (some e.2) { s with heap := h' }) : wpAny (model prog w) A (pyNext (.ref I)) Q E s := by
  obtain ⟨o, ho', hc, hd'⟩ := id hit
  obtain ⟨⟨os, hos, hxs, hds⟩, hf⟩ := id hq
  unfold pyNext
  refine wpAny_bind (wpAny_attempt (wpAny_callSpecial?_slot (name := Str.ofString "__next__") hit.type sl_next (wpAny_call_entry sl_next hit.type en_next ?_ (ar_next _))))
  unfold Builtin.«set_iterator.__next__»
  refine wpAny_bind (wpAny_pure (wpAny_bind (wpAny_fieldsOf ho' hd' ?_)))
  refine wpAny_bind (m := setEntries a) (wpAny_setEntries_of hos hds hf ?_)
  have hz : ((es.size : Int) != ((es.size : Nat) : Int)) = false := by simp
  dsimp only [List.toList_toArray]
  rw [if_neg (by rw [hz]; exact Bool.false_ne_true)]
  refine wpAny_bind (m := seqItems? (.ref q)) (wpAny_seqItems ho hd ?_)
  dsimp only
  rw [show (((i : Nat) : Int)).toNat = i from rfl, hp]
  dsimp only
  refine wpAny_bind (m := setNextDrawn a place ep) ?_
  unfold setNextDrawn
  refine wpAny_bind (wpAny_setState_of hos hds hf ?_)
  dsimp only
  rw [if_neg (by simp), he]
  refine wpAny_pure ?_
  obtain ⟨k1, k2, k3⟩ := field_put (k := 1) (v := rawInt ((i : Int) + 1)) ho' hd'
  refine wpAny_bind (wpAny_setField ho' hd' (by simp) ?_)
  refine wpAny_pure ⟨_, rfl, wpAny_pure (fin _ ⟨_, k1, by rw [k3]; exact hc, ?_⟩ (Heap.SameBut.update ..))⟩
  rw [k2]
  rfl
theorem it_endD {I a q : Addr} {i ep nq : Nat} {oq : Obj} {pl : Array Value} {es : Array (Int × Value)} {t : SetTable} {Q : Option Value → Shared → Prop} (hh : A.handled = none) (hit : ItI s.heap I a (.ref q) i es.size ep) (hq : At s.heap a es ep t) (ho : s.heap.get? q = some oq) (hd : oq.data = .seq pl nq)
    (hp : pl[i]? = none) (fin : ∀ h', Heap.ExtBut I s.heap h' → Q none { s with heap := h' }) : wpAny (model prog w) A (pyNext (.ref I)) Q E s := by
  obtain ⟨o, ho', hc, hd'⟩ := id hit
  obtain ⟨⟨os, hos, hxs, hds⟩, hf⟩ := id hq
  unfold pyNext
  refine wpAny_bind (wpAny_attempt (wpAny_callSpecial?_slot (name := Str.ofString "__next__") hit.type sl_next (wpAny_call_entry sl_next hit.type en_next ?_ (ar_next _))))
  unfold Builtin.«set_iterator.__next__»
  refine wpAny_bind (wpAny_pure (wpAny_bind (wpAny_fieldsOf ho' hd' ?_)))
  refine wpAny_bind (m := setEntries a) (wpAny_setEntries_of hos hds hf ?_)
  have hz : ((es.size : Int) != ((es.size : Nat) : Int)) = false := by simp
  dsimp only [List.toList_toArray]
  rw [if_neg (by rw [hz]; exact Bool.false_ne_true)]
  refine wpAny_bind (m := seqItems? (.ref q)) (wpAny_seqItems ho hd ?_)
  dsimp only
  rw [show (((i : Nat) : Int)).toNat = i from rfl, hp]
  dsimp only
  obtain ⟨k1, k2, k3⟩ := field_put (k := 0) (v := rawInt 0) ho' hd'
  refine wpAny_bind (wpAny_setField ho' hd' (by simp) (wpAny_bind (wpAny_setField k1 k2 (by simp) ?_)))
  exact it_stop hh fun h' e => fin h' (by
    intro b o' hb q'
    exact e b o' ((Heap.get?_update_other _ _ (Ne.symm hb)).trans ((Heap.get?_update_other _ _ (Ne.symm hb)).trans q')))
end
end ST

set_option Elab.async false
set_option linter.all false
set_option maxRecDepth 100000
/-! EXTENSION 37: the orders of a set, its iterator made -/
namespace ST
open PySem PyProof.Rows
theorem erase_perm {α : Type} {l : List α} {i : Nat} (h : i < l.length) : (l[i] :: l.eraseIdx i).Perm l := by
  have e : l = l.take i ++ l[i] :: l.drop (i + 1) := by rw [← List.drop_eq_getElem_cons h, List.take_append_drop]
  rw [List.eraseIdx_eq_take_drop_succ]
  refine List.perm_middle.symm.trans ?_
  rw [← e]
theorem pick_go {α : Type} (f : Nat → Nat) : ∀ (n k : Nat) (l : List α) (out : Array α), l.length = n → (pickOrder.go f n k l out).toList.Perm (out.toList ++ l)
  | 0, k, l, out, h => by
    have : l = [] := List.length_eq_zero_iff.mp h
    subst this
    unfold pickOrder.go
    rw [List.append_nil]
  | n + 1, k, l, out, h => by
    unfold pickOrder.go
    have hi : f k % l.length < l.length := Nat.mod_lt _ (by omega)
    rw [List.getElem?_eq_getElem hi]
    dsimp only
    refine (pick_go f n (k + 1) _ _ (by rw [List.length_eraseIdx_of_lt hi]; omega)).trans ?_
    rw [Array.toList_push, List.append_assoc]
    exact (erase_perm hi).append_left _
theorem pick_perm {α : Type} (f : Nat → Nat) (xs : Array α) : (pickOrder f xs).toList.Perm xs.toList := pick_go f xs.size 0 xs.toList #[] Array.length_toList
section
variable {prog : Program} {w : World} {A : Around} {E : Value → Shared → Prop} {s : Shared}
theorem wp_draw {α : Type} : ∀ (n : Nat) (xs : List α) (s : Shared) {Q : List α → Shared → Prop}, xs.length = n → (∀ ys d', ys.Perm xs → Q ys { s with drawn := d' }) → wpAny (model prog w) A (drawOrder n xs) Q E s
  | 0, xs, s, Q, h, fin => by
    have : xs = [] := List.length_eq_zero_iff.mp h
    subst this
    exact wpAny_pure (fin [] s.drawn (List.Perm.refl _))
  | n + 1, [], s, Q, h, fin => by cases h
  | n + 1, x0 :: xs, s, Q, h, fin => by
    have ch : ∀ {R : Nat → Shared → Prop}, (∀ i d', i < (x0 :: xs).length → R i { s with drawn := d' }) → wpAny (model prog w) A (choose .order (x0 :: xs).length) R E s := fun {R} hR =>
      fun _ _ _ => ⟨Nat.succ_ne_zero _, hR _ _ (Nat.mod_lt _ (Nat.succ_pos _))⟩
    unfold drawOrder
    refine wpAny_bind (ch fun i d' hi => ?_)
    rw [List.getElem?_eq_getElem hi]
    dsimp only
    refine wpAny_bind (wp_draw n _ _ (by rw [List.length_eraseIdx_of_lt hi]; simpa using h) fun ys d2 hp => wpAny_pure (fin _ d2 ?_))
    exact (hp.cons _).trans (erase_perm hi)
theorem At.type {a : Addr} {es : Array (Int × Value)} {ep : Nat} {t : SetTable} (q : At s.heap a es ep t) : s.TypeIs (.ref a) "set" := let ⟨⟨o, ho, hx, _⟩, _⟩ := q; ⟨o, ho, hx.1⟩
/-- iter(set), not drawn -/
theorem iter_int {a : Addr} {es : Array (Int × Value)} {ep : Nat} {t : SetTable} {Q : Value → Shared → Prop} (q : At s.heap a es ep t) (hd : w.params.followText "set-order" = true ∨ (!t.plain && decide (es.size > 1)) = false)
    (fin : ∀ h', ItI h' s.heap.objs.size a (rawInt (0 : Nat)) 0 es.size ep → (∀ b o, s.heap.get? b = some o → h'.get? b = some o) → Q (.ref s.heap.objs.size) { s with heap := h' }) : wpAny (model prog w) A (pyIter (.ref a)) Q E s := by
  obtain ⟨⟨o, ho, hx, hdt⟩, hf⟩ := id q
  refine wpAny_pyIter_slot q.type F.slot_set_iter (wpAny_call_entry F.slot_set_iter q.type en_iter ?_ (F.args_set_iter_1 _))
  unfold Builtin.«frozenset.__iter__»
  refine wpAny_bind (m := Builtin.Frozenset.slot0 "__iter__" _) (wpAny_pure ?_)
  unfold Builtin.Frozenset.sizeOf
  refine wpAny_bind (wpAny_bind (wpAny_setEntries_of ho hdt hf (wpAny_pure ?_)))
  unfold setDrawn setsByText
  refine wpAny_bind (wpAny_bind (wpAny_setState_of ho hdt hf ?_))
  dsimp only
  refine wpAny_bind (wpAny_bind (wpAny_askSetting (wpAny_pure (wpAny_pure ?_))))
  have hc : (!w.params.followText "set-order" && (!t.plain && decide (es.size > 1))) = false := by
    rcases hd with e | e
    · rw [e]; rfl
    · rw [e, Bool.and_false]
  show wpAny _ _ (if (!w.params.followText "set-order" && (!t.plain && decide (es.size > 1))) = true then _ else _) _ _ s
  rw [hc, if_neg Bool.false_ne_true]
  refine wpAny_bind (wpAny_pure (wpAny_bind (wpAny_setEpoch_of ho hdt hf ?_)))
  unfold newFields
  refine wpAny_bind (wpAny_newObj_type (wpAny_pure ⟨_, rfl, "set_iterator", _, ⟨_, Heap.get?_push_size _ rfl, rfl⟩, sl_next.lookup, fin _ ⟨_, Heap.get?_push_size _ rfl, rfl, rfl⟩ fun b o' e => Heap.get?_push_of_some _ e⟩))
/-- iter(set), drawn -/
theorem iter_drawn {a : Addr} {es : Array (Int × Value)} {ep : Nat} {t : SetTable} {Q : Value → Shared → Prop} (q : At s.heap a es ep t) (hw : w.params.followText "set-order" = false) (hd : (!t.plain && decide (es.size > 1)) = true) (hb : es.size < scanBound)
    (fin : ∀ (ys : List Nat) d' h', ys.Perm (List.range es.size) → ItI h' (s.heap.objs.size + 1) a (.ref s.heap.objs.size) 0 es.size ep → (∃ oq nq, h'.get? s.heap.objs.size = some oq ∧ oq.data = .seq (ys.map fun i : Nat => rawInt (i : Nat)).toArray nq) → (∀ b o, s.heap.get? b = some o → h'.get? b = some o) →
      Q (.ref (s.heap.objs.size + 1)) { s with heap := h', drawn := d' }) : wpAny (model prog w) A (pyIter (.ref a)) Q E s := by
  obtain ⟨⟨o, ho, hx, hdt⟩, hf⟩ := id q
  refine wpAny_pyIter_slot q.type F.slot_set_iter (wpAny_call_entry F.slot_set_iter q.type en_iter ?_ (F.args_set_iter_1 _))
  unfold Builtin.«frozenset.__iter__»
  refine wpAny_bind (m := Builtin.Frozenset.slot0 "__iter__" _) (wpAny_pure ?_)
  unfold Builtin.Frozenset.sizeOf
  refine wpAny_bind (wpAny_bind (wpAny_setEntries_of ho hdt hf (wpAny_pure ?_)))
  unfold setDrawn setsByText
  refine wpAny_bind (wpAny_bind (wpAny_setState_of ho hdt hf ?_))
  dsimp only
  refine wpAny_bind (wpAny_bind (wpAny_askSetting (wpAny_pure (wpAny_pure ?_))))
  show wpAny _ _ (if (!w.params.followText "set-order" && (!t.plain && decide (es.size > 1))) = true then _ else _) _ _ s
  rw [hw, hd, if_pos (show (!false && true) = true from rfl)]
  refine wpAny_bind (wp_draw _ _ _ (by rw [List.length_range]) fun ys d' hp => ?_)
  have hyl : ys.length < scanBound := by
    rw [hp.length_eq, List.length_range]
    exact hb
  have hz : 10000 ≤ sizeLine := by decide
  have hsb : scanBound = 4096 := rfl
  unfold newTuple
  refine wpAny_bind (wpAny_newObj_type ?_ ?_)
  · have g0 : ∀ b o', s.heap.get? b = some o' → (s.heap.push { cls := .type "tuple", dict := none, data := .seq (ys.map fun i : Nat => rawInt (i : Nat)).toArray }).get? b = some o' := fun b o' e => Heap.get?_push_of_some _ e
    refine wpAny_bind (wpAny_setEpoch_of (s := { s with heap := _, drawn := d' }) (g0 _ _ ho) hdt hf ?_)
    unfold newFields
    have es1 : (s.heap.push { cls := .type "tuple", dict := none, data := .seq (ys.map fun i : Nat => rawInt (i : Nat)).toArray }).objs.size = s.heap.objs.size + 1 := Heap.size_push ..
    refine wpAny_bind (wpAny_newObj_type ?_)
    rw [es1]
    have k1 := Heap.get?_push_size (s.heap.push { cls := .type "tuple", dict := none, data := .seq (ys.map fun i : Nat => rawInt (i : Nat)).toArray }) (o := { cls := .type "set_iterator", dict := none, data := .fields #[.ref s.heap.objs.size, rawInt 0, .ref a, rawInt (es.size : Nat), rawInt (ep : Nat)] }) rfl
    rw [es1] at k1
    refine wpAny_pure ⟨_, rfl, "set_iterator", _, ⟨_, k1, rfl⟩, sl_next.lookup, fin ys d' _ hp ⟨_, k1, rfl, rfl⟩ ⟨_, 0, Heap.get?_push_of_some _ (Heap.get?_push_size _ rfl), rfl⟩ fun b o' e => Heap.get?_push_of_some _ (g0 _ _ e)⟩
  · show (ys.map fun i : Nat => rawInt (i : Nat)).toArray.size ≤ sizeLine
    rw [List.size_toArray, List.length_map]
    omega
end
end ST

set_option Elab.async false
set_option linter.all false
set_option maxRecDepth 100000
/-! EXTENSION 38: walks over a set of ints -/
namespace ST
open PySem PyProof.Rows
theorem ar_iter (a : Value) : argsOk "set_iterator.__iter__" ⟨[a], []⟩ := by
  unfold argsOk
  rw [signature?_of (id := "set_iterator.__iter__") (n := ['_', '_', 'r', 'e', 't', 'i', '_', '_']) (o := ['r', 'o', 't', 'a', 'r', 'e', 't', 'i', '_', 't', 'e', 's']) (by kernel_rfl) own_si]
  kernel_rfl
theorem en_iterS : entryFor table "set_iterator.__iter__" = some Builtin.«dict_keyiterator.__iter__» := entryFor_alias (id' := "dict_keyiterator.__iter__") (by kernel_rfl) rfl (by decide +kernel) (by kernel_rfl)
section
variable {prog : Program} {w : World} {A : Around} {E : Value → Shared → Prop} {s : Shared}
theorem it_self {I a : Addr} {first : Value} {i n ep : Nat} {Q : Value → Shared → Prop} (hit : ItI s.heap I a first i n ep) (fin : Q (.ref I) s) : wpAny (model prog w) A (pyIter (.ref I)) Q E s :=
  wpAny_pyIter_slot hit.type sl_iter (wpAny_call_entry sl_iter hit.type en_iterS (wpAny_pure ⟨_, rfl, "set_iterator", _, hit.type, sl_next.lookup, fin⟩) (ar_iter _))
theorem ItI.keep {h h' : Heap} {I a : Addr} {first : Value} {i n ep : Nat} (q : ItI h I a first i n ep) (k : ∀ o, h.get? I = some o → h'.get? I = some o) : ItI h' I a first i n ep := by
  obtain ⟨o, ho, r⟩ := q
  exact ⟨o, k o ho, r⟩
abbrev Gsame : Array GenState → Array GenState → Prop := fun x y => y = x
/-- by the world's order, or by places -/
theorem walk_int {a I : Addr} {es : Array (Int × Value)} {ep : Nat} {t : SetTable} (slots : Nat → Nat) (ord : List Value) (hh : A.handled = none) (ne : a ≠ I) (hlen : ord.length = es.size)
    (H : ∀ (s : Shared) (A' : Around) (E' : Value → Shared → Prop) (Q' : Option (Value × Nat) → Shared → Prop) (i : Nat), i ≤ es.size → At s.heap a es ep t → Q' (ord[i]?.map fun x => (x, slots (i + 1))) s → wpAny (model prog w) A' (setNext a (slots i) i ep) Q' E' s) :
    WalksS prog w A I [I, a] [I] Gsame es.size (fun i v => ord[i]? = some v) (fun i s => ItI s.heap I a (rawInt (slots i : Nat)) i es.size ep ∧ At s.heap a es ep t) where
  sub := fun b hb => by
    rw [List.mem_singleton.mp hb]
    exact List.mem_cons_self
  grefl := fun _ => rfl
  gtrans := fun _ _ _ h1 h2 => h2.trans h1
  frame := fun i s h' tk st _ hk => ⟨st.1.keep fun o e => hk I List.mem_cons_self o e, st.2.keep fun o e => hk a (by simp) o e⟩
  item := fun i s Q E hi st hQ => by
    have hx : ord[i]? = some ord[i] := List.getElem?_eq_getElem (by omega)
    refine it_item (nx := slots (i + 1)) (x := ord[i]) st.1 st.2 (fun {A' E' Q'} z => H s A' E' Q' i (by omega) st.2 (by rw [hx]; exact z)) fun h' hit sb => ?_
    refine hQ _ _ hx ⟨hit, st.2.keep fun o e => (sb.2 a ne).trans e⟩ ⟨fun b o hb e => (sb.2 b fun z => hb (by simp [z])).trans e, rfl, rfl, rfl, Nat.le_refl _⟩
  done := fun s Q E st hQ => by
    refine it_end hh st.1 st.2 (fun {A' E' Q'} z => H s A' E' Q' es.size (Nat.le_refl _) st.2 (by rw [List.getElem?_eq_none (by omega)]; exact z)) fun h' eb => ?_
    exact hQ _ ⟨fun b o hb e => eb b o (fun z => hb (by simp [z])) e, rfl, rfl, rfl, Nat.le_refl _⟩
  self := fun i s Q E st fin => it_self st.1 fin
/-- by drawn places -/
theorem walk_drawn {a I q : Addr} {es : Array (Int × Value)} {ep : Nat} {t : SetTable} (ys : List Nat) (hp : ys.Perm (List.range es.size)) (hh : A.handled = none) (ne : a ≠ I) (nq : q ≠ I) :
    WalksS prog w A I [I, a, q] [I] Gsame es.size (fun i v => ∃ p e, ys[i]? = some p ∧ es[p]? = some e ∧ v = e.2) (fun i s => ItI s.heap I a (.ref q) i es.size ep ∧ At s.heap a es ep t ∧ ∃ oq k, s.heap.get? q = some oq ∧ oq.data = .seq (ys.map fun i : Nat => rawInt (i : Nat)).toArray k) where
  sub := fun b hb => by
    rw [List.mem_singleton.mp hb]
    exact List.mem_cons_self
  grefl := fun _ => rfl
  gtrans := fun _ _ _ h1 h2 => h2.trans h1
  frame := fun i s h' tk st _ hk => ⟨st.1.keep fun o e => hk I List.mem_cons_self o e, st.2.1.keep fun o e => hk a (by simp) o e, let ⟨oq, k, h1, h2⟩ := st.2.2; ⟨oq, k, hk q (by simp) _ h1, h2⟩⟩
  item := fun i s Q E hi st hQ => by
    obtain ⟨oq, k, h1, h2⟩ := st.2.2
    have hyl : ys.length = es.size := by rw [hp.length_eq, List.length_range]
    have hy : ys[i]? = some ys[i] := List.getElem?_eq_getElem (by omega)
    have hlt : ys[i] < es.size := List.mem_range.mp (hp.mem_iff.mp (List.getElem_mem _))
    have he : es[ys[i]]? = some es[ys[i]] := Array.getElem?_eq_getElem hlt
    refine it_itemD (place := ys[i]) (tk := 0) st.1 st.2.1 h1 h2 ?_ he fun h' hit sb => ?_
    · rw [List.getElem?_toArray, List.getElem?_map, hy]
      rfl
    · refine hQ _ _ ⟨_, _, hy, he, rfl⟩ ⟨hit, st.2.1.keep fun o e => (sb.2 a ne).trans e, oq, k, (sb.2 q nq).trans h1, h2⟩ ⟨fun b o hb e => (sb.2 b fun z => hb (by simp [z])).trans e, rfl, rfl, rfl, Nat.le_refl _⟩
  done := fun s Q E st hQ => by
    obtain ⟨oq, k, h1, h2⟩ := st.2.2
    have hyl : ys.length = es.size := by rw [hp.length_eq, List.length_range]
    refine it_endD hh st.1 st.2.1 h1 h2 ?_ fun h' eb => ?_
    · rw [List.getElem?_toArray, List.getElem?_eq_none (by rw [List.length_map]; omega)]
    · exact hQ _ ⟨fun b o hb e => eb b o (fun z => hb (by simp [z])) e, rfl, rfl, rfl, Nat.le_refl _⟩
  self := fun i s Q E st fin => it_self st.1 fin
end
end ST

set_option Elab.async false
set_option linter.all false
set_option maxRecDepth 100000
/-! EXTENSION 39: the items of a set of ints -/
namespace ST
open PySem PyProof.Rows
theorem items_eq {ord : List Value} {acc : Array Value} (h : ItemsOf (fun i v => ord[i]? = some v) acc ord.length) : acc.toList = ord := by
  apply List.ext_getElem?
  intro i
  by_cases hi : i < acc.size
  · rw [Array.getElem?_toList, Array.getElem?_eq_getElem hi]
    exact (h.2 i _ (Array.getElem?_eq_getElem hi)).symm
  · have := h.1
    rw [List.getElem?_eq_none (by rw [Array.length_toList]; omega), List.getElem?_eq_none (by omega)]
section
variable {prog : Program} {w : World} {A : Around} {E : Value → Shared → Prop} {s : Shared}
abbrev valsOf (es : Array (Int × Value)) : List Value := es.toList.map (·.2)
/-- iter(set): some walk over all of it -/
theorem iter_any {a : Addr} {es : Array (Int × Value)} {ep : Nat} {t : SetTable} {Q : Value → Shared → Prop} (hh : A.handled = none) (q : At s.heap a es ep t) (tb : Tb (ledOf w) t) (hb : es.size < scanBound)
    (fin : ∀ (I : Addr) (fp : List Addr) (P : Nat → Value → Prop) (St : Nat → Shared → Prop) (h' : Heap) (d' : _), WalksS prog w A I fp [I] Gsame es.size P St → St 0 { s with heap := h', drawn := d' } → (∀ b o, s.heap.get? b = some o → h'.get? b = some o) → (∀ b ∈ fp, b = a ∨ s.heap.objs.size ≤ b) → s.heap.objs.size ≤ I →
      (∀ acc, ItemsOf P acc es.size → acc.toList.Perm (valsOf es)) → Q (.ref I) { s with heap := h', drawn := d' }) : wpAny (model prog w) A (pyIter (.ref a)) Q E s := by
  have ha : a < s.heap.objs.size := let ⟨⟨o, ho, _⟩, _⟩ := q; Heap.lt_size ho
  have hpl : t.place.size = es.size := by
    have := q.ft
    simp only [SetTable.fits, Bool.and_eq_true, beq_iff_eq] at this
    exact this.1
  cases hw : w.params.followText "set-order" with
  | true =>
    have hord : ((pickOrder (w.params.setOrder a ep) es).toList.map (·.2)).length = es.size := by rw [List.length_map, (pick_perm _ es).length_eq, Array.length_toList]
    refine iter_int q (.inl hw) fun h' hit kp => ?_
    refine fin s.heap.objs.size _ _ _ h' s.drawn (walk_int (fun _ => 0) ((pickOrder (w.params.setOrder a ep) es).toList.map (·.2)) hh (Nat.ne_of_lt ha) hord fun s1 A' E' Q' i hi q1 z => next_text q1 hw ?_) ⟨hit, q.keep fun o e => kp a o e⟩ kp (fun b hb => ?_) (Nat.le_refl _) fun acc hacc => ?_
    · rw [List.getElem?_map, Array.getElem?_toList] at z
      cases e : (pickOrder (w.params.setOrder a ep) es)[i]? with
      | none => rw [e] at z; exact z
      | some x => rw [e] at z; exact z
    · rcases List.mem_cons.mp hb with e | e
      · exact .inr (Nat.le_of_eq e.symm)
      · exact .inl (List.mem_singleton.mp e)
    · rw [← hord] at hacc
      rw [items_eq hacc]
      exact (pick_perm _ es).map _
  | false =>
    cases hd : (!t.plain && decide (es.size > 1)) with
    | false =>
      have hl : t.led = true := by rw [tb.ld]; show (!w.params.followText "set-order") = true; rw [hw]; rfl
      have hord : (valsOf es).length = es.size := by rw [List.length_map, Array.length_toList]
      refine iter_int q (.inr hd) fun h' hit kp => ?_
      refine fin s.heap.objs.size _ _ _ h' s.drawn (walk_int (fun i => if i = 0 then 0 else t.place.getD (i - 1) 0 + 1) (valsOf es) hh (Nat.ne_of_lt ha) hord fun s1 A' E' Q' i hi q1 z => next_led q1 hw hd hl ?_) ⟨hit, q.keep fun o e => kp a o e⟩ kp (fun b hb => ?_) (Nat.le_refl _) fun acc hacc => ?_
      · have eb : SetTable.below t.place (if i = 0 then 0 else t.place.getD (i - 1) 0 + 1) = i := by
          by_cases h0 : i = 0
          · rw [if_pos h0, h0]; exact below_zero tb.inc
          · rw [if_neg h0]
            have hlt : i - 1 < t.place.size := by omega
            have := below_next tb.inc (i := i - 1) (x := t.place.getD (i - 1) 0) (by rw [Array.getElem?_toList, Array.getElem?_eq_getElem hlt, Array.getD_eq_getD_getElem?, Array.getElem?_eq_getElem hlt]; rfl)
            rw [this]
            omega
        rw [eb]
        rw [List.getElem?_map, Array.getElem?_toList] at z
        by_cases hlt : i < es.size
        · have hlp : i < t.place.size := by omega
          rw [Array.getElem?_eq_getElem hlt] at z ⊢
          rw [Array.getElem?_eq_getElem hlp]
          have eg : t.place.getD i 0 = t.place[i] := by rw [Array.getD_eq_getD_getElem?, Array.getElem?_eq_getElem hlp]; rfl
          have z' : Q' (some (es[i].2, t.place.getD i 0 + 1)) s1 := z
          rw [eg] at z'
          exact z'
        · rw [Array.getElem?_eq_none (by omega)] at z ⊢
          exact z
      · rcases List.mem_cons.mp hb with e | e
        · exact .inr (Nat.le_of_eq e.symm)
        · exact .inl (List.mem_singleton.mp e)
      · rw [← hord] at hacc
        rw [items_eq hacc]
    | true =>
      refine iter_drawn q hw hd hb fun ys d' h' hp hit hq kp => ?_
      refine fin (s.heap.objs.size + 1) _ _ _ h' d' (walk_drawn ys hp hh (Nat.ne_of_lt (Nat.lt_succ_of_lt ha)) (Nat.ne_of_lt (Nat.lt_succ_self _))) ⟨hit, q.keep fun o e => kp a o e, hq⟩ kp (fun b hb => ?_) (Nat.le_succ _) fun acc hacc => ?_
      · rcases List.mem_cons.mp hb with e | e
        · exact .inr (by rw [e]; exact Nat.le_succ _)
        · rcases List.mem_cons.mp e with e | e
          · exact .inl e
          · exact .inr (Nat.le_of_eq (List.mem_singleton.mp e).symm)
      · have hyl : ys.length = es.size := by rw [hp.length_eq, List.length_range]
        have e1 : acc.toList = ys.map fun p => ((es[p]?).map (·.2)).getD .none := by
          apply List.ext_getElem?
          intro i
          rw [List.getElem?_map]
          by_cases hi : i < acc.size
          · obtain ⟨p, e, h1, h2, h3⟩ := hacc.2 i _ (Array.getElem?_eq_getElem hi)
            rw [Array.getElem?_toList, Array.getElem?_eq_getElem hi, h1, h3]
            show some e.2 = some (((es[p]?).map (·.2)).getD .none)
            rw [h2]
            rfl
          · have := hacc.1
            rw [List.getElem?_eq_none (by rw [Array.length_toList]; omega), List.getElem?_eq_none (by omega)]
            rfl
        rw [e1]
        refine (hp.map _).trans ?_
        have e2 : (List.range es.size).map (fun p => ((es[p]?).map (·.2)).getD .none) = valsOf es := by
          apply List.ext_getElem?
          intro i
          rw [List.getElem?_map, List.getElem?_map]
          by_cases hi : i < es.size
          · rw [List.getElem?_range hi, Array.getElem?_toList, Array.getElem?_eq_getElem hi]
            show some (((es[i]?).map (·.2)).getD .none) = some es[i].2
            rw [Array.getElem?_eq_getElem hi]
            rfl
          · rw [List.getElem?_eq_none (by rw [List.length_range]; omega), List.getElem?_eq_none (by rw [Array.length_toList]; omega)]
            rfl
        rw [e2]
theorem hint_set {a : Addr} {Q : Bool → Shared → Prop} (hT : s.TypeIs (.ref a) "set") (fin : Q false s) : wpAny (model prog w) A (Builtin.List.listLengthHint (.ref a)) Q E s := by
  unfold Builtin.List.listLengthHint
  refine wpAny_bind (wpAny_specialOf hT F.slot_set_len.lookup ?_)
  generalize hid : ("set.__len__" : String) = idl
  wp_delta
  rw [show splitId idl = some ("set", "__len__") from by subst hid; decide +kernel]
  subst hid
  refine wpAny_bind (wpAny_isInstance (b := true) (T := "set") hT sub_set_self ?_)
  refine wpAny_ite_split (fun z => absurd z (by decide)) fun _ => ?_
  exact wpAny_ite_split (fun _ => wpAny_bind (wpAny_typeOf hT (wpAny_pure fin))) fun z => absurd (by decide +kernel) z
end
end ST

set_option Elab.async false
set_option linter.all false
set_option maxRecDepth 100000
/-! EXTENSION 40: sorted(set(list of ints)) -/
namespace ST
open PySem PyProof.Rows
theorem ints_perm : ∀ {us vs : List Value}, us.Perm vs → ∀ {ks : List Int}, IntsAre us ks → ∃ ks', IntsAre vs ks' ∧ ks'.Perm ks := by
  intro us vs h
  induction h with
  | nil => intro ks hk; exact ⟨ks, hk, List.Perm.refl _⟩
  | cons x _ ih =>
    intro ks hk
    cases hk with
    | cons n t r =>
      obtain ⟨ks', h1, h2⟩ := ih r
      exact ⟨n :: ks', .cons n t h1, h2.cons n⟩
  | swap x y l =>
    intro ks hk
    cases hk with
    | cons n t r =>
      cases r with
      | cons m t2 r2 => exact ⟨_, .cons m t2 (.cons n t r2), List.Perm.swap ..⟩
  | trans _ _ ih1 ih2 =>
    intro ks hk
    obtain ⟨k1, a1, a2⟩ := ih1 hk
    obtain ⟨k2, b1, b2⟩ := ih2 a1
    exact ⟨k2, b1, b2.trans a2⟩
section
variable {prog : Program} {w : World} {A : Around} {E : Value → Shared → Prop} {s : Shared}
/-- all its items, in some order -/
theorem collect_set {a : Addr} {es : Array (Int × Value)} {ep : Nat} {t : SetTable} {Q : List Value → Shared → Prop} (hh : A.handled = none) (q : At s.heap a es ep t) (tb : Tb (ledOf w) t) (hb : es.size < scanBound)
    (fin : ∀ vs h' d' tk, vs.Perm (valsOf es) → (∀ b o, s.heap.get? b = some o → h'.get? b = some o) → s.heap.objs.size < h'.objs.size → Q vs { s with heap := h', drawn := d', toks := tk }) : wpAny (model prog w) A (collect (.ref a)) Q E s := by
  have hz : es.size ≤ sizeLine := fits_of_scanBound hb
  have ha : a < s.heap.objs.size := let ⟨⟨o, ho, _⟩, _⟩ := q; Heap.lt_size ho
  unfold collect
  refine wpAny_bind (wpAny_runValue (codeAny_builtin F.entry_proto_collect ?_))
  rw [Around.under_plainId F.plain_proto_collect _]
  refine wpAny_bind (m := newList []) (wpAny_newObj_type (wpAny_pure ⟨plainId_quiet F.plain_list_iadd _, codeAny_builtin F.entry_list_iadd ?_⟩))
  rw [Around.under_plainId F.plain_list_iadd _]
  have q1 : At (s.heap.push { cls := .type "list", data := .seq ([] : List Value).toArray }) a es ep t := q.keep fun o e => Heap.get?_push_of_some _ e
  have hS1 : (s.heap.push { cls := .type "list", data := .seq ([] : List Value).toArray }).get? s.heap.objs.size = some { cls := .type "list", data := .seq ([] : List Value).toArray } := Heap.get?_push_size _ rfl
  have sz1 : (s.heap.push { cls := .type "list", data := .seq ([] : List Value).toArray }).objs.size = s.heap.objs.size + 1 := Heap.size_push ..
  have k1 : ∀ b o, s.heap.get? b = some o → (s.heap.push { cls := .type "list", data := .seq ([] : List Value).toArray }).get? b = some o := fun b o e => Heap.get?_push_of_some _ e
  generalize s.heap.push { cls := .type "list", data := .seq ([] : List Value).toArray } = h1 at q1 hS1 sz1 k1 ⊢
  show wpAny _ A.in1 (Builtin.List.listExtendWith (.ref s.heap.objs.size) (.ref a) (.ref s.heap.objs.size)) _ _ _
  unfold Builtin.List.listExtendWith
  refine wpAny_bind (wpAny_typeOf (s := { s with heap := h1 }) (T := "set") q1.type ?_)
  have c1 : Builtin.List.listSameRef (.ref s.heap.objs.size) (.ref a) = false := by simp [Builtin.List.listSameRef, Nat.ne_of_gt ha]
  have c2 : (Value.type "set" == Value.type "list") = false := by decide
  have c3 : (Value.type "set" == Value.type "tuple") = false := by decide
  simp only [c1, c2, c3, Bool.or_false, Bool.false_eq_true, if_false]
  refine wpAny_bind (iter_any (s := { s with heap := h1 }) (by simp [hh]) q1 tb hb fun I fp P St h2 d2 W st kp hfp hI hperm => ?_)
  have hS2 := kp _ _ hS1
  have nfp : s.heap.objs.size ∉ fp := fun z => by
    rcases hfp _ z with e | e
    · exact absurd e (Nat.ne_of_gt ha)
    · rw [show ({ s with heap := h1 } : Shared).heap.objs.size = s.heap.objs.size + 1 from sz1] at e
      exact absurd e (Nat.not_succ_le_self _)
  have hT2 : Shared.TypeIs { s with heap := h2, drawn := d2 } (.ref a) "set" := (q1.keep (h' := h2) fun o e => kp a o e).type (s := { s with heap := h2, drawn := d2 })
  refine wpAny_bind (wpAny_holding (hint_set hT2 ?_))
  have key : ∀ {R : Result → Shared → Prop} (h : Heap) (c : Nat), St 0 { s with heap := h, drawn := d2 } → (∀ b o, b ≠ s.heap.objs.size → h2.get? b = some o → h.get? b = some o) → h.get? s.heap.objs.size = some { cls := .type "list", data := .seq #[] c } →
      (∀ acc c' h' tk, acc.toList.Perm (valsOf es) → h'.get? s.heap.objs.size = some { cls := .type "list", dict := none, data := .seq acc c', slots := #[] } → (∀ b o, s.heap.get? b = some o → h'.get? b = some o) → R (.ok (.ret (.ref s.heap.objs.size))) { s with heap := h', drawn := d2, toks := tk }) →
      codeAny (model prog w) A (.builtin "list.extend.loop" ⟨[.ref s.heap.objs.size, .ref I, .ref s.heap.objs.size], []⟩) R { s with heap := h, drawn := d2 } := fun {R} h c st0 kk hS hR => by
    refine codeAny_extend_loopS W hz _ nfp _ es.size 0 _ #[] c rfl (Nat.zero_le _) st0 hS (ItemsOf.nil P) fun s' acc c' mv hS' hacc => ?_
    obtain ⟨h', g', d', tk', os'⟩ := s'
    obtain rfl : g' = s.gens := mv.gens
    obtain rfl : d' = d2 := mv.drawn
    obtain rfl : os' = s.os := mv.os
    refine hR acc c' h' tk' (hperm acc hacc) hS' fun b o e => mv.heap b o (fun z => ?_) (kk b o (Nat.ne_of_lt (Heap.lt_size e)) (kp _ _ (k1 _ _ e)))
    rcases List.mem_cons.mp z with z | z
    · exact absurd z (Nat.ne_of_lt (Heap.lt_size e))
    · have eI : b = I := List.mem_singleton.mp z
      have hI' : s.heap.objs.size + 1 ≤ I := by rw [← sz1]; exact hI
      exact absurd (Heap.lt_size e) (Nat.not_lt.mpr (Nat.le_of_succ_le (eI ▸ hI')))
  refine wpAny_ite_split (fun _ => ?_) fun _ => wpAny_pure ⟨plainId_quiet F.plain_extend_loop _, key h2 _ st (fun b o _ e => e) hS2 fun acc c' h' tk hp hS' kk => ?_⟩
  · refine wpAny_bind (wpAny_rule (wpAny_bind ?_))
    show wpAny _ _ (updateSeq s.heap.objs.size (·.push .none) >>= fun _ => updateSeq s.heap.objs.size (·.pop)) _ _ _
    refine wpAny_bind (wpAny_updateSeq (s := { s with heap := h2, drawn := d2 }) hS2 rfl ?_)
    have g1 := Heap.get?_update_self (Obj.mapSeq (·.push Value.none)) hS2 rfl
    refine wpAny_updateSeq (hz := by seq_fits) g1 rfl ?_
    have g2 := Heap.get?_update_self (Obj.mapSeq (·.pop)) g1 rfl
    have oth : ∀ b o, b ≠ s.heap.objs.size → h2.get? b = some o → ((h2.update s.heap.objs.size (Obj.mapSeq (·.push Value.none))).update s.heap.objs.size (Obj.mapSeq (·.pop))).get? b = some o := fun b o hb e => (Heap.get?_update_other _ _ (Ne.symm hb)).trans ((Heap.get?_update_other _ _ (Ne.symm hb)).trans e)
    refine wpAny_pure ⟨plainId_quiet F.plain_extend_loop _, key _ _ (W.frame 0 _ _ s.toks st (Nat.le_refl _) fun b hb o e => oth b o (fun z => nfp (z ▸ hb)) e) oth g2 fun acc c' h' tk hp hS' kk => ?_⟩
    exact wpAny_bind (wpAny_load (s := { s with heap := h', drawn := d2, toks := tk }) hS' (wpAny_pure (fin acc.toList h' d2 tk hp kk (Heap.lt_size hS'))))
  · exact wpAny_bind (wpAny_load (s := { s with heap := h', drawn := d2, toks := tk }) hS' (wpAny_pure (fin acc.toList h' d2 tk hp kk (Heap.lt_size hS'))))
/-- sorted(set) -/
theorem sorted_set {a : Addr} {es : Array (Int × Value)} {ep : Nat} {t : SetTable} {ks : List Int} {Q : Value → Shared → Prop} (hh : A.handled = none) (q : At s.heap a es ep t) (tb : Tb (ledOf w) t) (h64 : es.size < 64) (hi : IntsAre (valsOf es) ks)
    (fin : ∀ l out ns h' d' tk, IntsAre out.toList ns → ns.Perm ks → ns.Pairwise (· ≤ ·) → s.heap.objs.size ≤ l → (∀ b o, s.heap.get? b = some o → h'.get? b = some o) → (∃ e, h'.get? l = some (seqObj "list" out e)) → Q (.ref l) { s with heap := h', drawn := d', toks := tk }) : wpAny (model prog w) A (call (.builtin "sorted") [.ref a]) Q E s := by
  refine Calls.call_function_entry kind_sorted plain_sorted entry_sorted (args_sorted1 _) ?_
  unfold Builtin.«sorted»
  refine wpAny_bind (m := checkCount "sorted" 1 1 _) (wpAny_pure ?_)
  refine wpAny_bind (collect_set (by simp [hh]) q tb (Nat.lt_of_lt_of_le h64 (by decide)) fun vs h1 d1 tk1 hp kp lt1 => ?_)
  obtain ⟨ks1, hi1, hk1⟩ := ints_perm hp.symm hi
  have hl : vs.length < 64 := by
    rw [hp.length_eq, List.length_map, Array.length_toList]
    exact h64
  have hzl : vs.length ≤ sizeLine := Nat.le_trans (Nat.le_of_lt hl) (by decide)
  refine wpAny_bind (wpAny_newList ?_ hzl)
  have ho : (h1.push (seqObj "list" vs.toArray 0)).get? h1.objs.size = some (seqObj "list" vs.toArray 0) := Heap.get?_push_size _ rfl
  refine wpAny_bind (wpAny_holding (wpAny_call_entry slot_list_sort (s := { s with heap := h1.push (seqObj "list" vs.toArray 0), drawn := d1, toks := tk1 }) ⟨_, ho, rfl⟩ entry_list_sort (list_sort_tree ho hi1 hl fun out ns a1 a2 a3 => ⟨_, rfl, ?_⟩) (args_list_sort _)))
  obtain ⟨e, he⟩ := sortedHeap_at (vs := vs) (out := out) ho
  refine wpAny_pure ⟨_, rfl, fin h1.objs.size out ns _ d1 tk1 a1 (a2.trans hk1) a3 (Nat.le_of_lt lt1) (fun b o z => ?_) ⟨e, he⟩⟩
  have zb := kp _ _ z
  have lt := Heap.lt_size zb
  rw [sortedHeap_old (Nat.ne_of_lt lt) (by rw [size_push']; exact Nat.lt_succ_of_lt lt)]
  exact Heap.get?_push_of_some _ zb
end
end ST

set_option Elab.async false
set_option linter.all false
set_option maxRecDepth 100000
/-! EXTENSION 41: sorted(set(list of ints)), as an expression -/
namespace ST
open PySem PyProof.Rows
theorem met_nd (val : Nat → Int) : ∀ i, (firstMet val i).Nodup
  | 0 => List.nodup_nil
  | i + 1 => by
    rw [firstMet_succ]
    have ih := met_nd val i
    unfold step_dedup
    split
    · exact ih
    · rename_i h
      rw [List.nodup_append]
      refine ⟨ih, by simp, fun a ha b hb => ?_⟩
      rw [List.mem_singleton.mp hb]
      rintro rfl
      exact h (List.any_eq_true.mpr ⟨_, ha, by simp⟩)
theorem shorter {α : Type} [DecidableEq α] : ∀ {l : List α}, ¬ l.Nodup → ∃ l' : List α, l'.length + 1 = l.length ∧ ∀ y ∈ l, y ∈ l'
  | [], h => absurd List.nodup_nil h
  | x :: r, h => by
    by_cases hx : x ∈ r
    · refine ⟨r, rfl, fun y hy => ?_⟩
      rcases List.mem_cons.mp hy with e | e
      · rw [e]; exact hx
      · exact e
    · obtain ⟨r', h1, h2⟩ := shorter (l := r) fun z => h (List.nodup_cons.mpr ⟨hx, z⟩)
      refine ⟨x :: r', by simp [h1], fun y hy => ?_⟩
      rcases List.mem_cons.mp hy with e | e
      · rw [e]; exact List.mem_cons_self
      · exact List.mem_cons_of_mem _ (h2 y e)
theorem nd_of {fm ks : List Int} (h1 : fm.Nodup) (h2 : ∀ k ∈ fm, k ∈ ks) (h3 : ks.length = fm.length) : ks.Nodup := by
  by_cases h : ks.Nodup
  · exact h
  · obtain ⟨l, e, hl⟩ := shorter h
    have := Gr.nodup_len h1 fun x hx => hl x (h2 x hx)
    omega
section
variable {prog : Program} {w : World}
/-- the ints of the entries -/
theorem keys_of {es : List (Int × Value)} (h : ElemsOf (intKind prog w) es) : ∃ ks : List Int, IntsAre (es.map (·.2)) ks ∧ ∀ k, (∃ e ∈ es, (intKind prog w).is k e.2 = true) ↔ k ∈ ks := by
  induction es with
  | nil => exact ⟨[], .nil, fun k => by simp⟩
  | cons e r ih =>
    obtain ⟨ks, h1, h2⟩ := ih h.tail
    obtain ⟨⟨k0, hk, _⟩, _⟩ := h.head
    obtain ⟨t, et⟩ := Value.isInt_shape hk
    refine ⟨k0 :: ks, ?_, fun k => ?_⟩
    · show IntsAre (e.2 :: r.map (·.2)) _
      rw [et]
      exact .cons k0 t h1
    · constructor
      · rintro ⟨x, hx, z⟩
        rcases List.mem_cons.mp hx with ex | hx
        · subst ex
          rw [(intKind prog w).inj _ k k0 z hk]
          exact List.mem_cons_self
        · exact List.mem_cons_of_mem _ ((h2 k).mp ⟨x, hx, z⟩)
      · intro hk'
        rcases List.mem_cons.mp hk' with ek | hk'
        · subst ek
          exact ⟨e, List.mem_cons_self, hk⟩
        · obtain ⟨x, hx, z⟩ := (h2 k).mpr hk'
          exact ⟨x, List.mem_cons_of_mem _ hx, z⟩
end
end ST
namespace L2
open PySem PySem.Spec PyProof.Rows ST
theorem Inv.draw {X : Cx} {pins : List (Addr × Obj)} {σ : St} {H : Hp} {s : Shared} {d : Drawn} (I : Inv X pins σ H s) : Inv X pins σ H { s with drawn := d } := ⟨I.ok, I.os, I.bare, I.base, I.loc, I.cell, I.free, I.freeC, I.pin, I.hok, I.len⟩
/-- sorted(set(a list of ints)): each once, rising -/
def rSortSet (K : PySem.W.Frag) : List V → Hp → VK → Prop := fun xs H Q => ∃ (a : Addr) (ns : List Int), xs = [.ref a] ∧ SqL K H a (ns.map V.int) ∧ ns.length < 63 ∧ ∀ l (ms : List Int), H l = none → (∀ k, k ∈ ms ↔ k ∈ ns) → ms.Nodup → ms.Pairwise (· ≤ ·) → Q (.ref l) (upd H l (.lst (ms.map V.int)))
section
variable {X : Cx} {e : Expr} {t : TA} {p p2 pos pos2 : Pos}
theorem met_iff (ns : List Int) (k : Int) : (firstMet (fun i => ns.getD i 0) ns.length).any (· == k) = true ↔ k ∈ ns := by
  rw [firstMet_any, List.any_eq_true]
  constructor
  · rintro ⟨x, hx, z⟩
    obtain ⟨i, hi, rfl⟩ := List.mem_map.mp hx
    have hi := List.mem_range.mp hi
    have z : ns.getD i 0 = k := by simpa using z
    rw [← z, List.getD_eq_getElem?_getD, List.getElem?_eq_getElem hi]
    exact List.getElem_mem hi
  · intro hk
    obtain ⟨i, hi, rfl⟩ := List.getElem_of_mem hk
    refine ⟨_, List.mem_map.mpr ⟨i, List.mem_range.mpr hi, rfl⟩, ?_⟩
    simp [hi]
theorem pe_sortSet (hc : X.calm = true) (hg1 : Gl X "sorted") (hm1 : X.mg "sorted" = none) (hg2 : Gl X "set") (hm2 : X.mg "set" = none) (ha : PA X [e] t)
    (hs1 : starEach [.Call (.Name "set" p2) [e] [] pos2] X.env = [(false, eval (.Call (.Name "set" p2) [e] [] pos2) X.env)] := by rfl) (hs2 : starEach [e] X.env = [(false, eval e X.env)] := by rfl) :
    PE X (.Call (.Name "sorted" p) [.Call (.Name "set" p2) [e] [] pos2] [] pos) (tCB (rSortSet X.K) t) := by
  intro pins s σ H Q I h
  refine wpAny_Call_Name_kw (ld_blt I hg1 hm1 boot_sorted ?_ (by decide) (by decide))
  refine callWith_builtin1 ?_ hs1 rfl
  rw [hs1]
  show wpAny _ _ (spliced ((false, eval (.Call (.Name "set" p2) [e] [] pos2) X.env) :: [])) _ _ s
  refine Calls.spliced_cons ?_
  refine wpAny_Call_Name_kw (ld_blt I hg2 hm2 boot_set ?_ (by decide) (by decide))
  refine callWith_type1 (thn (ha pos2 pins s σ H _ I h) fun us s1 ⟨vs, H1, I1, r1, a, ns, e1, hq, h63, q⟩ => ?_) hs2 rfl
  subst e1
  obtain ⟨u, e, ru⟩ := Vals.one r1
  subst e
  cases ru
  obtain ⟨its, rv, pl, hz⟩ := I1.list hq
  have hl := rv.length
  rw [List.length_map] at hl
  have esz : its.toArray.size = ns.length := by simp [hl]
  refine set_tb (I1.ok.hd hc) pl.isList (ns := ns) (by simpa using intsAre_of rv) (by rw [esz]; exact Nat.lt_of_lt_of_le (Nat.succ_lt_succ h63) (by decide)) fun h' tk fl => ?_
  refine Calls.spliced_nil ?_
  obtain ⟨⟨o, es, ep, tt, ho, hx, hd, en⟩, kp⟩ := fl
  rw [esz] at en
  obtain ⟨ks, hks, hmem⟩ := keys_of en.el
  have hkl : ks.length = (firstMet (fun i => ns.getD i 0) ns.length).length := by
    have e1 := IntsAre.length hks
    rw [List.length_map, Array.length_toList, en.sz] at e1
    exact e1.symm
  have hkm : ∀ k, k ∈ ks ↔ k ∈ ns := fun k => by rw [← hmem k, ← en.me k]; exact met_iff ns k
  have hknd : ks.Nodup := nd_of (met_nd _ _) (fun k hk => (hkm k).mpr ((met_iff ns k).mp (List.any_eq_true.mpr ⟨k, hk, by simp⟩))) hkl
  have h64 : es.size < 64 := by
    rw [en.sz]
    have := firstMet_length_le (fun i => ns.getD i 0) ns.length
    omega
  refine sorted_set (s := { s1 with heap := h', toks := tk }) (I1.ok.hd hc) ⟨⟨o, ho, hx, hd⟩, en.ft⟩ en.tb h64 hks fun l out ms h2 d2 tk2 a1 a2 a3 hle kp2 hil => ?_
  have kall : ∀ b ob, s1.heap.get? b = some ob → h2.get? b = some ob := fun b ob z => kp2 b ob (kp b ob (Heap.lt_size z) z)
  have hle1 : s1.heap.objs.size ≤ l := Nat.le_trans (Nat.le_of_lt (Heap.lt_size ho)) hle
  obtain ⟨el, hel⟩ := hil
  have hml : ms.length < 64 := by
    rw [a2.length_eq, hkl, ← en.sz]
    exact h64
  refine ⟨.ref l, _, (I1.laid (a := l) (o := .lst (ms.map V.int)) (t' := tk2) kall hle1 ⟨?_, out.toList, el, vals_of_ints a1, ?_⟩).draw, rfl, q l ms (I1.hok.fresh hle1) (fun k => (a2.mem_iff).trans (hkm k)) (a2.nodup_iff.mpr hknd) a3⟩
  · rw [List.length_map]
    exact Nat.le_trans (Nat.le_of_lt hml) (by decide)
  · rw [hel]
end
end L2

set_option Elab.async false
set_option linter.all false
set_option maxRecDepth 100000
set_option maxHeartbeats 4000000
namespace K14
open PySem L2
def top (i : Nat) : Stmt := PySem.Challenge.pw_knotless_k14_opens.main.body.getD i (.Pass ⟨0, 0, 0, 0⟩)
abbrev s_offer : Stmt := (top 1)
abbrev s_ups : Stmt := (top 3)
abbrev s_opens : Stmt := (top 4)
abbrev s_open_at : Stmt := (top 5)
abbrev s_up_of : Stmt := (top 6)
abbrev s_Townu_initu : Stmt := (inClass (top 16) 0)
abbrev s_Town_rope : Stmt := (inClass (top 16) 2)
abbrev s_Town_ropes_at : Stmt := (inClass (top 16) 3)
abbrev s_Town_far_end : Stmt := (inClass (top 16) 4)
abbrev s_check_names : Stmt := (top 17)
abbrev s_check_ropes : Stmt := (top 18)
abbrev s_check_rope : Stmt := (top 19)
abbrev s_joins_two : Stmt := (top 20)
abbrev s_w_cell : Stmt := (top 22)
abbrev s_w_whole : Stmt := (top 23)
abbrev s_w_numbers : Stmt := (top 24)
abbrev s_w_names : Stmt := (top 25)
abbrev s_w_rope : Stmt := (top 26)
abbrev s_w_town : Stmt := (top 27)
abbrev s_w_row : Stmt := (top 28)
abbrev s_w_rows : Stmt := (top 29)
abbrev s_w_ought : Stmt := (top 30)
abbrev s_w_hung : Stmt := (top 31)
abbrev s_w_deed : Stmt := (top 32)
abbrev s_w_asked : Stmt := (top 33)
abbrev s_w_both : Stmt := (top 34)
abbrev s_law : Stmt := (top 35)
theorem sc_offer : FnScope ["town", "row", "rope", "hops"] ["town", "row", "rope"] (defScope s_offer) := ⟨rfl, rfl, rfl, by decide +kernel, rfl, by decide +kernel, by decide +kernel⟩
theorem sc_ups : FnScope ["town", "live", "rows"] ["town", "live", "rows"] (defScope s_ups) := ⟨rfl, rfl, rfl, by decide +kernel, rfl, by decide +kernel, by decide +kernel⟩
theorem nd_ups_c0 : (["house", "live", "rows", "town"] : List Str).Nodup := by decide +kernel
theorem sc_opens : FnScope ["town", "live", "rows"] ["town", "live", "rows"] (defScope s_opens) := ⟨rfl, rfl, rfl, by decide +kernel, rfl, by decide +kernel, by decide +kernel⟩
theorem nd_opens_c0 : (["up"] : List Str).Nodup := by decide +kernel
theorem sc_open_at : FnScope ["town", "live", "rows", "house", "joined"] ["town", "live", "rows", "house"] (defScope s_open_at) := ⟨rfl, rfl, rfl, by decide +kernel, rfl, by decide +kernel, by decide +kernel⟩
theorem nd_open_at_c0 : (["rope", "joined"] : List Str).Nodup := by decide +kernel
theorem sc_up_of : FnScope ["town", "live", "rows", "house", "rope", "other"] ["town", "live", "rows", "house"] (defScope s_up_of) := ⟨rfl, rfl, rfl, by decide +kernel, rfl, by decide +kernel, by decide +kernel⟩
theorem sc_Townu_initu : FnScope ["self", "names", "ropes"] ["self", "names", "ropes"] (defScope s_Townu_initu) := ⟨rfl, rfl, rfl, by decide +kernel, rfl, by decide +kernel, by decide +kernel⟩
theorem sc_Town_rope : FnScope ["self", "number"] ["self", "number"] (defScope s_Town_rope) := ⟨rfl, rfl, rfl, by decide +kernel, rfl, by decide +kernel, by decide +kernel⟩
theorem sc_Town_ropes_at : FnScope ["self", "house"] ["self", "house"] (defScope s_Town_ropes_at) := ⟨rfl, rfl, rfl, by decide +kernel, rfl, by decide +kernel, by decide +kernel⟩
theorem nd_Town_ropes_at_c0 : (["number", "rope", "house"] : List Str).Nodup := by decide +kernel
theorem sc_Town_far_end : FnScope ["self", "rope", "house", "ends"] ["self", "rope", "house"] (defScope s_Town_far_end) := ⟨rfl, rfl, rfl, by decide +kernel, rfl, by decide +kernel, by decide +kernel⟩
theorem sc_check_names : FnScope ["names"] ["names"] (defScope s_check_names) := ⟨rfl, rfl, rfl, by decide +kernel, rfl, by decide +kernel, by decide +kernel⟩
theorem sc_check_ropes : FnScope ["size", "ropes", "rope"] ["size", "ropes"] (defScope s_check_ropes) := ⟨rfl, rfl, rfl, by decide +kernel, rfl, by decide +kernel, by decide +kernel⟩
theorem sc_check_rope : FnScope ["size", "rope"] ["size", "rope"] (defScope s_check_rope) := ⟨rfl, rfl, rfl, by decide +kernel, rfl, by decide +kernel, by decide +kernel⟩
theorem sc_joins_two : FnScope ["size", "one", "other"] ["size", "one", "other"] (defScope s_joins_two) := ⟨rfl, rfl, rfl, by decide +kernel, rfl, by decide +kernel, by decide +kernel⟩
theorem sc_w_cell : FnScope ["_law_script", "_law_k"] ["_law_script", "_law_k"] (defScope s_w_cell) := ⟨rfl, rfl, rfl, by decide +kernel, rfl, by decide +kernel, by decide +kernel⟩
theorem sc_w_whole : FnScope ["_law_found"] ["_law_found"] (defScope s_w_whole) := ⟨rfl, rfl, rfl, by decide +kernel, rfl, by decide +kernel, by decide +kernel⟩
theorem sc_w_numbers : FnScope ["_law_found", "_law_ought_here", "_law_one", "_law_other"] ["_law_found", "_law_ought_here"] (defScope s_w_numbers) := ⟨rfl, rfl, rfl, by decide +kernel, rfl, by decide +kernel, by decide +kernel⟩
theorem sc_w_names : FnScope ["_law_cell_here", "_law_size", "_law_names_here", "_law_k", "_law_name"] ["_law_cell_here", "_law_size"] (defScope s_w_names) := ⟨rfl, rfl, rfl, by decide +kernel, rfl, by decide +kernel, by decide +kernel⟩
theorem sc_w_rope : FnScope ["_law_cell_here", "_law_size", "_law_one", "_law_other", "_law_cost", "_law_lets"] ["_law_cell_here", "_law_size"] (defScope s_w_rope) := ⟨rfl, rfl, rfl, by decide +kernel, rfl, by decide +kernel, by decide +kernel⟩
theorem sc_w_town : FnScope ["_law_script", "_law_head", "_law_size", "_law_names_here", "_law_ropes", "_law_k", "_law_live"] ["_law_script"] (defScope s_w_town) := ⟨rfl, rfl, rfl, by decide +kernel, rfl, by decide +kernel, by decide +kernel⟩
theorem sc_w_row : FnScope ["_law_cell_here", "_law_names_here", "_law_many", "_law_head", "_law_cost", "_law_by"] ["_law_cell_here", "_law_names_here", "_law_many"] (defScope s_w_row) := ⟨rfl, rfl, rfl, by decide +kernel, rfl, by decide +kernel, by decide +kernel⟩
theorem sc_w_rows : FnScope ["_law_script", "_law_names_here", "_law_many", "_law_rows_here", "_law_house", "_law_cell_here"] ["_law_script", "_law_names_here", "_law_many"] (defScope s_w_rows) := ⟨rfl, rfl, rfl, by decide +kernel, rfl, by decide +kernel, by decide +kernel⟩
theorem sc_w_ought : FnScope ["_law_size", "_law_names_here", "_law_ropes", "_law_live", "_law_rows_here", "_law_house", "_law_best", "_law_rope_here", "_law_one", "_law_other", "_law_cost", "_law_row_here"] ["_law_size", "_law_names_here", "_law_ropes", "_law_live", "_law_rows_here", "_law_house"] (defScope s_w_ought) := ⟨rfl, rfl, rfl, by decide +kernel, rfl, by decide +kernel, by decide +kernel⟩
theorem sc_w_hung : FnScope ["_law_size", "_law_ropes", "_law_live", "_law_rows_here", "_law_found", "_law_house", "_law_rope_here", "_law_one", "_law_other", "_law_row_here", "_law_offered"] ["_law_size", "_law_ropes", "_law_live", "_law_rows_here"] (defScope s_w_hung) := ⟨rfl, rfl, rfl, by decide +kernel, rfl, by decide +kernel, by decide +kernel⟩
theorem sc_w_deed : FnScope ["_law_script", "_law_k", "_law_told", "_law_rows_here", "_law_size", "_law_names_here", "_law_ropes", "_law_live", "_law_cell_here", "_law_house", "_law_behind"] ["_law_script", "_law_k", "_law_told", "_law_rows_here"] (defScope s_w_deed) := ⟨rfl, rfl, rfl, by decide +kernel, rfl, by decide +kernel, by decide +kernel⟩
theorem sc_w_asked : FnScope ["_law_made", "_law_told", "_law_rows_here", "_law_bit", "_law_size", "_law_names_here", "_law_ropes", "_law_live", "_law_hung_here", "_law_ought_here", "_law_handed", "_law_house", "_law_own", "_law_found"] ["_law_made", "_law_told", "_law_rows_here", "_law_bit"] (defScope s_w_asked) := ⟨rfl, rfl, rfl, by decide +kernel, rfl, by decide +kernel, by decide +kernel⟩
theorem nd_w_asked_c0 : (["_law_one"] : List Str).Nodup := by decide +kernel
theorem nd_w_asked_c1 : (["_law_rope_here", "_law_house", "_law_ropes"] : List Str).Nodup := by decide +kernel
theorem sc_w_both : FnScope ["_law_made", "_law_told", "_law_rows_here", "_law_bit", "_law_size", "_law_names_here", "_law_ropes", "_law_live"] ["_law_made", "_law_told", "_law_rows_here", "_law_bit"] (defScope s_w_both) := ⟨rfl, rfl, rfl, by decide +kernel, rfl, by decide +kernel, by decide +kernel⟩
theorem sc_law : FnScope ["_law_script", "_law_told", "_law_names_here", "_law_made", "_law_rows_here", "_law_k"] ["_law_script"] (defScope s_law) := ⟨rfl, rfl, rfl, by decide +kernel, rfl, by decide +kernel, by decide +kernel⟩
set_option genInjectivity false in
structure Ad where
  f_offer : Addr
  d_offer : FuncData
  f_ups : Addr
  d_ups : FuncData
  f_opens : Addr
  d_opens : FuncData
  f_open_at : Addr
  d_open_at : FuncData
  f_up_of : Addr
  d_up_of : FuncData
  f_Townu_initu : Addr
  d_Townu_initu : FuncData
  f_Town_rope : Addr
  d_Town_rope : FuncData
  f_Town_ropes_at : Addr
  d_Town_ropes_at : FuncData
  f_Town_far_end : Addr
  d_Town_far_end : FuncData
  f_check_names : Addr
  d_check_names : FuncData
  f_check_ropes : Addr
  d_check_ropes : FuncData
  f_check_rope : Addr
  d_check_rope : FuncData
  f_joins_two : Addr
  d_joins_two : FuncData
  f_w_cell : Addr
  d_w_cell : FuncData
  f_w_whole : Addr
  d_w_whole : FuncData
  f_w_numbers : Addr
  d_w_numbers : FuncData
  f_w_names : Addr
  d_w_names : FuncData
  f_w_rope : Addr
  d_w_rope : FuncData
  f_w_town : Addr
  d_w_town : FuncData
  f_w_row : Addr
  d_w_row : FuncData
  f_w_rows : Addr
  d_w_rows : FuncData
  f_w_ought : Addr
  d_w_ought : FuncData
  f_w_hung : Addr
  d_w_hung : FuncData
  f_w_deed : Addr
  d_w_deed : FuncData
  f_w_asked : Addr
  d_w_asked : FuncData
  f_w_both : Addr
  d_w_both : FuncData
  f_law : Addr
  d_law : FuncData
  a_Town : Addr
  q_MOST_HOUSES : Tok
  q_MOST_ROPES : Tok
  q_MOST_WIRES : Tok
  q_ALL_GROUPS : Tok
structure Txt (K : PySem.W.Frag) (mg : Str → Option Value) (t : Ad) : Prop where
  F_offer : Fun K "offer" "offer" s_offer t.f_offer t.d_offer
  B_offer : Binds K t.d_offer ["town", "row", "rope"] []
  g_offer : mg "offer" = some (.ref t.f_offer)
  F_ups : Fun K "ups" "ups" s_ups t.f_ups t.d_ups
  B_ups : Binds K t.d_ups ["town", "live", "rows"] []
  g_ups : mg "ups" = some (.ref t.f_ups)
  F_opens : Fun K "opens" "opens" s_opens t.f_opens t.d_opens
  B_opens : Binds K t.d_opens ["town", "live", "rows"] []
  g_opens : mg "opens" = some (.ref t.f_opens)
  F_open_at : Fun K "open_at" "open_at" s_open_at t.f_open_at t.d_open_at
  B_open_at : Binds K t.d_open_at ["town", "live", "rows", "house"] []
  g_open_at : mg "open_at" = some (.ref t.f_open_at)
  F_up_of : Fun K "up_of" "up_of" s_up_of t.f_up_of t.d_up_of
  B_up_of : Binds K t.d_up_of ["town", "live", "rows", "house"] []
  g_up_of : mg "up_of" = some (.ref t.f_up_of)
  F_Townu_initu : Fun K "__init__" "Town.__init__" s_Townu_initu t.f_Townu_initu t.d_Townu_initu
  B_Townu_initu : Binds K t.d_Townu_initu ["self", "names", "ropes"] []
  K_Town : Mk K t.a_Town t.f_Townu_initu
  F_Town_rope : Fun K "rope" "Town.rope" s_Town_rope t.f_Town_rope t.d_Town_rope
  B_Town_rope : Binds K t.d_Town_rope ["self", "number"] []
  m_Town_rope : Meth K t.a_Town "rope" t.f_Town_rope
  F_Town_ropes_at : Fun K "ropes_at" "Town.ropes_at" s_Town_ropes_at t.f_Town_ropes_at t.d_Town_ropes_at
  B_Town_ropes_at : Binds K t.d_Town_ropes_at ["self", "house"] []
  m_Town_ropes_at : Meth K t.a_Town "ropes_at" t.f_Town_ropes_at
  F_Town_far_end : Fun K "far_end" "Town.far_end" s_Town_far_end t.f_Town_far_end t.d_Town_far_end
  B_Town_far_end : Binds K t.d_Town_far_end ["self", "rope", "house"] []
  m_Town_far_end : Meth K t.a_Town "far_end" t.f_Town_far_end
  F_check_names : Fun K "check_names" "check_names" s_check_names t.f_check_names t.d_check_names
  B_check_names : Binds K t.d_check_names ["names"] []
  g_check_names : mg "check_names" = some (.ref t.f_check_names)
  F_check_ropes : Fun K "check_ropes" "check_ropes" s_check_ropes t.f_check_ropes t.d_check_ropes
  B_check_ropes : Binds K t.d_check_ropes ["size", "ropes"] []
  g_check_ropes : mg "check_ropes" = some (.ref t.f_check_ropes)
  F_check_rope : Fun K "check_rope" "check_rope" s_check_rope t.f_check_rope t.d_check_rope
  B_check_rope : Binds K t.d_check_rope ["size", "rope"] []
  g_check_rope : mg "check_rope" = some (.ref t.f_check_rope)
  F_joins_two : Fun K "joins_two" "joins_two" s_joins_two t.f_joins_two t.d_joins_two
  B_joins_two : Binds K t.d_joins_two ["size", "one", "other"] []
  g_joins_two : mg "joins_two" = some (.ref t.f_joins_two)
  F_w_cell : Fun K "_law_cell" "_law_cell" s_w_cell t.f_w_cell t.d_w_cell
  B_w_cell : Binds K t.d_w_cell ["_law_script", "_law_k"] []
  g_w_cell : mg "_law_cell" = some (.ref t.f_w_cell)
  F_w_whole : Fun K "_law_whole" "_law_whole" s_w_whole t.f_w_whole t.d_w_whole
  B_w_whole : Binds K t.d_w_whole ["_law_found"] []
  g_w_whole : mg "_law_whole" = some (.ref t.f_w_whole)
  F_w_numbers : Fun K "_law_numbers" "_law_numbers" s_w_numbers t.f_w_numbers t.d_w_numbers
  B_w_numbers : Binds K t.d_w_numbers ["_law_found", "_law_ought_here"] []
  g_w_numbers : mg "_law_numbers" = some (.ref t.f_w_numbers)
  F_w_names : Fun K "_law_names" "_law_names" s_w_names t.f_w_names t.d_w_names
  B_w_names : Binds K t.d_w_names ["_law_cell_here", "_law_size"] []
  g_w_names : mg "_law_names" = some (.ref t.f_w_names)
  F_w_rope : Fun K "_law_rope" "_law_rope" s_w_rope t.f_w_rope t.d_w_rope
  B_w_rope : Binds K t.d_w_rope ["_law_cell_here", "_law_size"] []
  g_w_rope : mg "_law_rope" = some (.ref t.f_w_rope)
  F_w_town : Fun K "_law_town" "_law_town" s_w_town t.f_w_town t.d_w_town
  B_w_town : Binds K t.d_w_town ["_law_script"] []
  g_w_town : mg "_law_town" = some (.ref t.f_w_town)
  F_w_row : Fun K "_law_row" "_law_row" s_w_row t.f_w_row t.d_w_row
  B_w_row : Binds K t.d_w_row ["_law_cell_here", "_law_names_here", "_law_many"] []
  g_w_row : mg "_law_row" = some (.ref t.f_w_row)
  F_w_rows : Fun K "_law_rows" "_law_rows" s_w_rows t.f_w_rows t.d_w_rows
  B_w_rows : Binds K t.d_w_rows ["_law_script", "_law_names_here", "_law_many"] []
  g_w_rows : mg "_law_rows" = some (.ref t.f_w_rows)
  F_w_ought : Fun K "_law_ought" "_law_ought" s_w_ought t.f_w_ought t.d_w_ought
  B_w_ought : Binds K t.d_w_ought ["_law_size", "_law_names_here", "_law_ropes", "_law_live", "_law_rows_here", "_law_house"] []
  g_w_ought : mg "_law_ought" = some (.ref t.f_w_ought)
  F_w_hung : Fun K "_law_hung" "_law_hung" s_w_hung t.f_w_hung t.d_w_hung
  B_w_hung : Binds K t.d_w_hung ["_law_size", "_law_ropes", "_law_live", "_law_rows_here"] []
  g_w_hung : mg "_law_hung" = some (.ref t.f_w_hung)
  F_w_deed : Fun K "_law_deed" "_law_deed" s_w_deed t.f_w_deed t.d_w_deed
  B_w_deed : Binds K t.d_w_deed ["_law_script", "_law_k", "_law_told", "_law_rows_here"] []
  g_w_deed : mg "_law_deed" = some (.ref t.f_w_deed)
  F_w_asked : Fun K "_law_asked" "_law_asked" s_w_asked t.f_w_asked t.d_w_asked
  B_w_asked : Binds K t.d_w_asked ["_law_made", "_law_told", "_law_rows_here", "_law_bit"] []
  g_w_asked : mg "_law_asked" = some (.ref t.f_w_asked)
  F_w_both : Fun K "_law_both" "_law_both" s_w_both t.f_w_both t.d_w_both
  B_w_both : Binds K t.d_w_both ["_law_made", "_law_told", "_law_rows_here", "_law_bit"] []
  g_w_both : mg "_law_both" = some (.ref t.f_w_both)
  F_law : Fun K "law" "law" s_law t.f_law t.d_law
  B_law : Binds K t.d_law ["_law_script"] []
  g_law : mg "law" = some (.ref t.f_law)
  c_Town : Cls K t.a_Town
  g_Town : mg "Town" = some (.ref t.a_Town)
  n_Town_house_names : NoAttr K t.a_Town "house_names"
  n_Town_rope_tuples : NoAttr K t.a_Town "rope_tuples"
  n_Town_size : NoAttr K t.a_Town "size"
  n_Town_many : NoAttr K t.a_Town "many"
  k_MOST_HOUSES : mg "MOST_HOUSES" = some (.int 10 t.q_MOST_HOUSES)
  k_MOST_ROPES : mg "MOST_ROPES" = some (.int 20 t.q_MOST_ROPES)
  k_MOST_WIRES : mg "MOST_WIRES" = some (.int 4 t.q_MOST_WIRES)
  k_ALL_GROUPS : mg "ALL_GROUPS" = some (.int 7 t.q_ALL_GROUPS)
  n_len : mg "len" = none
  n_isinstance : mg "isinstance" = none
  n_int : mg "int" = none
  n_bool : mg "bool" = none
  n_list : mg "list" = none
  n_range : mg "range" = none
  n_enumerate : mg "enumerate" = none
  n_min : mg "min" = none
  n_set : mg "set" = none
  n_sorted : mg "sorted" = none
  n_zip : mg "zip" = none
theorem el1 {α : Type} {M : List α → Prop} (h : ∀ x0, M [x0]) : ∀ us : List α, us.length = 1 → M us
  | [_], _ => h _
theorem el2 {α : Type} {M : List α → Prop} (h : ∀ x0 x1, M [x0, x1]) : ∀ us : List α, us.length = 2 → M us
  | [_, _], _ => h _ _
theorem el3 {α : Type} {M : List α → Prop} (h : ∀ x0 x1 x2, M [x0, x1, x2]) : ∀ us : List α, us.length = 3 → M us
  | [_, _, _], _ => h _ _ _
theorem el4 {α : Type} {M : List α → Prop} (h : ∀ x0 x1 x2 x3, M [x0, x1, x2, x3]) : ∀ us : List α, us.length = 4 → M us
  | [_, _, _, _], _ => h _ _ _ _
theorem el6 {α : Type} {M : List α → Prop} (h : ∀ x0 x1 x2 x3 x4 x5, M [x0, x1, x2, x3, x4, x5]) : ∀ us : List α, us.length = 6 → M us
  | [_, _, _, _, _, _], _ => h _ _ _ _ _ _
theorem txt_mk {K : PySem.W.Frag} {h : Heap} {mg : Str → Option Value} (X : K.In h) (G : h.Ns mainGlobals mg) {oc_offer kV_offer dc_offer pm_offer cd_offer ct_offer : Value} {od_offer an_offer : Option Addr} {sl_offer : Array (Option Value)} {f_offer : Addr}
    {oc_ups kV_ups dc_ups pm_ups cd_ups ct_ups : Value} {od_ups an_ups : Option Addr} {sl_ups : Array (Option Value)} {f_ups : Addr}
    {oc_opens kV_opens dc_opens pm_opens cd_opens ct_opens : Value} {od_opens an_opens : Option Addr} {sl_opens : Array (Option Value)} {f_opens : Addr}
    {oc_open_at kV_open_at dc_open_at pm_open_at cd_open_at ct_open_at : Value} {od_open_at an_open_at : Option Addr} {sl_open_at : Array (Option Value)} {f_open_at : Addr}
    {oc_up_of kV_up_of dc_up_of pm_up_of cd_up_of ct_up_of : Value} {od_up_of an_up_of : Option Addr} {sl_up_of : Array (Option Value)} {f_up_of : Addr}
    {oc_Townu_initu kV_Townu_initu dc_Townu_initu pm_Townu_initu cd_Townu_initu ct_Townu_initu : Value} {od_Townu_initu an_Townu_initu : Option Addr} {sl_Townu_initu : Array (Option Value)} {f_Townu_initu : Addr}
    {oc_Town_rope kV_Town_rope dc_Town_rope pm_Town_rope cd_Town_rope ct_Town_rope : Value} {od_Town_rope an_Town_rope : Option Addr} {sl_Town_rope : Array (Option Value)} {f_Town_rope : Addr}
    {oc_Town_ropes_at kV_Town_ropes_at dc_Town_ropes_at pm_Town_ropes_at cd_Town_ropes_at ct_Town_ropes_at : Value} {od_Town_ropes_at an_Town_ropes_at : Option Addr} {sl_Town_ropes_at : Array (Option Value)} {f_Town_ropes_at : Addr}
    {oc_Town_far_end kV_Town_far_end dc_Town_far_end pm_Town_far_end cd_Town_far_end ct_Town_far_end : Value} {od_Town_far_end an_Town_far_end : Option Addr} {sl_Town_far_end : Array (Option Value)} {f_Town_far_end : Addr}
    {oc_check_names kV_check_names dc_check_names pm_check_names cd_check_names ct_check_names : Value} {od_check_names an_check_names : Option Addr} {sl_check_names : Array (Option Value)} {f_check_names : Addr}
    {oc_check_ropes kV_check_ropes dc_check_ropes pm_check_ropes cd_check_ropes ct_check_ropes : Value} {od_check_ropes an_check_ropes : Option Addr} {sl_check_ropes : Array (Option Value)} {f_check_ropes : Addr}
    {oc_check_rope kV_check_rope dc_check_rope pm_check_rope cd_check_rope ct_check_rope : Value} {od_check_rope an_check_rope : Option Addr} {sl_check_rope : Array (Option Value)} {f_check_rope : Addr}
    {oc_joins_two kV_joins_two dc_joins_two pm_joins_two cd_joins_two ct_joins_two : Value} {od_joins_two an_joins_two : Option Addr} {sl_joins_two : Array (Option Value)} {f_joins_two : Addr}
    {oc_w_cell kV_w_cell dc_w_cell pm_w_cell cd_w_cell ct_w_cell : Value} {od_w_cell an_w_cell : Option Addr} {sl_w_cell : Array (Option Value)} {f_w_cell : Addr}
    {oc_w_whole kV_w_whole dc_w_whole pm_w_whole cd_w_whole ct_w_whole : Value} {od_w_whole an_w_whole : Option Addr} {sl_w_whole : Array (Option Value)} {f_w_whole : Addr}
    {oc_w_numbers kV_w_numbers dc_w_numbers pm_w_numbers cd_w_numbers ct_w_numbers : Value} {od_w_numbers an_w_numbers : Option Addr} {sl_w_numbers : Array (Option Value)} {f_w_numbers : Addr}
    {oc_w_names kV_w_names dc_w_names pm_w_names cd_w_names ct_w_names : Value} {od_w_names an_w_names : Option Addr} {sl_w_names : Array (Option Value)} {f_w_names : Addr}
    {oc_w_rope kV_w_rope dc_w_rope pm_w_rope cd_w_rope ct_w_rope : Value} {od_w_rope an_w_rope : Option Addr} {sl_w_rope : Array (Option Value)} {f_w_rope : Addr}
    {oc_w_town kV_w_town dc_w_town pm_w_town cd_w_town ct_w_town : Value} {od_w_town an_w_town : Option Addr} {sl_w_town : Array (Option Value)} {f_w_town : Addr}
    {oc_w_row kV_w_row dc_w_row pm_w_row cd_w_row ct_w_row : Value} {od_w_row an_w_row : Option Addr} {sl_w_row : Array (Option Value)} {f_w_row : Addr}
    {oc_w_rows kV_w_rows dc_w_rows pm_w_rows cd_w_rows ct_w_rows : Value} {od_w_rows an_w_rows : Option Addr} {sl_w_rows : Array (Option Value)} {f_w_rows : Addr}
    {oc_w_ought kV_w_ought dc_w_ought pm_w_ought cd_w_ought ct_w_ought : Value} {od_w_ought an_w_ought : Option Addr} {sl_w_ought : Array (Option Value)} {f_w_ought : Addr}
    {oc_w_hung kV_w_hung dc_w_hung pm_w_hung cd_w_hung ct_w_hung : Value} {od_w_hung an_w_hung : Option Addr} {sl_w_hung : Array (Option Value)} {f_w_hung : Addr}
    {oc_w_deed kV_w_deed dc_w_deed pm_w_deed cd_w_deed ct_w_deed : Value} {od_w_deed an_w_deed : Option Addr} {sl_w_deed : Array (Option Value)} {f_w_deed : Addr}
    {oc_w_asked kV_w_asked dc_w_asked pm_w_asked cd_w_asked ct_w_asked : Value} {od_w_asked an_w_asked : Option Addr} {sl_w_asked : Array (Option Value)} {f_w_asked : Addr}
    {oc_w_both kV_w_both dc_w_both pm_w_both cd_w_both ct_w_both : Value} {od_w_both an_w_both : Option Addr} {sl_w_both : Array (Option Value)} {f_w_both : Addr}
    {oc_law kV_law dc_law pm_law cd_law ct_law : Value} {od_law an_law : Option Addr} {sl_law : Array (Option Value)} {f_law : Addr}
    {C_Town : Addr}
    {q_MOST_HOUSES : Tok}
    {q_MOST_ROPES : Tok}
    {q_MOST_WIRES : Tok}
    {q_ALL_GROUPS : Tok}
    (aC_Town : PySem.W.nsIn K mainGlobals "Town" = some (some (.ref C_Town)))
    (a_offer : PySem.W.nsIn K mainGlobals "offer" = some (some (.ref f_offer)))
    (l_offer : K.lookup f_offer = some ⟨oc_offer, od_offer, .func (PySem.W.fnOf "offer" "offer" (defArgs s_offer) (defBody s_offer) (defScope s_offer) .none kV_offer dc_offer pm_offer an_offer cd_offer ct_offer), sl_offer⟩)
    (c_offer : PySem.W.codeIn K cd_offer "offer" = true)
    (k_offer : PySem.W.keepIn K (.ref f_offer) = true)
    (a_ups : PySem.W.nsIn K mainGlobals "ups" = some (some (.ref f_ups)))
    (l_ups : K.lookup f_ups = some ⟨oc_ups, od_ups, .func (PySem.W.fnOf "ups" "ups" (defArgs s_ups) (defBody s_ups) (defScope s_ups) .none kV_ups dc_ups pm_ups an_ups cd_ups ct_ups), sl_ups⟩)
    (c_ups : PySem.W.codeIn K cd_ups "ups" = true)
    (k_ups : PySem.W.keepIn K (.ref f_ups) = true)
    (a_opens : PySem.W.nsIn K mainGlobals "opens" = some (some (.ref f_opens)))
    (l_opens : K.lookup f_opens = some ⟨oc_opens, od_opens, .func (PySem.W.fnOf "opens" "opens" (defArgs s_opens) (defBody s_opens) (defScope s_opens) .none kV_opens dc_opens pm_opens an_opens cd_opens ct_opens), sl_opens⟩)
    (c_opens : PySem.W.codeIn K cd_opens "opens" = true)
    (k_opens : PySem.W.keepIn K (.ref f_opens) = true)
    (a_open_at : PySem.W.nsIn K mainGlobals "open_at" = some (some (.ref f_open_at)))
    (l_open_at : K.lookup f_open_at = some ⟨oc_open_at, od_open_at, .func (PySem.W.fnOf "open_at" "open_at" (defArgs s_open_at) (defBody s_open_at) (defScope s_open_at) .none kV_open_at dc_open_at pm_open_at an_open_at cd_open_at ct_open_at), sl_open_at⟩)
    (c_open_at : PySem.W.codeIn K cd_open_at "open_at" = true)
    (k_open_at : PySem.W.keepIn K (.ref f_open_at) = true)
    (a_up_of : PySem.W.nsIn K mainGlobals "up_of" = some (some (.ref f_up_of)))
    (l_up_of : K.lookup f_up_of = some ⟨oc_up_of, od_up_of, .func (PySem.W.fnOf "up_of" "up_of" (defArgs s_up_of) (defBody s_up_of) (defScope s_up_of) .none kV_up_of dc_up_of pm_up_of an_up_of cd_up_of ct_up_of), sl_up_of⟩)
    (c_up_of : PySem.W.codeIn K cd_up_of "up_of" = true)
    (k_up_of : PySem.W.keepIn K (.ref f_up_of) = true)
    (a_Townu_initu : PySem.W.findIn K (.ref C_Town) "__init__" = some (some (.ref f_Townu_initu)))
    (i_Townu_initu : PySem.W.isFn K (.ref f_Townu_initu) = true)
    (l_Townu_initu : K.lookup f_Townu_initu = some ⟨oc_Townu_initu, od_Townu_initu, .func (PySem.W.fnOf "__init__" "Town.__init__" (defArgs s_Townu_initu) (defBody s_Townu_initu) (defScope s_Townu_initu) .none kV_Townu_initu dc_Townu_initu pm_Townu_initu an_Townu_initu cd_Townu_initu ct_Townu_initu), sl_Townu_initu⟩)
    (c_Townu_initu : PySem.W.codeIn K cd_Townu_initu "Town.__init__" = true)
    (k_Townu_initu : PySem.W.keepIn K (.ref f_Townu_initu) = true)
    (a_Town_rope : PySem.W.findIn K (.ref C_Town) "rope" = some (some (.ref f_Town_rope)))
    (i_Town_rope : PySem.W.isFn K (.ref f_Town_rope) = true)
    (l_Town_rope : K.lookup f_Town_rope = some ⟨oc_Town_rope, od_Town_rope, .func (PySem.W.fnOf "rope" "Town.rope" (defArgs s_Town_rope) (defBody s_Town_rope) (defScope s_Town_rope) .none kV_Town_rope dc_Town_rope pm_Town_rope an_Town_rope cd_Town_rope ct_Town_rope), sl_Town_rope⟩)
    (c_Town_rope : PySem.W.codeIn K cd_Town_rope "Town.rope" = true)
    (k_Town_rope : PySem.W.keepIn K (.ref f_Town_rope) = true)
    (a_Town_ropes_at : PySem.W.findIn K (.ref C_Town) "ropes_at" = some (some (.ref f_Town_ropes_at)))
    (i_Town_ropes_at : PySem.W.isFn K (.ref f_Town_ropes_at) = true)
    (l_Town_ropes_at : K.lookup f_Town_ropes_at = some ⟨oc_Town_ropes_at, od_Town_ropes_at, .func (PySem.W.fnOf "ropes_at" "Town.ropes_at" (defArgs s_Town_ropes_at) (defBody s_Town_ropes_at) (defScope s_Town_ropes_at) .none kV_Town_ropes_at dc_Town_ropes_at pm_Town_ropes_at an_Town_ropes_at cd_Town_ropes_at ct_Town_ropes_at), sl_Town_ropes_at⟩)
    (c_Town_ropes_at : PySem.W.codeIn K cd_Town_ropes_at "Town.ropes_at" = true)
    (k_Town_ropes_at : PySem.W.keepIn K (.ref f_Town_ropes_at) = true)
    (a_Town_far_end : PySem.W.findIn K (.ref C_Town) "far_end" = some (some (.ref f_Town_far_end)))
    (i_Town_far_end : PySem.W.isFn K (.ref f_Town_far_end) = true)
    (l_Town_far_end : K.lookup f_Town_far_end = some ⟨oc_Town_far_end, od_Town_far_end, .func (PySem.W.fnOf "far_end" "Town.far_end" (defArgs s_Town_far_end) (defBody s_Town_far_end) (defScope s_Town_far_end) .none kV_Town_far_end dc_Town_far_end pm_Town_far_end an_Town_far_end cd_Town_far_end ct_Town_far_end), sl_Town_far_end⟩)
    (c_Town_far_end : PySem.W.codeIn K cd_Town_far_end "Town.far_end" = true)
    (k_Town_far_end : PySem.W.keepIn K (.ref f_Town_far_end) = true)
    (a_check_names : PySem.W.nsIn K mainGlobals "check_names" = some (some (.ref f_check_names)))
    (l_check_names : K.lookup f_check_names = some ⟨oc_check_names, od_check_names, .func (PySem.W.fnOf "check_names" "check_names" (defArgs s_check_names) (defBody s_check_names) (defScope s_check_names) .none kV_check_names dc_check_names pm_check_names an_check_names cd_check_names ct_check_names), sl_check_names⟩)
    (c_check_names : PySem.W.codeIn K cd_check_names "check_names" = true)
    (k_check_names : PySem.W.keepIn K (.ref f_check_names) = true)
    (a_check_ropes : PySem.W.nsIn K mainGlobals "check_ropes" = some (some (.ref f_check_ropes)))
    (l_check_ropes : K.lookup f_check_ropes = some ⟨oc_check_ropes, od_check_ropes, .func (PySem.W.fnOf "check_ropes" "check_ropes" (defArgs s_check_ropes) (defBody s_check_ropes) (defScope s_check_ropes) .none kV_check_ropes dc_check_ropes pm_check_ropes an_check_ropes cd_check_ropes ct_check_ropes), sl_check_ropes⟩)
    (c_check_ropes : PySem.W.codeIn K cd_check_ropes "check_ropes" = true)
    (k_check_ropes : PySem.W.keepIn K (.ref f_check_ropes) = true)
    (a_check_rope : PySem.W.nsIn K mainGlobals "check_rope" = some (some (.ref f_check_rope)))
    (l_check_rope : K.lookup f_check_rope = some ⟨oc_check_rope, od_check_rope, .func (PySem.W.fnOf "check_rope" "check_rope" (defArgs s_check_rope) (defBody s_check_rope) (defScope s_check_rope) .none kV_check_rope dc_check_rope pm_check_rope an_check_rope cd_check_rope ct_check_rope), sl_check_rope⟩)
    (c_check_rope : PySem.W.codeIn K cd_check_rope "check_rope" = true)
    (k_check_rope : PySem.W.keepIn K (.ref f_check_rope) = true)
    (a_joins_two : PySem.W.nsIn K mainGlobals "joins_two" = some (some (.ref f_joins_two)))
    (l_joins_two : K.lookup f_joins_two = some ⟨oc_joins_two, od_joins_two, .func (PySem.W.fnOf "joins_two" "joins_two" (defArgs s_joins_two) (defBody s_joins_two) (defScope s_joins_two) .none kV_joins_two dc_joins_two pm_joins_two an_joins_two cd_joins_two ct_joins_two), sl_joins_two⟩)
    (c_joins_two : PySem.W.codeIn K cd_joins_two "joins_two" = true)
    (k_joins_two : PySem.W.keepIn K (.ref f_joins_two) = true)
    (a_w_cell : PySem.W.nsIn K mainGlobals "_law_cell" = some (some (.ref f_w_cell)))
    (l_w_cell : K.lookup f_w_cell = some ⟨oc_w_cell, od_w_cell, .func (PySem.W.fnOf "_law_cell" "_law_cell" (defArgs s_w_cell) (defBody s_w_cell) (defScope s_w_cell) .none kV_w_cell dc_w_cell pm_w_cell an_w_cell cd_w_cell ct_w_cell), sl_w_cell⟩)
    (c_w_cell : PySem.W.codeIn K cd_w_cell "_law_cell" = true)
    (k_w_cell : PySem.W.keepIn K (.ref f_w_cell) = true)
    (a_w_whole : PySem.W.nsIn K mainGlobals "_law_whole" = some (some (.ref f_w_whole)))
    (l_w_whole : K.lookup f_w_whole = some ⟨oc_w_whole, od_w_whole, .func (PySem.W.fnOf "_law_whole" "_law_whole" (defArgs s_w_whole) (defBody s_w_whole) (defScope s_w_whole) .none kV_w_whole dc_w_whole pm_w_whole an_w_whole cd_w_whole ct_w_whole), sl_w_whole⟩)
    (c_w_whole : PySem.W.codeIn K cd_w_whole "_law_whole" = true)
    (k_w_whole : PySem.W.keepIn K (.ref f_w_whole) = true)
    (a_w_numbers : PySem.W.nsIn K mainGlobals "_law_numbers" = some (some (.ref f_w_numbers)))
    (l_w_numbers : K.lookup f_w_numbers = some ⟨oc_w_numbers, od_w_numbers, .func (PySem.W.fnOf "_law_numbers" "_law_numbers" (defArgs s_w_numbers) (defBody s_w_numbers) (defScope s_w_numbers) .none kV_w_numbers dc_w_numbers pm_w_numbers an_w_numbers cd_w_numbers ct_w_numbers), sl_w_numbers⟩)
    (c_w_numbers : PySem.W.codeIn K cd_w_numbers "_law_numbers" = true)
    (k_w_numbers : PySem.W.keepIn K (.ref f_w_numbers) = true)
    (a_w_names : PySem.W.nsIn K mainGlobals "_law_names" = some (some (.ref f_w_names)))
    (l_w_names : K.lookup f_w_names = some ⟨oc_w_names, od_w_names, .func (PySem.W.fnOf "_law_names" "_law_names" (defArgs s_w_names) (defBody s_w_names) (defScope s_w_names) .none kV_w_names dc_w_names pm_w_names an_w_names cd_w_names ct_w_names), sl_w_names⟩)
    (c_w_names : PySem.W.codeIn K cd_w_names "_law_names" = true)
    (k_w_names : PySem.W.keepIn K (.ref f_w_names) = true)
    (a_w_rope : PySem.W.nsIn K mainGlobals "_law_rope" = some (some (.ref f_w_rope)))
    (l_w_rope : K.lookup f_w_rope = some ⟨oc_w_rope, od_w_rope, .func (PySem.W.fnOf "_law_rope" "_law_rope" (defArgs s_w_rope) (defBody s_w_rope) (defScope s_w_rope) .none kV_w_rope dc_w_rope pm_w_rope an_w_rope cd_w_rope ct_w_rope), sl_w_rope⟩)
    (c_w_rope : PySem.W.codeIn K cd_w_rope "_law_rope" = true)
    (k_w_rope : PySem.W.keepIn K (.ref f_w_rope) = true)
    (a_w_town : PySem.W.nsIn K mainGlobals "_law_town" = some (some (.ref f_w_town)))
    (l_w_town : K.lookup f_w_town = some ⟨oc_w_town, od_w_town, .func (PySem.W.fnOf "_law_town" "_law_town" (defArgs s_w_town) (defBody s_w_town) (defScope s_w_town) .none kV_w_town dc_w_town pm_w_town an_w_town cd_w_town ct_w_town), sl_w_town⟩)
    (c_w_town : PySem.W.codeIn K cd_w_town "_law_town" = true)
    (k_w_town : PySem.W.keepIn K (.ref f_w_town) = true)
    (a_w_row : PySem.W.nsIn K mainGlobals "_law_row" = some (some (.ref f_w_row)))
    (l_w_row : K.lookup f_w_row = some ⟨oc_w_row, od_w_row, .func (PySem.W.fnOf "_law_row" "_law_row" (defArgs s_w_row) (defBody s_w_row) (defScope s_w_row) .none kV_w_row dc_w_row pm_w_row an_w_row cd_w_row ct_w_row), sl_w_row⟩)
    (c_w_row : PySem.W.codeIn K cd_w_row "_law_row" = true)
    (k_w_row : PySem.W.keepIn K (.ref f_w_row) = true)
    (a_w_rows : PySem.W.nsIn K mainGlobals "_law_rows" = some (some (.ref f_w_rows)))
    (l_w_rows : K.lookup f_w_rows = some ⟨oc_w_rows, od_w_rows, .func (PySem.W.fnOf "_law_rows" "_law_rows" (defArgs s_w_rows) (defBody s_w_rows) (defScope s_w_rows) .none kV_w_rows dc_w_rows pm_w_rows an_w_rows cd_w_rows ct_w_rows), sl_w_rows⟩)
    (c_w_rows : PySem.W.codeIn K cd_w_rows "_law_rows" = true)
    (k_w_rows : PySem.W.keepIn K (.ref f_w_rows) = true)
    (a_w_ought : PySem.W.nsIn K mainGlobals "_law_ought" = some (some (.ref f_w_ought)))
    (l_w_ought : K.lookup f_w_ought = some ⟨oc_w_ought, od_w_ought, .func (PySem.W.fnOf "_law_ought" "_law_ought" (defArgs s_w_ought) (defBody s_w_ought) (defScope s_w_ought) .none kV_w_ought dc_w_ought pm_w_ought an_w_ought cd_w_ought ct_w_ought), sl_w_ought⟩)
    (c_w_ought : PySem.W.codeIn K cd_w_ought "_law_ought" = true)
    (k_w_ought : PySem.W.keepIn K (.ref f_w_ought) = true)
    (a_w_hung : PySem.W.nsIn K mainGlobals "_law_hung" = some (some (.ref f_w_hung)))
    (l_w_hung : K.lookup f_w_hung = some ⟨oc_w_hung, od_w_hung, .func (PySem.W.fnOf "_law_hung" "_law_hung" (defArgs s_w_hung) (defBody s_w_hung) (defScope s_w_hung) .none kV_w_hung dc_w_hung pm_w_hung an_w_hung cd_w_hung ct_w_hung), sl_w_hung⟩)
    (c_w_hung : PySem.W.codeIn K cd_w_hung "_law_hung" = true)
    (k_w_hung : PySem.W.keepIn K (.ref f_w_hung) = true)
    (a_w_deed : PySem.W.nsIn K mainGlobals "_law_deed" = some (some (.ref f_w_deed)))
    (l_w_deed : K.lookup f_w_deed = some ⟨oc_w_deed, od_w_deed, .func (PySem.W.fnOf "_law_deed" "_law_deed" (defArgs s_w_deed) (defBody s_w_deed) (defScope s_w_deed) .none kV_w_deed dc_w_deed pm_w_deed an_w_deed cd_w_deed ct_w_deed), sl_w_deed⟩)
    (c_w_deed : PySem.W.codeIn K cd_w_deed "_law_deed" = true)
    (k_w_deed : PySem.W.keepIn K (.ref f_w_deed) = true)
    (a_w_asked : PySem.W.nsIn K mainGlobals "_law_asked" = some (some (.ref f_w_asked)))
    (l_w_asked : K.lookup f_w_asked = some ⟨oc_w_asked, od_w_asked, .func (PySem.W.fnOf "_law_asked" "_law_asked" (defArgs s_w_asked) (defBody s_w_asked) (defScope s_w_asked) .none kV_w_asked dc_w_asked pm_w_asked an_w_asked cd_w_asked ct_w_asked), sl_w_asked⟩)
    (c_w_asked : PySem.W.codeIn K cd_w_asked "_law_asked" = true)
    (k_w_asked : PySem.W.keepIn K (.ref f_w_asked) = true)
    (a_w_both : PySem.W.nsIn K mainGlobals "_law_both" = some (some (.ref f_w_both)))
    (l_w_both : K.lookup f_w_both = some ⟨oc_w_both, od_w_both, .func (PySem.W.fnOf "_law_both" "_law_both" (defArgs s_w_both) (defBody s_w_both) (defScope s_w_both) .none kV_w_both dc_w_both pm_w_both an_w_both cd_w_both ct_w_both), sl_w_both⟩)
    (c_w_both : PySem.W.codeIn K cd_w_both "_law_both" = true)
    (k_w_both : PySem.W.keepIn K (.ref f_w_both) = true)
    (a_law : PySem.W.nsIn K mainGlobals "law" = some (some (.ref f_law)))
    (l_law : K.lookup f_law = some ⟨oc_law, od_law, .func (PySem.W.fnOf "law" "law" (defArgs s_law) (defBody s_law) (defScope s_law) .none kV_law dc_law pm_law an_law cd_law ct_law), sl_law⟩)
    (c_law : PySem.W.codeIn K cd_law "law" = true)
    (k_law : PySem.W.keepIn K (.ref f_law) = true)
    (pg_Town : PySem.W.plainGet K C_Town Str.empty = true)
    (hd_Town : PySem.W.hasDictIn K C_Town = true)
    (po_Town : PySem.W.plainOver K C_Town = true)
    (sa_Town : PySem.W.findIn K (.ref C_Town) "__setattr__" = some (some (.builtin "object.__setattr__")))
    (mk_Town : PySem.W.makesIn K C_Town = true)
    (kc_Town : PySem.W.keepIn K (.ref C_Town) = true)
    (nA_Town_house_names : PySem.W.findIn K (.ref C_Town) "house_names" = some none)
    (nA_Town_rope_tuples : PySem.W.findIn K (.ref C_Town) "rope_tuples" = some none)
    (nA_Town_size : PySem.W.findIn K (.ref C_Town) "size" = some none)
    (nA_Town_many : PySem.W.findIn K (.ref C_Town) "many" = some none)
    (g_MOST_HOUSES : PySem.W.nsIn K mainGlobals "MOST_HOUSES" = some (some (.int 10 q_MOST_HOUSES)))
    (g_MOST_ROPES : PySem.W.nsIn K mainGlobals "MOST_ROPES" = some (some (.int 20 q_MOST_ROPES)))
    (g_MOST_WIRES : PySem.W.nsIn K mainGlobals "MOST_WIRES" = some (some (.int 4 q_MOST_WIRES)))
    (g_ALL_GROUPS : PySem.W.nsIn K mainGlobals "ALL_GROUPS" = some (some (.int 7 q_ALL_GROUPS)))
    (z_len : PySem.W.nsIn K mainGlobals "len" = some none)
    (z_isinstance : PySem.W.nsIn K mainGlobals "isinstance" = some none)
    (z_int : PySem.W.nsIn K mainGlobals "int" = some none)
    (z_bool : PySem.W.nsIn K mainGlobals "bool" = some none)
    (z_list : PySem.W.nsIn K mainGlobals "list" = some none)
    (z_range : PySem.W.nsIn K mainGlobals "range" = some none)
    (z_enumerate : PySem.W.nsIn K mainGlobals "enumerate" = some none)
    (z_min : PySem.W.nsIn K mainGlobals "min" = some none)
    (z_set : PySem.W.nsIn K mainGlobals "set" = some none)
    (z_sorted : PySem.W.nsIn K mainGlobals "sorted" = some none)
    (z_zip : PySem.W.nsIn K mainGlobals "zip" = some none) : ∃ t, Txt K mg t := by
  have F_offer := fun_mk (st := s_offer) l_offer c_offer k_offer
  have F_ups := fun_mk (st := s_ups) l_ups c_ups k_ups
  have F_opens := fun_mk (st := s_opens) l_opens c_opens k_opens
  have F_open_at := fun_mk (st := s_open_at) l_open_at c_open_at k_open_at
  have F_up_of := fun_mk (st := s_up_of) l_up_of c_up_of k_up_of
  have F_Townu_initu := fun_mk (st := s_Townu_initu) l_Townu_initu c_Townu_initu k_Townu_initu
  have F_Town_rope := fun_mk (st := s_Town_rope) l_Town_rope c_Town_rope k_Town_rope
  have F_Town_ropes_at := fun_mk (st := s_Town_ropes_at) l_Town_ropes_at c_Town_ropes_at k_Town_ropes_at
  have F_Town_far_end := fun_mk (st := s_Town_far_end) l_Town_far_end c_Town_far_end k_Town_far_end
  have F_check_names := fun_mk (st := s_check_names) l_check_names c_check_names k_check_names
  have F_check_ropes := fun_mk (st := s_check_ropes) l_check_ropes c_check_ropes k_check_ropes
  have F_check_rope := fun_mk (st := s_check_rope) l_check_rope c_check_rope k_check_rope
  have F_joins_two := fun_mk (st := s_joins_two) l_joins_two c_joins_two k_joins_two
  have F_w_cell := fun_mk (st := s_w_cell) l_w_cell c_w_cell k_w_cell
  have F_w_whole := fun_mk (st := s_w_whole) l_w_whole c_w_whole k_w_whole
  have F_w_numbers := fun_mk (st := s_w_numbers) l_w_numbers c_w_numbers k_w_numbers
  have F_w_names := fun_mk (st := s_w_names) l_w_names c_w_names k_w_names
  have F_w_rope := fun_mk (st := s_w_rope) l_w_rope c_w_rope k_w_rope
  have F_w_town := fun_mk (st := s_w_town) l_w_town c_w_town k_w_town
  have F_w_row := fun_mk (st := s_w_row) l_w_row c_w_row k_w_row
  have F_w_rows := fun_mk (st := s_w_rows) l_w_rows c_w_rows k_w_rows
  have F_w_ought := fun_mk (st := s_w_ought) l_w_ought c_w_ought k_w_ought
  have F_w_hung := fun_mk (st := s_w_hung) l_w_hung c_w_hung k_w_hung
  have F_w_deed := fun_mk (st := s_w_deed) l_w_deed c_w_deed k_w_deed
  have F_w_asked := fun_mk (st := s_w_asked) l_w_asked c_w_asked k_w_asked
  have F_w_both := fun_mk (st := s_w_both) l_w_both c_w_both k_w_both
  have F_law := fun_mk (st := s_law) l_law c_law k_law
  exact ⟨⟨f_offer, (PySem.W.fnOf "offer" "offer" (defArgs s_offer) (defBody s_offer) (defScope s_offer) .none kV_offer dc_offer pm_offer an_offer cd_offer ct_offer), f_ups, (PySem.W.fnOf "ups" "ups" (defArgs s_ups) (defBody s_ups) (defScope s_ups) .none kV_ups dc_ups pm_ups an_ups cd_ups ct_ups), f_opens, (PySem.W.fnOf "opens" "opens" (defArgs s_opens) (defBody s_opens) (defScope s_opens) .none kV_opens dc_opens pm_opens an_opens cd_opens ct_opens), f_open_at, (PySem.W.fnOf "open_at" "open_at" (defArgs s_open_at) (defBody s_open_at) (defScope s_open_at) .none kV_open_at dc_open_at pm_open_at an_open_at cd_open_at ct_open_at), f_up_of, (PySem.W.fnOf "up_of" "up_of" (defArgs s_up_of) (defBody s_up_of) (defScope s_up_of) .none kV_up_of dc_up_of pm_up_of an_up_of cd_up_of ct_up_of), f_Townu_initu, (PySem.W.fnOf "__init__" "Town.__init__" (defArgs s_Townu_initu) (defBody s_Townu_initu) (defScope s_Townu_initu) .none kV_Townu_initu dc_Townu_initu pm_Townu_initu an_Townu_initu cd_Townu_initu ct_Townu_initu), f_Town_rope, (PySem.W.fnOf "rope" "Town.rope" (defArgs s_Town_rope) (defBody s_Town_rope) (defScope s_Town_rope) .none kV_Town_rope dc_Town_rope pm_Town_rope an_Town_rope cd_Town_rope ct_Town_rope), f_Town_ropes_at, (PySem.W.fnOf "ropes_at" "Town.ropes_at" (defArgs s_Town_ropes_at) (defBody s_Town_ropes_at) (defScope s_Town_ropes_at) .none kV_Town_ropes_at dc_Town_ropes_at pm_Town_ropes_at an_Town_ropes_at cd_Town_ropes_at ct_Town_ropes_at), f_Town_far_end, (PySem.W.fnOf "far_end" "Town.far_end" (defArgs s_Town_far_end) (defBody s_Town_far_end) (defScope s_Town_far_end) .none kV_Town_far_end dc_Town_far_end pm_Town_far_end an_Town_far_end cd_Town_far_end ct_Town_far_end), f_check_names, (PySem.W.fnOf "check_names" "check_names" (defArgs s_check_names) (defBody s_check_names) (defScope s_check_names) .none kV_check_names dc_check_names pm_check_names an_check_names cd_check_names ct_check_names), f_check_ropes, (PySem.W.fnOf "check_ropes" "check_ropes" (defArgs s_check_ropes) (defBody s_check_ropes) (defScope s_check_ropes) .none kV_check_ropes dc_check_ropes pm_check_ropes an_check_ropes cd_check_ropes ct_check_ropes), f_check_rope, (PySem.W.fnOf "check_rope" "check_rope" (defArgs s_check_rope) (defBody s_check_rope) (defScope s_check_rope) .none kV_check_rope dc_check_rope pm_check_rope an_check_rope cd_check_rope ct_check_rope), f_joins_two, (PySem.W.fnOf "joins_two" "joins_two" (defArgs s_joins_two) (defBody s_joins_two) (defScope s_joins_two) .none kV_joins_two dc_joins_two pm_joins_two an_joins_two cd_joins_two ct_joins_two), f_w_cell, (PySem.W.fnOf "_law_cell" "_law_cell" (defArgs s_w_cell) (defBody s_w_cell) (defScope s_w_cell) .none kV_w_cell dc_w_cell pm_w_cell an_w_cell cd_w_cell ct_w_cell), f_w_whole, (PySem.W.fnOf "_law_whole" "_law_whole" (defArgs s_w_whole) (defBody s_w_whole) (defScope s_w_whole) .none kV_w_whole dc_w_whole pm_w_whole an_w_whole cd_w_whole ct_w_whole), f_w_numbers, (PySem.W.fnOf "_law_numbers" "_law_numbers" (defArgs s_w_numbers) (defBody s_w_numbers) (defScope s_w_numbers) .none kV_w_numbers dc_w_numbers pm_w_numbers an_w_numbers cd_w_numbers ct_w_numbers), f_w_names, (PySem.W.fnOf "_law_names" "_law_names" (defArgs s_w_names) (defBody s_w_names) (defScope s_w_names) .none kV_w_names dc_w_names pm_w_names an_w_names cd_w_names ct_w_names), f_w_rope, (PySem.W.fnOf "_law_rope" "_law_rope" (defArgs s_w_rope) (defBody s_w_rope) (defScope s_w_rope) .none kV_w_rope dc_w_rope pm_w_rope an_w_rope cd_w_rope ct_w_rope), f_w_town, (PySem.W.fnOf "_law_town" "_law_town" (defArgs s_w_town) (defBody s_w_town) (defScope s_w_town) .none kV_w_town dc_w_town pm_w_town an_w_town cd_w_town ct_w_town), f_w_row, (PySem.W.fnOf "_law_row" "_law_row" (defArgs s_w_row) (defBody s_w_row) (defScope s_w_row) .none kV_w_row dc_w_row pm_w_row an_w_row cd_w_row ct_w_row), f_w_rows, (PySem.W.fnOf "_law_rows" "_law_rows" (defArgs s_w_rows) (defBody s_w_rows) (defScope s_w_rows) .none kV_w_rows dc_w_rows pm_w_rows an_w_rows cd_w_rows ct_w_rows), f_w_ought, (PySem.W.fnOf "_law_ought" "_law_ought" (defArgs s_w_ought) (defBody s_w_ought) (defScope s_w_ought) .none kV_w_ought dc_w_ought pm_w_ought an_w_ought cd_w_ought ct_w_ought), f_w_hung, (PySem.W.fnOf "_law_hung" "_law_hung" (defArgs s_w_hung) (defBody s_w_hung) (defScope s_w_hung) .none kV_w_hung dc_w_hung pm_w_hung an_w_hung cd_w_hung ct_w_hung), f_w_deed, (PySem.W.fnOf "_law_deed" "_law_deed" (defArgs s_w_deed) (defBody s_w_deed) (defScope s_w_deed) .none kV_w_deed dc_w_deed pm_w_deed an_w_deed cd_w_deed ct_w_deed), f_w_asked, (PySem.W.fnOf "_law_asked" "_law_asked" (defArgs s_w_asked) (defBody s_w_asked) (defScope s_w_asked) .none kV_w_asked dc_w_asked pm_w_asked an_w_asked cd_w_asked ct_w_asked), f_w_both, (PySem.W.fnOf "_law_both" "_law_both" (defArgs s_w_both) (defBody s_w_both) (defScope s_w_both) .none kV_w_both dc_w_both pm_w_both an_w_both cd_w_both ct_w_both), f_law, (PySem.W.fnOf "law" "law" (defArgs s_law) (defBody s_law) (defScope s_law) .none kV_law dc_law pm_law an_law cd_law ct_law), C_Town, q_MOST_HOUSES, q_MOST_ROPES, q_MOST_WIRES, q_ALL_GROUPS⟩, ⟨F_offer,
    (F_offer.binds (ps := ["town", "row", "rope"]) fun _ _ _ _ _ _ => el3 fun _ _ _ => rfl),
    (PySem.W.mg_of X G a_offer),
    F_ups,
    (F_ups.binds (ps := ["town", "live", "rows"]) fun _ _ _ _ _ _ => el3 fun _ _ _ => rfl),
    (PySem.W.mg_of X G a_ups),
    F_opens,
    (F_opens.binds (ps := ["town", "live", "rows"]) fun _ _ _ _ _ _ => el3 fun _ _ _ => rfl),
    (PySem.W.mg_of X G a_opens),
    F_open_at,
    (F_open_at.binds (ps := ["town", "live", "rows", "house"]) fun _ _ _ _ _ _ => el4 fun _ _ _ _ => rfl),
    (PySem.W.mg_of X G a_open_at),
    F_up_of,
    (F_up_of.binds (ps := ["town", "live", "rows", "house"]) fun _ _ _ _ _ _ => el4 fun _ _ _ _ => rfl),
    (PySem.W.mg_of X G a_up_of),
    F_Townu_initu,
    (F_Townu_initu.binds (ps := ["self", "names", "ropes"]) fun _ _ _ _ _ _ => el3 fun _ _ _ => rfl),
    ⟨mk_Town, a_Townu_initu, i_Townu_initu, kc_Town⟩,
    F_Town_rope,
    (F_Town_rope.binds (ps := ["self", "number"]) fun _ _ _ _ _ _ => el2 fun _ _ => rfl),
    ⟨a_Town_rope, i_Town_rope, k_Town_rope⟩,
    F_Town_ropes_at,
    (F_Town_ropes_at.binds (ps := ["self", "house"]) fun _ _ _ _ _ _ => el2 fun _ _ => rfl),
    ⟨a_Town_ropes_at, i_Town_ropes_at, k_Town_ropes_at⟩,
    F_Town_far_end,
    (F_Town_far_end.binds (ps := ["self", "rope", "house"]) fun _ _ _ _ _ _ => el3 fun _ _ _ => rfl),
    ⟨a_Town_far_end, i_Town_far_end, k_Town_far_end⟩,
    F_check_names,
    (F_check_names.binds (ps := ["names"]) fun _ _ _ _ _ _ => el1 fun _ => rfl),
    (PySem.W.mg_of X G a_check_names),
    F_check_ropes,
    (F_check_ropes.binds (ps := ["size", "ropes"]) fun _ _ _ _ _ _ => el2 fun _ _ => rfl),
    (PySem.W.mg_of X G a_check_ropes),
    F_check_rope,
    (F_check_rope.binds (ps := ["size", "rope"]) fun _ _ _ _ _ _ => el2 fun _ _ => rfl),
    (PySem.W.mg_of X G a_check_rope),
    F_joins_two,
    (F_joins_two.binds (ps := ["size", "one", "other"]) fun _ _ _ _ _ _ => el3 fun _ _ _ => rfl),
    (PySem.W.mg_of X G a_joins_two),
    F_w_cell,
    (F_w_cell.binds (ps := ["_law_script", "_law_k"]) fun _ _ _ _ _ _ => el2 fun _ _ => rfl),
    (PySem.W.mg_of X G a_w_cell),
    F_w_whole,
    (F_w_whole.binds (ps := ["_law_found"]) fun _ _ _ _ _ _ => el1 fun _ => rfl),
    (PySem.W.mg_of X G a_w_whole),
    F_w_numbers,
    (F_w_numbers.binds (ps := ["_law_found", "_law_ought_here"]) fun _ _ _ _ _ _ => el2 fun _ _ => rfl),
    (PySem.W.mg_of X G a_w_numbers),
    F_w_names,
    (F_w_names.binds (ps := ["_law_cell_here", "_law_size"]) fun _ _ _ _ _ _ => el2 fun _ _ => rfl),
    (PySem.W.mg_of X G a_w_names),
    F_w_rope,
    (F_w_rope.binds (ps := ["_law_cell_here", "_law_size"]) fun _ _ _ _ _ _ => el2 fun _ _ => rfl),
    (PySem.W.mg_of X G a_w_rope),
    F_w_town,
    (F_w_town.binds (ps := ["_law_script"]) fun _ _ _ _ _ _ => el1 fun _ => rfl),
    (PySem.W.mg_of X G a_w_town),
    F_w_row,
    (F_w_row.binds (ps := ["_law_cell_here", "_law_names_here", "_law_many"]) fun _ _ _ _ _ _ => el3 fun _ _ _ => rfl),
    (PySem.W.mg_of X G a_w_row),
    F_w_rows,
    (F_w_rows.binds (ps := ["_law_script", "_law_names_here", "_law_many"]) fun _ _ _ _ _ _ => el3 fun _ _ _ => rfl),
    (PySem.W.mg_of X G a_w_rows),
    F_w_ought,
    (F_w_ought.binds (ps := ["_law_size", "_law_names_here", "_law_ropes", "_law_live", "_law_rows_here", "_law_house"]) fun _ _ _ _ _ _ => el6 fun _ _ _ _ _ _ => rfl),
    (PySem.W.mg_of X G a_w_ought),
    F_w_hung,
    (F_w_hung.binds (ps := ["_law_size", "_law_ropes", "_law_live", "_law_rows_here"]) fun _ _ _ _ _ _ => el4 fun _ _ _ _ => rfl),
    (PySem.W.mg_of X G a_w_hung),
    F_w_deed,
    (F_w_deed.binds (ps := ["_law_script", "_law_k", "_law_told", "_law_rows_here"]) fun _ _ _ _ _ _ => el4 fun _ _ _ _ => rfl),
    (PySem.W.mg_of X G a_w_deed),
    F_w_asked,
    (F_w_asked.binds (ps := ["_law_made", "_law_told", "_law_rows_here", "_law_bit"]) fun _ _ _ _ _ _ => el4 fun _ _ _ _ => rfl),
    (PySem.W.mg_of X G a_w_asked),
    F_w_both,
    (F_w_both.binds (ps := ["_law_made", "_law_told", "_law_rows_here", "_law_bit"]) fun _ _ _ _ _ _ => el4 fun _ _ _ _ => rfl),
    (PySem.W.mg_of X G a_w_both),
    F_law,
    (F_law.binds (ps := ["_law_script"]) fun _ _ _ _ _ _ => el1 fun _ => rfl),
    (PySem.W.mg_of X G a_law),
    ⟨pg_Town, hd_Town, po_Town, sa_Town⟩,
    (PySem.W.mg_of X G aC_Town),
    nA_Town_house_names,
    nA_Town_rope_tuples,
    nA_Town_size,
    nA_Town_many,
    (PySem.W.mg_of X G g_MOST_HOUSES),
    (PySem.W.mg_of X G g_MOST_ROPES),
    (PySem.W.mg_of X G g_MOST_WIRES),
    (PySem.W.mg_of X G g_ALL_GROUPS),
    (PySem.W.mg_none_of X G z_len),
    (PySem.W.mg_none_of X G z_isinstance),
    (PySem.W.mg_none_of X G z_int),
    (PySem.W.mg_none_of X G z_bool),
    (PySem.W.mg_none_of X G z_list),
    (PySem.W.mg_none_of X G z_range),
    (PySem.W.mg_none_of X G z_enumerate),
    (PySem.W.mg_none_of X G z_min),
    (PySem.W.mg_none_of X G z_set),
    (PySem.W.mg_none_of X G z_sorted),
    (PySem.W.mg_none_of X G z_zip)⟩⟩
end K14

set_option Elab.async false
set_option linter.all false
set_option maxRecDepth 100000
set_option maxHeartbeats 4000000
namespace K14
open PySem L2 TW PyProof.Rows
open RM (rowV byV byV_non byV_int)
seal L2.PE L2.PA L2.PT L2.PW L2.PS L2.PSs L2.PG L2.PGs L2.PI L2.PTs
section
variable {P : Program} {w : World} {K : PySem.W.Frag} {mg : Str → Option Value} {base : Heap}
def spJoins : Sp := fun vs H Q _ => ∃ (n a b : Int), vs = [.int n, .int a, .int b] ∧ 0 ≤ a ∧ a < n ∧ 0 ≤ b ∧ b < n ∧ a ≠ b ∧ Q (.bl true) H
theorem ok_joins_two {t : Ad} (T : Txt K mg t) : FnOk P w K mg base CX0 1 t.f_joins_two t.d_joins_two ["size", "one", "other"]  spJoins := by
  refine T.F_joins_two.ok sc_joins_two (fun vs H Q E h => ?_) (fun cdv A outer s H vs Q E hr h => ?_)
  · obtain ⟨_, _, _, rfl, _⟩ := h; rfl
  · obtain ⟨n, a, b, rfl, h1, h2, h3, h4, h5, k⟩ := h
    refine ⟨_, (pss_one (ps_ret (pe_and (pe_chain op_le op_lt pe_int (pv 1) (pv 0)) (pe_and (pe_chain op_le op_lt pe_int (pv 2) (pv 0)) (pe_one (pe_cmpR op_ne (pv 1) (pv 2) (nomark _))))))), ?_⟩
    simp [tRet, tAndV, tChain, rI0, tC, tVar, tOp, rNe, L2.start, scal, h1, h2, h3, h4, h5, k]
    intros; omega
def spCheckRope (K : PySem.W.Frag) : Sp := fun vs H Q _ => ∃ (n : Int) (p : Addr) (a b c d e : Int), vs = [.int n, .ref p] ∧ SqT K H p (five a b c d e) ∧ RopeOk n a b c d e ∧ Q .non H
theorem ok_check_rope {t : Ad} (T : Txt K mg t) : FnOk P w K mg base CX0 2 t.f_check_rope t.d_check_rope ["size", "rope"]  (spCheckRope K) := by
  refine T.F_check_rope.ok sc_check_rope (fun vs H Q E h => ?_) (fun cdv A outer s H vs Q E hr h => ?_)
  · obtain ⟨n, p, a, b, c, d, e, rfl, _⟩ := h; rfl
  · obtain ⟨n, p, a, b, c, d, e, rfl, hp, ok, k⟩ := h
    obtain ⟨h1, h2, h3, h4, h5, h6, h7, h8, h9, h10⟩ := ok
    refine ⟨_, (pss_cons (ps_if (pt_cmpR op_ne (pe_callB call_len_seq (by rfl) T.n_len PySem.boot_len (pa_c (pv 1) pa_nil)) pe_int (nomark _)) pss_never pss_nil)
      (pss_cons (ps_if (pt_not (pt_val (pe_call (ok_joins_two T) (hr.mono (by decide)) rfl T.g_joins_two T.F_joins_two.kp T.B_joins_two .nil pass0 (pa_c (pv 0) (pa_c (pe_ix ix_tup (pv 1) pe_int (fun _ _ => rfl)) (pa_c (pe_ix ix_tup (pv 1) pe_int (fun _ _ => rfl)) pa_nil)))))) pss_never pss_nil)
      (pss_cons (ps_if (pt_cmpR op_lt (pe_ix ix_tup (pv 1) pe_int (fun _ _ => rfl)) pe_int (nomark _)) pss_never pss_nil)
      (pss_cons (ps_if (pt_not (pt_chain op_le op_le pe_int (pe_ix ix_tup (pv 1) pe_int (fun _ _ => rfl)) (pe_glob rfl T.k_MOST_WIRES (v := .int 4) ⟨_, rfl⟩))) pss_never pss_nil)
      (pss_one (ps_if (pt_not (pt_chain op_le op_le pe_int (pe_ix ix_tup (pv 1) pe_int (fun _ _ => rfl)) (pe_glob rfl T.k_ALL_GROUPS (v := .int 7) ⟨_, rfl⟩))) pss_never pss_nil)))))), ?_⟩
    refine ⟨_, rfl, p, _, rfl, .inr hp, rfl, _, rfl, iteF ?_⟩
    refine ⟨_, rfl, _, rfl, p, _, _, _, rfl, rfl, hp, rfl, _, rfl, p, _, _, _, rfl, rfl, hp, rfl, ?_⟩
    refine ⟨_, _, _, rfl, h1, h2, h3, h4, h5, _, rfl, iteF ?_⟩
    refine ⟨_, rfl, p, _, _, _, rfl, rfl, hp, rfl, _, _, rfl, rfl, _, rfl, ?_⟩
    rw [decide_eq_false (show ¬ c < 1 by omega)]
    refine iteF ?_
    refine ⟨_, rfl, p, _, _, _, rfl, rfl, hp, rfl, _, _, rfl, rfl, _, rfl, ?_⟩
    rw [decide_eq_true h7]
    refine iteT ?_
    refine ⟨_, _, rfl, rfl, _, rfl, ?_⟩
    rw [decide_eq_true h8]
    refine iteF ?_
    refine ⟨_, rfl, p, _, _, _, rfl, rfl, hp, rfl, _, _, rfl, rfl, _, rfl, ?_⟩
    rw [decide_eq_true h9]
    refine iteT ?_
    refine ⟨_, _, rfl, rfl, _, rfl, ?_⟩
    rw [decide_eq_true h10]
    refine iteF ?_
    exact k
end
end K14

set_option Elab.async false
set_option linter.all false
set_option maxRecDepth 100000
set_option maxHeartbeats 4000000
namespace K14
open PySem L2 TW PyProof.Rows
open RM (rowV byV byV_non byV_int)
seal L2.PE L2.PA L2.PT L2.PW L2.PS L2.PSs L2.PG L2.PGs L2.PI L2.PTs
section
variable {P : Program} {w : World} {K : PySem.W.Frag} {mg : Str → Option Value} {base : Heap}
def spCheckRopes (K : PySem.W.Frag) : Sp := fun vs H Q _ => ∃ (n : Int) (l : Addr) (rs : List R5), vs = [.int n, .ref l] ∧ Ropes K H l rs ∧ rs.length ≤ 20 ∧ (∀ r ∈ rs, r.Ok n) ∧ Q .non H
theorem ok_check_ropes {t : Ad} (T : Txt K mg t) : FnOk P w K mg base CX0 3 t.f_check_ropes t.d_check_ropes ["size", "ropes"]  (spCheckRopes K) := by
  refine T.F_check_ropes.ok sc_check_ropes (fun vs H Q E h => ?_) (fun cdv A outer s H vs Q E hr h => ?_)
  · obtain ⟨n, l, rs, rfl, _⟩ := h; rfl
  · obtain ⟨n, l, rs, rfl, hR, hl, ok, k⟩ := h
    obtain ⟨us, hL, el, hg⟩ := hR.at
    refine ⟨_, (pss_cons (ps_if (pt_cmpR op_gt (pe_callB call_len_seq (by rfl) T.n_len PySem.boot_len (pa_c (pv 1) pa_nil)) (pe_glob rfl T.k_MOST_ROPES (v := .int 20) ⟨_, rfl⟩) (nomark _)) pss_never pss_nil)
      (pss_one (ps_for PassesOwn.never rfl (pi_list (pv 1)) (pg_name (i := 2) sc_check_ropes.nd rfl (Or.inl rfl)) (pss_one (ps_expr (pe_call (ok_check_rope T) (hr.mono (by decide)) rfl T.g_check_rope T.F_check_rope.kp T.B_check_rope .nil pass0 (pa_c (pv 0) (pa_c (pv 2) pa_nil)))))))), ?_⟩
    refine ⟨_, rfl, l, _, rfl, .inl hL, _, _, rfl, rfl, _, rfl, ?_⟩
    rw [decide_eq_false (show ¬ (20 : Int) < us.length by omega)]
    refine iteF ?_
    refine ⟨_, rfl, l, rfl, ⟨_, hL⟩, for_list (K := K) (a := l) (xs := us) (fun i σ H2 => H2 = H ∧ ∃ v, σ = [some (.int n), some (.ref l), v]) ⟨rfl, _, rfl⟩ (fun i σ H2 _ ⟨e, _⟩ => by rw [e]; exact hL) ?_ ?_⟩
    · rintro i y σ H2 hi ⟨rfl, v, rfl⟩
      have hil : i < us.length := (List.getElem?_eq_some_iff.mp hi).1
      have hir : rs[i]? = some rs[i] := by simp
      obtain ⟨p, h1, h2⟩ := hg i _ hir
      rw [hi] at h1
      cases h1
      refine ⟨_, rfl, _, rfl, n, p, _, _, _, _, _, rfl, h2, ok _ (List.mem_of_getElem? hir), rfl, _, rfl⟩
    · rintro σ H2 ⟨rfl, v, rfl⟩
      exact k
def spCheckNames (K : PySem.W.Frag) : Sp := fun vs H Q _ => ∃ (l : Addr) (ns : List Int), vs = [.ref l] ∧ SqL K H l (ns.map V.int) ∧ 1 ≤ ns.length ∧ ns.length ≤ 10 ∧ (∀ n ∈ ns, 0 ≤ n) ∧ ns.Nodup ∧ ∀ H', Same H H' → Q .non H'
theorem ok_check_names {t : Ad} (T : Txt K mg t) : FnOk P w K mg base CX0 1 t.f_check_names t.d_check_names ["names"]  (spCheckNames K) := by
  refine T.F_check_names.ok sc_check_names (fun vs H Q E h => ?_) (fun cdv A outer s H vs Q E hr h => ?_)
  · obtain ⟨l, ns, rfl, _⟩ := h; rfl
  · obtain ⟨l, ns, rfl, hL, h1, h2, h3, h4, k⟩ := h
    refine ⟨_, (pss_cons (ps_if (pt_not (pt_chain op_le op_le pe_int (pe_callB call_len_seq (by rfl) T.n_len PySem.boot_len (pa_c (pv 0) pa_nil)) (pe_glob rfl T.k_MOST_HOUSES (v := .int 10) ⟨_, rfl⟩))) pss_never pss_nil)
      (pss_cons (ps_if (pt_cmpR op_lt (pe_callB (call_minL rfl) (by rfl) T.n_min boot_min (pa_c (pv 0) pa_nil)) pe_int (nomark _)) pss_never pss_nil)
      (pss_one (ps_if (pt_cmpR op_ne (pe_callB call_lenS (by rfl) T.n_len PySem.boot_len (pa_c (pe_callTy (call_setL rfl) (by rfl) T.n_set boot_set (pa_c (pv 0) pa_nil)) pa_nil)) (pe_callB call_len_seq (by rfl) T.n_len PySem.boot_len (pa_c (pv 0) pa_nil)) (nomark _)) pss_never pss_nil)))), ?_⟩
    refine ⟨_, rfl, l, _, rfl, .inl hL, _, _, rfl, rfl, _, rfl, ?_⟩
    rw [decide_eq_true (show (1 : Int) ≤ (ns.map V.int).length by rw [List.length_map]; omega)]
    refine iteT ?_
    refine ⟨_, _, rfl, rfl, _, rfl, ?_⟩
    rw [decide_eq_true (show ((ns.map V.int).length : Int) ≤ 10 by rw [List.length_map]; omega)]
    refine iteF ?_
    refine ⟨_, rfl, l, ns, rfl, hL, by omega, fun m hm hle => ?_⟩
    refine ⟨_, _, rfl, rfl, _, rfl, ?_⟩
    rw [decide_eq_false (show ¬ m < 0 by have := h3 m hm; omega)]
    refine iteF ?_
    refine ⟨_, rfl, l, ns, rfl, hL, Nat.lt_of_lt_of_le (show ns.length + 1 < 100 by omega) (by decide), fun p hp => ?_⟩
    have s1 := Same.new (o := .set (fun k' => (firstMet (fun i => ns.getD i 0) ns.length).any (· == k')) (firstMet (fun i => ns.getD i 0) ns.length).length) hp
    refine ⟨p, _, _, rfl, upd_same, _, rfl, l, _, rfl, .inl (s1.seq hL), rfl, _, rfl, ?_⟩
    rw [firstMet_nodup ns h4, List.length_map]
    simp only [decide_true, Bool.not_true]
    refine iteF ?_
    exact k _ (Same.new hp)
end
end K14

set_option Elab.async false
set_option linter.all false
set_option maxRecDepth 100000
set_option maxHeartbeats 4000000
namespace K14
open PySem L2 TW PyProof.Rows
open RM (rowV byV byV_non byV_int)
seal L2.PE L2.PA L2.PT L2.PW L2.PS L2.PSs L2.PG L2.PGs L2.PI L2.PTs
section
variable {P : Program} {w : World} {K : PySem.W.Frag} {mg : Str → Option Value} {base : Heap}
def spInit (K : PySem.W.Frag) (C : Addr) : Sp := fun vs H Q _ => ∃ (p dx l1 l2 : Addr) (ns : List Int) (rs : List R5), vs = [.ref p, .ref l1, .ref l2] ∧ H p = some (.ins C dx []) ∧ SqL K H l1 (ns.map V.int) ∧ Ropes K H l2 rs ∧
  1 ≤ ns.length ∧ ns.length ≤ 10 ∧ (∀ n ∈ ns, 0 ≤ n) ∧ ns.Nodup ∧ rs.length ≤ 20 ∧ (∀ r ∈ rs, r.Ok ns.length) ∧
  ∀ ln lr H', H ln = none → H lr = none → TownAt K C H' p ln lr ns rs → (∀ b o, H b = some o → b ≠ p → H' b = some o) → Q .non H'
theorem ok_Townu_initu {t : Ad} (T : Txt K mg t) : FnOk P w K mg base CX0 4 t.f_Townu_initu t.d_Townu_initu ["self", "names", "ropes"]  (spInit K t.a_Town) := by
  refine T.F_Townu_initu.ok sc_Townu_initu (fun vs H Q E h => ?_) (fun cdv A outer s H vs Q E hr h => ?_)
  · obtain ⟨p, dx, l1, l2, ns, rs, rfl, _⟩ := h; rfl
  · obtain ⟨p, dx, l1, l2, ns, rs, rfl, hp, hL, hR, h1, h2, h3, h4, h5, h6, k⟩ := h
    refine ⟨_, (pss_cons (ps_expr (pe_call (ok_check_names T) (hr.mono (by decide)) rfl T.g_check_names T.F_check_names.kp T.B_check_names .nil pass0 (pa_c (pv 1) pa_nil)))
      (pss_cons (ps_expr (pe_call (ok_check_ropes T) (hr.mono (by decide)) rfl T.g_check_ropes T.F_check_ropes.kp T.B_check_ropes .nil pass0 (pa_c (pe_callB call_len_seq (by rfl) T.n_len PySem.boot_len (pa_c (pv 1) pa_nil)) (pa_c (pv 2) pa_nil))))
      (pss_cons (ps_fld (pv 0) (pe_callTy call_list_of (by rfl) T.n_list boot_list (pa_c (pv 1) pa_nil)) rfl)
      (pss_cons (ps_fld (pv 0) (pe_callTy call_list_of (by rfl) T.n_list boot_list (pa_c (pv 2) pa_nil)) rfl)
      (pss_cons (ps_fld (pv 0) (pe_callB call_len_seq (by rfl) T.n_len PySem.boot_len (pa_c (pv 1) pa_nil)) rfl)
      (pss_one (ps_fld (pv 0) (pe_callB call_len_seq (by rfl) T.n_len PySem.boot_len (pa_c (pv 2) pa_nil)) rfl))))))), ?_⟩
    refine ⟨_, rfl, l1, ns, rfl, hL, h1, h2, h3, h4, fun H1 s1 => ?_⟩
    refine ⟨_, rfl, l1, _, rfl, .inl (s1.seq hL), ?_⟩
    refine ⟨_, rfl, (ns.length : Int), l2, rs, by simp, hR.mono s1, h5, h6, ?_⟩
    have hp1 := s1 _ _ hp
    have hR1 := hR.mono s1
    have hL1 := s1.seq hL
    obtain ⟨_, us, e, hq, hra⟩ := id hR1
    cases e
    -- self.house_names = list(names)
    refine ⟨_, rfl, l1, _, rfl, .inl hL1, fun ln hn => ?_⟩
    have npn : p ≠ ln := ne_of_none hp1 hn
    have s2 := Same.new (o := .lst (ns.map V.int)) hn
    refine ⟨_, rfl, p, _, dx, [], rfl, s2 _ _ hp1, T.c_Town, T.n_Town_house_names, by decide, ?_⟩
    rw [putF_new (names := []) rfl rfl]
    generalize eH2 : upd (upd H1 ln (.lst (ns.map V.int))) p (.ins t.a_Town dx ([] ++ [(Str.ofString "house_names", V.ref ln)])) = H2
    have k2 : ∀ b o, H1 b = some o → b ≠ p → H2 b = some o := fun b o e nb => by rw [← eH2, upd_ne nb]; exact s2 _ _ e
    have hp2 : H2 p = some (.ins t.a_Town dx [(Str.ofString "house_names", V.ref ln)]) := by rw [← eH2]; exact upd_same
    have hn2 : H2 ln = some (.lst (ns.map V.int)) := by rw [← eH2, upd_ne (Ne.symm npn), upd_same]
    -- what is no instance of ours stands
    have fr2 : ∀ {b : Addr}, H1 b = none → b ≠ p → b ≠ ln → H2 b = none := fun {b} e n1 n2 => by rw [← eH2, upd_ne n1, upd_ne n2]; exact e
    have hL2 : SqL K H2 l1 (ns.map V.int) := sqL_but (fun b o e nb => k2 b o e nb) hp1 hL1
    have hq2 : SqL K H2 l2 us := sqL_but (fun b o e nb => k2 b o e nb) hp1 hq
    have hra2 : RepAll K H2 (rs.map R5.D) us := repAll_but (fun b o e nb => k2 b o e nb) hp1 hra
    -- self.rope_tuples = list(ropes)
    refine ⟨_, rfl, l2, _, rfl, .inl hq2, fun lr hr2 => ?_⟩
    have npr : p ≠ lr := ne_of_none hp2 hr2
    have s3 := Same.new (o := .lst us) hr2
    refine ⟨_, rfl, p, _, dx, _, rfl, s3 _ _ hp2, T.c_Town, T.n_Town_rope_tuples, (by show 1 < 1000; decide), ?_⟩
    rw [putF_new (names := ["house_names"]) rfl (by decide +kernel)]
    generalize eH3 : upd (upd H2 lr (.lst us)) p (.ins t.a_Town dx ([(Str.ofString "house_names", V.ref ln)] ++ [(Str.ofString "rope_tuples", V.ref lr)])) = H3
    have k3 : ∀ b o, H2 b = some o → b ≠ p → H3 b = some o := fun b o e nb => by rw [← eH3, upd_ne nb]; exact s3 _ _ e
    have hp3 : H3 p = some (.ins t.a_Town dx [(Str.ofString "house_names", V.ref ln), (Str.ofString "rope_tuples", V.ref lr)]) := by rw [← eH3]; exact upd_same
    have hr3 : H3 lr = some (.lst us) := by rw [← eH3, upd_ne (Ne.symm npr), upd_same]
    have hn3 := k3 _ _ hn2 (Ne.symm npn)
    have hL3 : SqL K H3 l1 (ns.map V.int) := sqL_but k3 hp2 hL2
    have hq3 : SqL K H3 l2 us := sqL_but k3 hp2 hq2
    have hra3 : RepAll K H3 (rs.map R5.D) us := repAll_but k3 hp2 hra2
    -- self.size = len(names)
    refine ⟨_, rfl, l1, _, rfl, .inl hL3, _, rfl, p, _, dx, _, rfl, hp3, T.c_Town, T.n_Town_size, (by show 2 < 1000; decide), ?_⟩
    rw [putF_new (names := ["house_names", "rope_tuples"]) rfl (by decide +kernel)]
    generalize eH4 : upd H3 p (.ins t.a_Town dx ([(Str.ofString "house_names", V.ref ln), (Str.ofString "rope_tuples", V.ref lr)] ++ [(Str.ofString "size", V.int ((ns.map V.int).length : Nat))])) = H4
    have k4 : ∀ b o, H3 b = some o → b ≠ p → H4 b = some o := fun b o e nb => by rw [← eH4, upd_ne nb]; exact e
    have hp4 : H4 p = some (.ins t.a_Town dx [(Str.ofString "house_names", V.ref ln), (Str.ofString "rope_tuples", V.ref lr), (Str.ofString "size", V.int ((ns.map V.int).length : Nat))]) := by rw [← eH4]; exact upd_same
    have hq4 : SqL K H4 l2 us := sqL_but k4 hp3 hq3
    have hra4 : RepAll K H4 (rs.map R5.D) us := repAll_but k4 hp3 hra3
    -- self.many = len(ropes)
    refine ⟨_, rfl, l2, _, rfl, .inl hq4, _, rfl, p, _, dx, _, rfl, hp4, T.c_Town, T.n_Town_many, (by show 3 < 1000; decide), ?_⟩
    rw [putF_new (names := ["house_names", "rope_tuples", "size"]) rfl (by decide +kernel)]
    have k5 : ∀ b o, H4 b = some o → b ≠ p → ∀ u, (upd H4 p u) b = some o := fun b o e nb u => by rw [upd_ne nb]; exact e
    have eus : us.length = rs.length := by rw [hra.length, List.length_map]
    refine k ln lr _ (s1.free hn) ?_ ⟨⟨dx, ?_⟩, ?_, us, ?_, repAll_but (fun b o e nb => k5 b o e nb _) hp4 hra4⟩ ?_
    · cases q : H lr with
      | none => rfl
      | some o =>
        have := k2 lr o (s1 _ _ q) (fun e => npr e.symm)
        rw [hr2] at this; cases this
    · rw [upd_same, eus, List.length_map]
      rfl
    · exact k5 _ _ (k4 _ _ hn3 (Ne.symm npn)) (Ne.symm npn) _
    · exact k5 _ _ (k4 _ _ hr3 (Ne.symm npr)) (Ne.symm npr) _
    · exact fun b o e nb => k5 _ _ (k4 _ _ (k3 _ _ (k2 _ _ (s1 _ _ e) nb) nb) nb) nb _
end
end K14

set_option Elab.async false
set_option linter.all false
set_option maxRecDepth 100000
set_option maxHeartbeats 4000000
namespace K14
open PySem L2 TW PyProof.Rows
open RM (rowV byV byV_non byV_int)
seal L2.PE L2.PA L2.PT L2.PW L2.PS L2.PSs L2.PG L2.PGs L2.PI L2.PTs
section
variable {P : Program} {w : World} {K : PySem.W.Frag} {mg : Str → Option Value} {base : Heap}
def spRope (K : PySem.W.Frag) (C : Addr) : Sp := fun vs H Q _ => ∃ (p ln lr : Addr) (ns : List Int) (rs : List R5) (i : Nat) (r : R5), vs = [.ref p, .int i] ∧ TownAt K C H p ln lr ns rs ∧ rs[i]? = some r ∧ ∀ q, H q = some (.tup r.vs) ∨ SqT K H q r.vs → Q (.ref q) H
theorem ok_Town_rope {t : Ad} (T : Txt K mg t) : FnOk P w K mg base CX0 1 t.f_Town_rope t.d_Town_rope ["self", "number"]  (spRope K t.a_Town) := by
  refine T.F_Town_rope.ok sc_Town_rope (fun vs H Q E h => ?_) (fun cdv A outer s H vs Q E hr h => ?_)
  · obtain ⟨p, ln, lr, ns, rs, i, n, rfl, _⟩ := h; rfl
  · obtain ⟨p, ln, lr, ns, rs, i, r, rfl, hT, hi, k⟩ := h
    obtain ⟨⟨dx, hp⟩, hn, us, hr', hra⟩ := id hT
    obtain ⟨v, hv, hD⟩ := hra.get (i := i) (d := r.D) (by rw [List.getElem?_map, hi]; rfl)
    obtain ⟨q, e, hq⟩ := Rep.of_intsT (ns := r.ns) hD
    subst e
    refine ⟨_, (pss_one (ps_ret (pe_ix ix_list (pe_fld (pv 0) rfl) (pv 1) (fun _ _ => rfl)))), ?_⟩
    exact ⟨_, rfl, p, _, dx, _, _, rfl, hp, T.c_Town, T.n_Town_rope_tuples, rfl, _, rfl, lr, _, _, _, rfl, rfl, SqL.of hr', atI_nat hv, k q (.inr hq)⟩
end
end K14

set_option Elab.async false
set_option linter.all false
set_option maxRecDepth 100000
set_option maxHeartbeats 4000000
namespace K14
open PySem L2 TW PyProof.Rows
open RM (rowV byV byV_non byV_int)
seal L2.PE L2.PA L2.PT L2.PW L2.PS L2.PSs L2.PG L2.PGs L2.PI L2.PTs
section
variable {P : Program} {w : World} {K : PySem.W.Frag} {mg : Str → Option Value} {base : Heap}
def spFar (K : PySem.W.Frag) (C : Addr) : Sp := fun vs H Q _ => ∃ (p ln lr : Addr) (ns : List Int) (rs : List R5) (i : Nat) (r : R5) (h : Int), vs = [.ref p, .int i, .int h] ∧ TownAt K C H p ln lr ns rs ∧ rs[i]? = some r ∧ Q (.int (if h = r.a then r.b else r.a)) H
theorem ok_Town_far_end {t : Ad} (T : Txt K mg t) : FnOk P w K mg base CX0 1 t.f_Town_far_end t.d_Town_far_end ["self", "rope", "house"]  (spFar K t.a_Town) := by
  refine T.F_Town_far_end.ok sc_Town_far_end (fun vs H Q E h => ?_) (fun cdv A outer s H vs Q E hr h => ?_)
  · obtain ⟨p, ln, lr, ns, rs, i, n, h, rfl, _⟩ := h; rfl
  · obtain ⟨p, ln, lr, ns, rs, i, r, x, rfl, hT, hi, k⟩ := h
    obtain ⟨⟨dx, hp⟩, hn, us, hr', hra⟩ := id hT
    obtain ⟨v, hv, hD⟩ := hra.get (i := i) (d := r.D) (by rw [List.getElem?_map, hi]; rfl)
    obtain ⟨q, e, hq⟩ := Rep.of_intsT (ns := r.ns) hD
    subst e
    refine ⟨_, (pss_cons (ps_set (i := 3) sc_Town_far_end.nd rfl (Or.inl rfl) (pe_ix ix_list (pe_fld (pv 0) rfl) (pv 1) (fun _ _ => rfl)))
      (pss_one (ps_ret (pe_ifExp (pt_cmpR op_eq (pv 2) (pe_ix ix_tup (pv 3) pe_int (fun _ _ => rfl)) (nomark _)) (pe_ix ix_tup (pv 3) pe_int (fun _ _ => rfl)) (pe_ix ix_tup (pv 3) pe_int (fun _ _ => rfl)))))), ?_⟩
    refine ⟨_, rfl, p, _, dx, _, _, rfl, hp, T.c_Town, T.n_Town_rope_tuples, rfl, _, rfl, lr, _, _, _, rfl, rfl, SqL.of hr', atI_nat hv, ?_⟩
    refine ⟨_, rfl, _, rfl, q, _, _, _, rfl, rfl, hq, rfl, rfl, _, rfl, ?_⟩
    refine ite2 (fun c => ?_) (fun c => ?_)
    · have c' : x = r.a := by simpa using c
      rw [if_pos c'] at k
      exact ⟨_, rfl, q, _, _, _, rfl, rfl, hq, rfl, k⟩
    · have c' : ¬ x = r.a := by simpa using c
      rw [if_neg c'] at k
      exact ⟨_, rfl, q, _, _, _, rfl, rfl, hq, rfl, k⟩
def spAt (K : PySem.W.Frag) (C : Addr) : Sp := fun vs H Q _ => ∃ (p ln lr : Addr) (ns : List Int) (rs : List R5) (h : Int), vs = [.ref p, .int h] ∧ TownAt K C H p ln lr ns rs ∧ rs.length ≤ 20 ∧
  ∀ l H', Same H H' → H l = none → H' l = some (.lst (natsV (atH rs h rs.length))) → Q (.ref l) H'
theorem ok_Town_ropes_at {t : Ad} (T : Txt K mg t) : FnOk P w K mg base CX0 1 t.f_Town_ropes_at t.d_Town_ropes_at ["self", "house"]  (spAt K t.a_Town) := by
  refine T.F_Town_ropes_at.ok sc_Town_ropes_at (fun vs H Q E h => ?_) (fun cdv A outer s H vs Q E hr h => ?_)
  · obtain ⟨p, ln, lr, ns, rs, i, rfl, _⟩ := h; rfl
  · obtain ⟨p, ln, lr, ns, rs, x, rfl, hT, h20, k⟩ := h
    obtain ⟨⟨dx, hp⟩, hn, us, hr', hra⟩ := id hT
    have eus : us.length = rs.length := by rw [hra.length, List.length_map]
    refine ⟨_, (pss_one (ps_ret (pe_comp (compOk_of (dsc := defScope s_Town_ropes_at) (N0 := ["self", "house"]) (N2 := ["number", "rope", "house"]) (cap := [none, none, some 1]) rfl rfl (by decide +kernel)) rfl (pi_enum rfl T.n_enumerate (pa_c (pe_fld (pv 0) rfl) pa_nil)) (fun _ _ _ _ => by exact (pg_tupK K rfl (n := 2) rfl (pgs_cons (pg_name (i := 0) nd_Town_ropes_at_c0 rfl (Or.inl rfl)) (pgs_cons (pg_name (i := 1) nd_Town_ropes_at_c0 rfl (Or.inl rfl)) pgs_nil)))) (fun _ _ _ _ => by exact (pts_one (pt_cmpR (op_in_seqK K rfl) (pv 2) (pe_tup (pa_c (pe_ix (ix_tupK K rfl) (pv 1) pe_int (fun _ _ => rfl)) (pa_c (pe_ix (ix_tupK K rfl) (pv 1) pe_int (fun _ _ => rfl)) pa_nil))) (by with_unfolding_all rfl)))) (fun _ _ _ _ => by exact (pv 0))))), ?_⟩
    refine ⟨_, rfl, p, _, dx, _, _, rfl, hp, T.c_Town, T.n_Town_rope_tuples, rfl, lr, us, rfl, SqL.of hr', fun acc hacc => ?_⟩
    refine comp_by (n := us.length) (fun i ys _ => ys = natsV (atH rs x i)) hacc (ite_go (SqL.of hr')) (ite_stop (SqL.of hr')) rfl ?_ ?_
    · rintro i ys H2 hi s2 hy hP y H3 ⟨q, v, hq, rfl, rfl, hv⟩
      have hvi := hv us (s2.seq (SqL.of hr'))
      have hir : rs[i]? = some rs[i] := by simp
      obtain ⟨v', hv', hD⟩ := hra.get (i := i) (d := (rs[i]).D) (by rw [List.getElem?_map, hir]; rfl)
      rw [hvi] at hv'
      cases hv'
      obtain ⟨b, e, hb⟩ := Rep.of_intsT (ns := (rs[i]).ns) hD
      subst e
      have hb3 := (s2.out (o := .tup [.int (i : Nat), .ref b]) (s2.free hq)).seqT hb
      have nq : acc ≠ q := ne_of_none hy hq
      refine ⟨q, _, rfl, SqT.of upd_same, rfl, _, _, rfl, _, _, rfl, rfl, ?_⟩
      refine ⟨_, rfl, _, rfl, b, _, _, _, rfl, rfl, hb3, rfl, _, rfl, b, _, _, _, rfl, rfl, hb3, rfl, (by show 2 ≤ sizeLine; decide), fun c hc => ?_⟩
      refine ⟨c, _, rfl, .inr (SqT.of upd_same), rfl, rfl, _, rfl, ?_⟩
      have eb : inV (V.int x) [V.int rs[i].a, V.int rs[i].b] = isAt rs x i := by
        unfold isAt
        rw [hir]
        exact in_two _ _ _
      have s3 := s2.out (o := .tup [.int (i : Nat), .ref b]) (s2.free hq)
      have s4 := s3.out (o := .tup [V.int rs[i].a, V.int rs[i].b]) (s3.free hc)
      have hy4 : (upd (upd H2 q (HO.tup [V.int (i : Nat), V.ref b])) c (HO.tup [V.int rs[i].a, V.int rs[i].b])) acc = some (.lst ys) := by
        have e1 : (upd H2 q (HO.tup [V.int (i : Nat), V.ref b])) acc = some (.lst ys) := by rw [upd_ne nq]; exact hy
        rw [upd_ne (ne_of_none e1 hc)]; exact e1
      dsimp only
      rw [if_neg Bool.false_ne_true, eb]
      have hl : ys.length < sizeLine := by rw [hP, List.length_map]; exact Nat.lt_of_le_of_lt (Nat.le_trans (atH_len rs x i) (by omega)) (small1000 (Nat.le_refl _))
      refine ite2 (fun c' => ?_) (fun c' => ?_)
      · exact ⟨_, rfl, comp_add hacc hi s4 hy4 hl (by rw [hP, atH_succ, if_pos c', natsV_snoc])⟩
      · exact comp_skip hi s4 hy4 (by rw [hP, atH_succ, if_neg c', List.append_nil])
    · intro ys H2 s2 hy hP
      rw [eus] at hP
      exact k acc H2 s2 hacc (by rw [hy, hP])
end
section
variable {P : Program} {w : World} {K : PySem.W.Frag} {mg : Str → Option Value} {base : Heap}
def spOffer (K : PySem.W.Frag) (C : Addr) : Sp := fun vs H Q _ => ∃ (p ln lr : Addr) (ns : List Int) (rs : List R5) (i : Nat) (x : R5) (a : Addr) (r : RM.Row), vs = [.ref p, .ref a, .int i] ∧ TownAt K C H p ln lr ns rs ∧ rs[i]? = some x ∧ SqT K H a (rowV r) ∧
  (¬ r.ho + 1 < ns.length → ∀ H', Same H H' → Q .non H') ∧ (r.ho + 1 < ns.length → ∀ q H', Same H H' → SqT K H' q (rowV ⟨r.hd, r.co + x.c, r.ho + 1, i⟩) → Q (.ref q) H')
theorem ok_offer {t : Ad} (T : Txt K mg t) : FnOk P w K mg base CX0 2 t.f_offer t.d_offer ["town", "row", "rope"]  (spOffer K t.a_Town) := by
  refine T.F_offer.ok sc_offer (fun vs H Q E h => ?_) (fun cdv A outer s H vs Q E hr h => ?_)
  · obtain ⟨_, _, _, _, _, _, _, _, _, rfl, _⟩ := h; rfl
  · obtain ⟨p, ln, lr, ns, rs, i, x, a, r, rfl, hT, hi, ha, k1, k2⟩ := h
    obtain ⟨⟨dx, hp⟩, _, _, _⟩ := id hT
    refine ⟨_, (pss_cons (ps_set (i := 3) sc_offer.nd rfl (Or.inl rfl) (pe_op op_add (pe_ix ix_tup (pv 1) pe_int (fun _ _ => rfl)) pe_int))
      (pss_cons (ps_if (pt_cmpR op_ge (pv 3) (pe_fld (pv 0) rfl) (nomark _)) (pss_one (ps_ret pe_non)) pss_nil)
      (pss_one (ps_ret (pe_tup (pa_c (pe_ix ix_tup (pv 1) pe_int (fun _ _ => rfl)) (pa_c (pe_op op_add (pe_ix ix_tup (pv 1) pe_int (fun _ _ => rfl)) (pe_ix ix_tup (pe_meth (pv 0) T.c_Town T.m_Town_rope (ok_Town_rope T) (hr.mono (by decide)) T.B_Town_rope .nil pass0 (pa_c (pv 2) pa_nil)) pe_int (fun _ _ => rfl))) (pa_c (pv 3) (pa_c (pv 2) pa_nil))))))))), ?_⟩
    refine ⟨_, rfl, a, _, _, _, rfl, rfl, ha, rfl, _, _, rfl, rfl, ?_⟩
    refine ⟨_, rfl, _, rfl, p, _, dx, _, _, rfl, hp, T.c_Town, T.n_Town_size, rfl, _, _, rfl, rfl, _, rfl, ?_⟩
    refine ite2 (fun e => ?_) (fun e => ?_)
    · have e' : (ns.length : Int) ≤ r.ho + 1 := of_decide_eq_true e
      exact k1 (by omega) _ (Same.refl _)
    · have e' : ¬ (ns.length : Int) ≤ r.ho + 1 := of_decide_eq_false (eq_false_of_ne_true e)
      refine ⟨_, rfl, a, _, _, _, rfl, rfl, ha, rfl, _, rfl, a, _, _, _, rfl, rfl, ha, rfl, _, rfl, p, dx, _, rfl, hp, rfl, _, rfl, p, ln, lr, ns, rs, i, x, rfl, hT, hi, fun q hq => ?_⟩
      have hq' : SqT K H q x.vs := hq.elim (fun z => SqT.of z) id
      refine ⟨q, _, _, _, rfl, rfl, hq', rfl, _, _, rfl, rfl, _, rfl, _, rfl, (by show 4 ≤ sizeLine; decide), fun u hu => ?_⟩
      refine k2 (by omega) u _ (Same.new hu) (SqT.of ?_)
      rw [upd_same]
      show some (HO.tup [.int r.hd, .int (r.co + x.c), .int (r.ho + 1), .int (i : Int)]) = some (HO.tup [.int r.hd, .int (r.co + x.c), .int (r.ho + 1), byV (i : Int)])
      rw [byV_int (by omega)]
end
end K14

set_option Elab.async false
set_option linter.all false
set_option maxRecDepth 100000
set_option maxHeartbeats 4000000
namespace K14
open PySem L2 TW PyProof.Rows
open RM (rowV byV byV_non byV_int)
seal L2.PE L2.PA L2.PT L2.PW L2.PS L2.PSs L2.PG L2.PGs L2.PI L2.PTs
section
variable {P : Program} {w : World} {K : PySem.W.Frag} {mg : Str → Option Value} {base : Heap}
def spCell (K : PySem.W.Frag) : Sp := fun vs H Q _ => ∃ (a : Addr) (ns : List Int) (k : Int), vs = [.ref a, .int k] ∧ SqL K H a (ns.map V.int) ∧ 0 ≤ k ∧ ∀ x : Int, 0 ≤ x → Q (.int x) H
theorem ok_w_cell {t : Ad} (T : Txt K mg t) : FnOk P w K mg base CX0 1 t.f_w_cell t.d_w_cell ["_law_script", "_law_k"]  (spCell K) := by
  refine T.F_w_cell.ok sc_w_cell (fun vs H Q E h => ?_) (fun cdv A outer s H vs Q E hr h => ?_)
  · obtain ⟨a, ns, i, rfl, _⟩ := h; rfl
  · obtain ⟨a, ns, i, rfl, hS, h0, k⟩ := h
    refine ⟨_, (pss_cons (ps_if (pt_cmpR op_lt (pv 1) (pe_callB call_len_seq (by rfl) T.n_len PySem.boot_len (pa_c (pv 0) pa_nil)) (nomark _)) (pss_one (ps_ret (pe_op op_mod (pe_ix ix_list (pv 0) (pv 1) (fun _ _ => rfl)) (pe_op op_pow pe_int pe_int)))) pss_nil)
      (pss_one (ps_ret pe_int))), ?_⟩
    refine ⟨_, rfl, _, rfl, a, _, rfl, .inl hS, _, _, rfl, rfl, _, rfl, ?_⟩
    refine ite2 (fun c => ?_) (fun c => k 0 (Int.le_refl _))
    have hi : i < ns.length := by simpa using c
    refine ⟨_, rfl, _, rfl, a, _, _, _, rfl, rfl, hS, atI_ints h0 hi, _, _, rfl, rfl, ⟨by decide, by decide, by decide⟩, _, _, rfl, rfl, (by show (0 : Int) < 10 ^ (60 : Int).toNat; decide), ?_⟩
    exact k _ (Int.emod_nonneg _ (by decide))
end
end K14

set_option Elab.async false
set_option linter.all false
set_option maxRecDepth 100000
set_option maxHeartbeats 4000000
namespace K14
open PySem L2 TW PyProof.Rows
open RM (rowV byV byV_non byV_int)
seal L2.PE L2.PA L2.PT L2.PW L2.PS L2.PSs L2.PG L2.PGs L2.PI L2.PTs
section
variable {P : Program} {w : World} {K : PySem.W.Frag} {mg : Str → Option Value} {base : Heap}
def spNames : Sp := fun vs H Q _ => ∃ (n : Nat) (c : Int), vs = [.int c, .int n] ∧ 1 ≤ n ∧ n ≤ 12 ∧
  ∀ l H' (xs : List Int), Same H H' → H l = none → H' l = some (.lst (xs.map V.int)) → xs.length = n → xs.Nodup → (∀ x ∈ xs, 0 ≤ x) → Q (.ref l) H'
theorem ok_w_names {t : Ad} (T : Txt K mg t) : FnOk P w K mg base CX0 1 t.f_w_names t.d_w_names ["_law_cell_here", "_law_size"]  spNames := by
  refine T.F_w_names.ok sc_w_names (fun vs H Q E h => ?_) (fun cdv A outer s H vs Q E hr h => ?_)
  · obtain ⟨_, _, rfl, _⟩ := h; rfl
  · obtain ⟨n, c, rfl, hn1, hn, k⟩ := h
    refine ⟨_, (pss_cons (ps_set (i := 2) sc_w_names.nd rfl (Or.inl rfl) (pe_lst pa_nil))
      (pss_cons (ps_for PassesOwn.never rfl (pi_range1 rfl T.n_range (pa_c (pv 1) pa_nil)) (pg_name (i := 3) sc_w_names.nd rfl (Or.inl rfl)) (pss_cons (ps_set (i := 4) sc_w_names.nd rfl (Or.inl rfl) (pe_op op_mod (pe_op op_mul (pe_op op_mul (pv 0) (pe_op op_add (pe_op op_mul (pv 3) (pv 3)) pe_int)) pe_int) (pe_ix ix_list (pe_lst (pa_c pe_int (pa_c pe_int (pa_c (pe_op op_pow pe_int pe_int) pa_nil)))) (pe_op op_mod (pv 0) pe_int) (fun _ _ => rfl))))
      (pss_cons (ps_while PassesOwn.never (pt_cmpR op_in_seq (pv 4) (pv 2) (by with_unfolding_all rfl)) (pss_one (ps_set (i := 4) sc_w_names.nd rfl (Or.inl rfl) (pe_op op_add (pv 4) pe_int))))
      (pss_one (ps_expr (pe_bm PySem.F.plainAttrs_list PySem.F.slot_list_append PySem.F.type_list_append mt_append (pv 2) (pa_c (pv 4) pa_nil)))))))
      (pss_one (ps_ret (pv 2))))), ?_⟩
    refine ⟨Nat.zero_le _, fun l hl => ?_⟩
    refine ⟨_, rfl, (n : Int), rfl, by omega, by omega, ?_⟩
    refine for_range (n := ((n : Int)).toNat) (fun i σ H2 => Same H H2 ∧ ∃ (xs : List Int) (v3 v4 : Option V), σ = [some (.int c), some (.int n), some (.ref l), v3, v4] ∧ H2 l = some (.lst (xs.map V.int)) ∧ xs.length = i ∧ xs.Nodup ∧ ∀ x ∈ xs, 0 ≤ x)
      ⟨Same.new hl, [], none, none, rfl, upd_same, rfl, List.nodup_nil, fun x hx => absurd hx (by simp)⟩ ?_ ?_
    · rintro i σ H2 hi ⟨s2, xs, v3, v4, rfl, hx, ei, nd, nn⟩
      rw [Int.zero_add]
      have hii : i * i ≤ 12 * 12 := Nat.mul_le_mul (by omega) (by omega)
      have hii' : (i : Int) * (i : Int) ≤ 144 := by exact_mod_cast hii
      have hi0 : 0 ≤ (i : Int) * (i : Int) := Int.mul_nonneg (by omega) (by omega)
      refine ⟨_, rfl, _, rfl, _, rfl, _, _, rfl, rfl, .inl ⟨by omega, by omega⟩, _, _, rfl, rfl, _, _, rfl, rfl, .inr ⟨by omega, by omega⟩, _, _, rfl, rfl, .inr ⟨by decide, by decide⟩, ?_⟩
      refine ⟨_, _, rfl, rfl, ⟨by decide, by decide, by decide⟩, (by show 3 ≤ sizeLine; decide), fun l1 h1 => ?_⟩
      obtain ⟨w, hw, ew⟩ := at3q (x := 11) (y := 2147483647) (z := 10 ^ (58 : Int).toNat) (i := c % 3) (by decide) (by decide) (by decide) (Int.emod_nonneg _ (by decide)) (Int.emod_lt_of_pos _ (by decide))
      refine ⟨_, rfl, _, _, rfl, rfl, (by show (0 : Int) < 3; decide), l1, _, _, _, rfl, rfl, SqL.of upd_same, ew, _, _, rfl, rfl, hw, ?_⟩
      have u1 := Same.new (o := .lst [V.int 11, V.int 2147483647, V.int (10 ^ (58 : Int).toNat)]) h1
      have hx1 := u1 _ _ hx
      have s21 := s2.trans u1
      have hz0 : 0 ≤ c * ((i : Int) * (i : Int) + 1) * 48271 % w := Int.emod_nonneg _ (by omega)
      show gName 4 (V.int (c * ((i : Int) * (i : Int) + 1) * 48271 % w)) _ _ _
      generalize c * ((i : Int) * (i : Int) + 1) * 48271 % w = z at hz0
      generalize upd H2 l1 (.lst [V.int 11, V.int 2147483647, V.int (10 ^ (58 : Int).toNat)]) = H3 at u1 hx1 s21
      refine while_by (fun σ H4 => H4 = H3 ∧ ∃ x : Int, 0 ≤ x ∧ σ = [some (.int c), some (.int n), some (.ref l), some (.int (i : Nat)), some (.int x)])
        (fun (σ : L2.St) (_ : Hp) => match σ[4]? with | some (some (V.int x)) => above xs x | _ => 0) ⟨rfl, _, hz0, rfl⟩ ?_ ?_
      · rintro σ H4 ⟨rfl, x, hx0, rfl⟩
        refine ⟨_, rfl, _, rfl, l, _, rfl, .inl (SqL.of hx1), rfl, flat_ints xs, _, rfl, ?_⟩
        dsimp only
        rw [if_neg Bool.false_ne_true, inV_ints]
        refine ite2 (fun c => ?_) (fun c => ?_)
        · have hm : x ∈ xs := of_decide_eq_true c
          exact ⟨_, rfl, _, _, rfl, rfl, ⟨rfl, x + 1, by omega, rfl⟩, above_lt hm⟩
        · have hm : x ∉ xs := fun z => c (decide_eq_true z)
          refine ⟨_, rfl, .inl ⟨rfl, _, SqL.of hx1⟩, _, rfl, l, _, _, rfl, rfl, hx1, ?_, ?_⟩
          · rw [List.length_map]; exact small1000 (by omega)
          · refine ⟨s21.out hl, xs ++ [x], _, _, rfl, ?_, ?_, Gr.nodup_snoc nd hm, ?_⟩
            · rw [upd_same, List.map_append]; rfl
            · simp [ei]
            · intro y hy
              rcases List.mem_append.mp hy with z | z
              · exact nn y z
              · have : y = x := by simpa using z
                rw [this]; exact hx0
      · rintro σ H4 Q1 Q2 hq ⟨v, e1, u, e2, q, ys, e3, e4, e5, e6, b, e7, e8⟩
        exact ⟨v, e1, u, e2, q, ys, e3, e4, e5, e6, b, e7, hq _ _ e8⟩
    · rintro σ H2 ⟨s2, xs, v3, v4, rfl, hx, ei, nd, nn⟩
      exact ⟨_, rfl, k l H2 xs s2 hl hx (by omega) nd nn⟩
end
end K14

set_option Elab.async false
set_option linter.all false
set_option maxRecDepth 100000
set_option maxHeartbeats 4000000
namespace K14
open PySem L2 TW PyProof.Rows
open RM (rowV byV byV_non byV_int)
seal L2.PE L2.PA L2.PT L2.PW L2.PS L2.PSs L2.PG L2.PGs L2.PI L2.PTs
section
variable {P : Program} {w : World} {K : PySem.W.Frag} {mg : Str → Option Value} {base : Heap}
def spWRope : Sp := fun vs H Q _ => ∃ (n : Nat) (c : Int), vs = [.int c, .int n] ∧ 2 ≤ n ∧ n ≤ 10 ∧ 0 ≤ c ∧
  ∀ q H' (r : R5), Same H H' → H' q = some (.tup r.vs) → r.Ok n → Q (.ref q) H'
theorem ok_w_rope {t : Ad} (T : Txt K mg t) : FnOk P w K mg base CX0 1 t.f_w_rope t.d_w_rope ["_law_cell_here", "_law_size"]  spWRope := by
  refine T.F_w_rope.ok sc_w_rope (fun vs H Q E h => ?_) (fun cdv A outer s H vs Q E hr h => ?_)
  · obtain ⟨_, _, rfl, _⟩ := h; rfl
  · obtain ⟨n, c, rfl, hn2, hn10, c0, k⟩ := h
    have h2 : 2 ≤ (n : Int) := by omega
    refine ⟨_, (pss_cons (ps_set (i := 2) sc_w_rope.nd rfl (Or.inl rfl) (pe_op op_mod (pv 0) (pv 1)))
      (pss_cons (ps_set (i := 3) sc_w_rope.nd rfl (Or.inl rfl) (pe_op op_mod (pe_op op_add (pe_op op_add (pv 2) pe_int) (pe_op op_mod (pe_op op_fdiv (pv 0) pe_int) (pe_op op_sub (pv 1) pe_int))) (pv 1)))
      (pss_cons (ps_set (i := 4) sc_w_rope.nd rfl (Or.inl rfl) (pe_op op_add pe_int (pe_op op_mod (pe_op op_fdiv (pv 0) pe_int) (pe_ix ix_list (pe_lst (pa_c pe_int (pa_c pe_int (pa_c (pe_op op_pow pe_int pe_int) pa_nil)))) (pe_op op_mod (pe_op op_fdiv (pv 0) pe_int) pe_int) (fun _ _ => rfl)))))
      (pss_cons (ps_set (i := 5) sc_w_rope.nd rfl (Or.inl rfl) (pe_ix ix_list (pe_lst (pa_c pe_int (pa_c pe_int (pa_c (pe_op op_add pe_int (pe_op op_mod (pe_op op_fdiv (pv 0) pe_int) pe_int)) pa_nil)))) (pe_op op_mod (pe_op op_fdiv (pv 0) pe_int) pe_int) (fun _ _ => rfl)))
      (pss_one (ps_ret (pe_tup (pa_c (pv 2) (pa_c (pv 3) (pa_c (pv 4) (pa_c (pe_op op_add pe_int (pe_op op_mod (pe_op op_fdiv (pv 0) pe_int) pe_int)) (pa_c (pv 5) pa_nil)))))))))))), ?_⟩
    obtain ⟨o1, o2, o3, o4, o5⟩ := ends_ok (n := n) (x := c) (y := c / 10) h2
    refine ⟨_, rfl, _, rfl, _, _, rfl, rfl, (by show (0 : Int) < n; omega), ?_⟩
    refine ⟨_, rfl, _, _, rfl, rfl, _, rfl, _, _, rfl, rfl, ⟨by decide, by decide⟩, _, rfl, _, _, rfl, rfl, _, _, rfl, rfl, (by show 0 < (n : Int) - 1; omega), _, _, rfl, rfl, _, rfl, _, _, rfl, rfl, (by show (0 : Int) < n; omega), ?_⟩
    -- cost
    obtain ⟨w1, hw1, ew1⟩ := at3q (x := 3) (y := 1000) (z := 10 ^ (57 : Int).toNat) (i := c / 7 % 3) (by decide) (by decide) (by decide) (Int.emod_nonneg _ (by decide)) (Int.emod_lt_of_pos _ (by decide))
    refine ⟨_, rfl, _, _, rfl, rfl, ⟨by decide, by decide⟩, _, _, rfl, rfl, ⟨by decide, by decide, by decide⟩, (by show 3 ≤ sizeLine; decide), fun l1 h1 => ?_⟩
    have u1 := Same.new (o := .lst [V.int 3, V.int 1000, V.int (10 ^ (57 : Int).toNat)]) h1
    refine ⟨_, rfl, _, _, rfl, rfl, ⟨by decide, by decide⟩, _, _, rfl, rfl, (by show (0 : Int) < 3; decide), l1, _, _, _, rfl, rfl, SqL.of upd_same, ew1, _, _, rfl, rfl, hw1, _, _, rfl, rfl, ?_⟩
    have hc1 : 0 ≤ c / 90 % w1 := Int.emod_nonneg _ (by omega)
    -- lets
    have hl1 : 0 ≤ c / 31 % 7 := Int.emod_nonneg _ (by decide)
    have hl2 : c / 31 % 7 < 7 := Int.emod_lt_of_pos _ (by decide)
    obtain ⟨w2, hw2, ew2⟩ := at3r (x := 7) (y := 7) (z := 1 + c / 31 % 7) (i := c / 17 % 3) 1 7 (by decide) (by decide) (by omega) (Int.emod_nonneg _ (by decide)) (Int.emod_lt_of_pos _ (by decide))
    refine ⟨_, rfl, _, _, rfl, rfl, ⟨by decide, by decide⟩, _, _, rfl, rfl, (by show (0 : Int) < 7; decide), _, _, rfl, rfl, (by show 3 ≤ sizeLine; decide), fun l2 h2' => ?_⟩
    have u2 := Same.new (o := .lst [V.int 7, V.int 7, V.int (1 + c / 31 % 7)]) h2'
    refine ⟨_, rfl, _, _, rfl, rfl, ⟨by decide, by decide⟩, _, _, rfl, rfl, (by show (0 : Int) < 3; decide), l2, _, _, _, rfl, rfl, SqL.of upd_same, ew2, ?_⟩
    -- the tuple
    have hd1 : 0 ≤ c / 13 % 4 := Int.emod_nonneg _ (by decide)
    have hd2 : c / 13 % 4 < 4 := Int.emod_lt_of_pos _ (by decide)
    refine ⟨_, rfl, _, rfl, _, rfl, _, rfl, _, _, rfl, rfl, ⟨by decide, by decide⟩, _, _, rfl, rfl, (by show (0 : Int) < 4; decide), _, _, rfl, rfl, _, rfl, (by show 5 ≤ sizeLine; decide), fun q hq => ?_⟩
    exact k q _ ⟨c % n, (c % n + 1 + c / 10 % ((n : Int) - 1)) % n, 1 + c / 90 % w1, 1 + c / 13 % 4, w2⟩ ((u1.trans u2).trans (Same.new hq)) upd_same ⟨o1, o2, o3, o4, o5, by show 1 ≤ 1 + c / 90 % w1; omega, by show 1 ≤ 1 + c / 13 % 4; omega, by show 1 + c / 13 % 4 ≤ 4; omega, hw2.1, hw2.2⟩
end
end K14

set_option Elab.async false
set_option linter.all false
set_option maxRecDepth 100000
set_option maxHeartbeats 4000000
namespace K14
open PySem L2 TW PyProof.Rows
open RM (rowV byV byV_non byV_int)
seal L2.PE L2.PA L2.PT L2.PW L2.PS L2.PSs L2.PG L2.PGs L2.PI L2.PTs
section
variable {P : Program} {w : World} {K : PySem.W.Frag} {mg : Str → Option Value} {base : Heap}
def spWTown (K : PySem.W.Frag) : Sp := fun vs H Q _ => ∃ (a : Addr) (cs : List Int), vs = [.ref a] ∧ SqL K H a (cs.map V.int) ∧ cs.length ≤ 63 ∧
  ∀ q la lb lc (ns : List Int) (ts : List Addr) (rs : List R5) (live : List Nat) H', Same H H' → Told K H' q la lb lc ns rs live → Good ns rs live → H' la = some (.lst (ns.map V.int)) → H' lb = some (.lst (ts.map V.ref)) → H' lc = some (.lst (natsV live)) → ts.length = rs.length → RepAll K H' (rs.map R5.D) (ts.map V.ref) → Q (.ref q) H'
theorem ok_w_town {t : Ad} (T : Txt K mg t) : FnOk P w K mg base CX0 2 t.f_w_town t.d_w_town ["_law_script"]  (spWTown K) := by
  refine T.F_w_town.ok sc_w_town (fun vs H Q E h => ?_) (fun cdv A outer s H vs Q E hr h => ?_)
  · obtain ⟨_, _, rfl, _⟩ := h; rfl
  · obtain ⟨a, cs, rfl, hS, h63, k⟩ := h
    refine ⟨_, (pss_cons (ps_set (i := 1) sc_w_town.nd rfl (Or.inl rfl) (pe_call (ok_w_cell T) (hr.mono (by decide)) rfl T.g_w_cell T.F_w_cell.kp T.B_w_cell .nil pass0 (pa_c (pv 0) (pa_c pe_int pa_nil))))
      (pss_cons (ps_set (i := 2) sc_w_town.nd rfl (Or.inl rfl) (pe_ix ix_list (pe_const K rfl (n := 9) rfl) (pe_op op_mod (pv 1) pe_int) (fun _ _ => rfl)))
      (pss_cons (ps_set (i := 3) sc_w_town.nd rfl (Or.inl rfl) (pe_call (ok_w_names T) (hr.mono (by decide)) rfl T.g_w_names T.F_w_names.kp T.B_w_names .nil pass0 (pa_c (pe_call (ok_w_cell T) (hr.mono (by decide)) rfl T.g_w_cell T.F_w_cell.kp T.B_w_cell .nil pass0 (pa_c (pv 0) (pa_c pe_int pa_nil))) (pa_c (pv 2) pa_nil))))
      (pss_cons (ps_set (i := 4) sc_w_town.nd rfl (Or.inl rfl) (pe_lst pa_nil))
      (pss_cons (ps_if (pt_cmpR op_gt (pv 2) pe_int (nomark _)) (pss_one (ps_for PassesOwn.never rfl (pi_range2 rfl T.n_range (pa_c pe_int (pa_c (pe_callB (call_min2 rfl) (by rfl) T.n_min boot_min (pa_c (pe_callB call_len_seq (by rfl) T.n_len PySem.boot_len (pa_c (pv 0) pa_nil)) (pa_c (pe_ix ix_list (pe_lst (pa_c pe_int (pa_c pe_int pa_nil))) (pe_op op_fdiv (pv 2) pe_int) (fun _ _ => rfl)) pa_nil))) pa_nil))) (pg_name (i := 5) sc_w_town.nd rfl (Or.inl rfl)) (pss_one (ps_expr (pe_bm PySem.F.plainAttrs_list PySem.F.slot_list_append PySem.F.type_list_append mt_append (pv 4) (pa_c (pe_call (ok_w_rope T) (hr.mono (by decide)) rfl T.g_w_rope T.F_w_rope.kp T.B_w_rope .nil pass0 (pa_c (pe_call (ok_w_cell T) (hr.mono (by decide)) rfl T.g_w_cell T.F_w_cell.kp T.B_w_cell .nil pass0 (pa_c (pv 0) (pa_c (pv 5) pa_nil))) (pa_c (pv 2) pa_nil))) pa_nil)))))) pss_nil)
      (pss_cons (ps_set (i := 6) sc_w_town.nd rfl (Or.inl rfl) (pe_lst pa_nil))
      (pss_cons (ps_for PassesOwn.never rfl (pi_range1 rfl T.n_range (pa_c (pe_callB call_len_seq (by rfl) T.n_len PySem.boot_len (pa_c (pv 4) pa_nil)) pa_nil)) (pg_name (i := 5) sc_w_town.nd rfl (Or.inl rfl)) (pss_one (ps_if (PW.pt (pw_and (pt_cmpR op_eq (pe_op op_and (pe_op op_shr (pe_ix ix_tup (pe_ix ix_list (pv 4) (pv 5) (fun _ _ => rfl)) pe_int (fun _ _ => rfl)) (pe_op op_mod (pe_op op_fdiv (pv 1) pe_int) pe_int)) pe_int) pe_int (nomark _)) (pw_and1 (pt_cmpR op_ne (pe_op op_mod (pe_op op_fdiv (pe_call (ok_w_cell T) (hr.mono (by decide)) rfl T.g_w_cell T.F_w_cell.kp T.B_w_cell .nil pass0 (pa_c (pv 0) (pa_c (pe_op op_add pe_int (pv 5)) pa_nil))) pe_int) pe_int) pe_int (nomark _))))) (pss_one (ps_expr (pe_bm PySem.F.plainAttrs_list PySem.F.slot_list_append PySem.F.type_list_append mt_append (pv 6) (pa_c (pv 5) pa_nil)))) pss_nil)))
      (pss_one (ps_ret (pe_tup (pa_c (pv 2) (pa_c (pv 3) (pa_c (pv 4) (pa_c (pv 6) pa_nil)))))))))))))), ?_⟩
    refine ⟨_, rfl, a, cs, 0, rfl, hS, by decide, fun x x0 => ?_⟩
    -- size
    refine fun v H1 s1 rep => ?_
    obtain ⟨a1, rfl, hq1⟩ := Rep.of_ints (ns := [1, 2, 3, 4, 5, 6, 4, 5, 3, 10]) rep
    obtain ⟨n, hn1, hn10, en⟩ := at10 (i := x % 10) (Int.emod_nonneg _ (by decide)) (Int.emod_lt_of_pos _ (by decide))
    refine ⟨_, rfl, _, _, rfl, rfl, (by show (0 : Int) < 10; decide), a1, _, _, _, rfl, rfl, hq1, en, ?_⟩
    clear rep hq1 en
    -- names
    refine ⟨_, rfl, a, cs, 1, rfl, s1.seq hS, by decide, fun x1 _ => ⟨_, rfl, n, x1, rfl, hn1, by omega, fun la H2 ns s2 hla0 hla eln nd nn => ?_⟩⟩
    subst eln
    have s12 := s1.trans s2
    -- ropes
    refine ⟨Nat.zero_le _, fun lb hlb => ?_⟩
    have u1 := Same.new (o := .lst []) hlb
    have s13 := s12.trans u1
    have hla3 := u1 _ _ hla
    have hlb3 := upd_same (H := H2) (a := lb) (o := .lst [])
    have hlb0 : H lb = none := s12.free hlb
    have nab : la ≠ lb := ne_of_none hla hlb
    have hlb2 := hlb
    generalize upd H2 lb (.lst []) = H3 at s13 hla3 hlb3 u1
    try dsimp only [gName]
    refine ifS_by (fun σ H4 => Same H H4 ∧ H4 la = some (.lst (ns.map V.int)) ∧ ∃ (ts : List Addr) (rs : List R5) (v5 : Option V), σ = [some (.ref a), some (.int x), some (.int (ns.length : Nat)), some (.ref la), some (.ref lb), v5, none] ∧ H4 lb = some (.lst (ts.map V.ref)) ∧ ts.length = rs.length ∧ rs.length ≤ 20 ∧ (∀ (j : Nat) t r, ts[j]? = some t → rs[j]? = some r → SqT K H4 t r.vs) ∧ ∀ r ∈ rs, r.Ok ns.length) ?nx0 ?me0
    case me0 =>
      intro kj
      refine ⟨_, rfl, _, _, rfl, rfl, _, rfl, ?_⟩
      refine ite2 (fun e => ?_) (fun e => kj _ _ ⟨s13, hla3, [], [], _, rfl, hlb3, rfl, Nat.zero_le _, fun j t r e => by simp at e, fun r hr' => absurd hr' (by simp)⟩)
      have h2 : 2 ≤ ns.length := by have := of_decide_eq_true e; omega
      have q10 : (0 : Int) ≤ (ns.length : Int) / 10 ∧ (ns.length : Int) / 10 < 2 := by omega
      obtain ⟨w, hw, ew⟩ := at2 (x := 14) (z := 22) (i := (ns.length : Int) / 10) q10.1 q10.2
      refine ⟨_, rfl, a, _, rfl, .inl (s13.seq hS), (by show 2 ≤ sizeLine; decide), fun l2 hl2 => ?_⟩
      have u2 := Same.new (o := .lst [V.int 14, V.int 22]) hl2
      refine ⟨_, rfl, _, _, rfl, rfl, ⟨by decide, by decide⟩, l2, _, _, _, rfl, rfl, SqL.of upd_same, ew, _, _, rfl, ?_⟩
      have hlen : (((cs.map V.int).length : Nat) : Int) ≤ 63 := by rw [List.length_map]; omega
      obtain ⟨j, ej, hj0, hj⟩ : ∃ j : Int, (if w < (((cs.map V.int).length : Nat) : Int) then w else (((cs.map V.int).length : Nat) : Int)) = j ∧ 0 ≤ j ∧ j ≤ 22 := by
        refine ⟨_, rfl, ?_, ?_⟩
        · split <;> omega
        · split <;> omega
      refine ⟨2, j, (by show [V.int 2, V.int (if w < (((cs.map V.int).length : Nat) : Int) then w else (((cs.map V.int).length : Nat) : Int))] ++ [] = _; rw [ej]; rfl), ⟨by decide, by decide, by omega, by omega⟩, ?_⟩
      have s14 := s13.trans u2
      refine for_range (n := (j - 2).toNat) (fun i σ H4 => Same H H4 ∧ H4 la = some (.lst (ns.map V.int)) ∧ ∃ (ts : List Addr) (rs : List R5) (v5 : Option V), σ = [some (.ref a), some (.int x), some (.int (ns.length : Nat)), some (.ref la), some (.ref lb), v5, none] ∧ H4 lb = some (.lst (ts.map V.ref)) ∧ ts.length = rs.length ∧ rs.length = i ∧ (∀ (j : Nat) t r, ts[j]? = some t → rs[j]? = some r → SqT K H4 t r.vs) ∧ ∀ r ∈ rs, r.Ok ns.length)
        ⟨s14, u2 _ _ hla3, [], [], _, rfl, u2 _ _ hlb3, rfl, rfl, fun j t r e => by simp at e, fun r hr' => absurd hr' (by simp)⟩ ?_ ?_
      · rintro i σ H4 hi ⟨s4, hla4, ts, rs, v5, rfl, hlb4, el, ei, hts, ok⟩
        refine ⟨_, rfl, .inl ⟨rfl, _, SqL.of hlb4⟩, _, rfl, _, rfl, a, cs, 2 + (i : Int), rfl, s4.seq hS, by omega, fun x2 x20 => ⟨_, rfl, ns.length, x2, rfl, h2, hn10, x20, fun q H5 r s5 hq okr => ?_⟩⟩
        have hlb5 := s5 _ _ hlb4
        refine ⟨lb, _, _, rfl, rfl, hlb5, (by rw [List.length_map]; exact small1000 (by omega)), ?_⟩
        refine ⟨(s4.trans s5).out hlb0, by rw [upd_ne nab]; exact s5 _ _ hla4, ts ++ [q], rs ++ [r], _, rfl, by rw [upd_same, List.map_append]; rfl, by rw [List.length_append, List.length_append, el]; rfl, by rw [List.length_append, ei]; rfl, fun j' t r' f1 f2 => ?_, fun r' hr' => ?_⟩
        · refine sqT_lst hlb5 ?_
          rcases snoc_at f1 with z1 | ⟨z1, z2⟩
          · rcases snoc_at f2 with y1 | ⟨y1, y2⟩
            · exact s5.seqT (hts j' t r' z1 y1)
            · have := (List.getElem?_eq_some_iff.mp z1).1; omega
          · rcases snoc_at f2 with y1 | ⟨y1, y2⟩
            · have := (List.getElem?_eq_some_iff.mp y1).1; omega
            · rw [z2, y2]; exact SqT.of hq
        · rcases List.mem_append.mp hr' with z | z
          · exact ok r' z
          · rw [List.mem_singleton.mp z]; exact okr
      · rintro σ H4 ⟨s4, hla4, ts, rs, v5, rfl, hlb4, el, ei, hts, ok⟩
        exact kj _ _ ⟨s4, hla4, ts, rs, v5, rfl, hlb4, el, by omega, hts, ok⟩
    rintro σ H4 ⟨s4, hla4, ts, rs, v5, rfl, hlb4, el, l20, hts, ok⟩
    -- live
    refine ⟨Nat.zero_le _, fun lc hlc => ?_⟩
    have u3 := Same.new (o := .lst []) hlc
    have s5 := s4.trans u3
    have hla5 := u3 _ _ hla4
    have hlb5 := u3 _ _ hlb4
    have hlc0 : H lc = none := s4.free hlc
    have nac : la ≠ lc := ne_of_none hla4 hlc
    have nbc : lb ≠ lc := ne_of_none hlb4 hlc
    have hts5 : ∀ (j : Nat) t r, ts[j]? = some t → rs[j]? = some r → SqT K (upd H4 lc (.lst [])) t r.vs := fun j t r e1 e2 => u3.seqT (hts j t r e1 e2)
    have hlc5 := upd_same (H := H4) (a := lc) (o := .lst [])
    generalize upd H4 lc (.lst []) = H5 at s5 hla5 hlb5 hts5 hlc5
    clear u3 hts hlb4 hla4 s4 hlc
    have lenT : (((ts.map V.ref).length : Nat) : Int) = (rs.length : Int) := by rw [List.length_map, el]
    refine ⟨_, rfl, lb, _, rfl, .inl (SqL.of hlb5), (((ts.map V.ref).length : Nat) : Int), rfl, by rw [lenT]; omega, by rw [lenT]; omega, ?_⟩
    have g0 : 0 ≤ x / 10 % 3 := Int.emod_nonneg _ (by decide)
    refine for_range (n := ((((ts.map V.ref).length : Nat) : Int)).toNat) (fun i σ H6 => Same H H6 ∧ H6 la = some (.lst (ns.map V.int)) ∧ H6 lb = some (.lst (ts.map V.ref)) ∧ (∀ (j : Nat) t r, ts[j]? = some t → rs[j]? = some r → SqT K H6 t r.vs) ∧ ∃ (live : List Nat) (v5 : Option V), σ = [some (.ref a), some (.int x), some (.int (ns.length : Nat)), some (.ref la), some (.ref lb), v5, some (.ref lc)] ∧ H6 lc = some (.lst (natsV live)) ∧ live.length ≤ i ∧ (∀ k ∈ live, k < i) ∧ live.Pairwise (· < ·))
      ⟨s5, hla5, hlb5, hts5, [], _, rfl, hlc5, Nat.zero_le _, fun k hk => absurd hk (by simp), List.Pairwise.nil⟩ ?_ ?_
    · rintro i σ H6 hi ⟨s6, hla6, hlb6, hts6, live, w5, rfl, hlc6, ell, hb, hs⟩
      rw [lenT] at hi
      have hir : rs[i]? = some rs[i] := List.getElem?_eq_getElem (by omega)
      have hit : ts[i]? = some ts[i] := List.getElem?_eq_getElem (by omega)
      have hpt := hts6 i _ _ hit hir
      have hatu : atI (ts.map V.ref) (i : Int) = some (.ref ts[i]) := atI_nat (by rw [List.getElem?_map, hit]; rfl)
      rw [Int.zero_add]
      have skip : ∀ w5, Same H H6 ∧ H6 la = some (.lst (ns.map V.int)) ∧ H6 lb = some (.lst (ts.map V.ref)) ∧ (∀ (j : Nat) t r, ts[j]? = some t → rs[j]? = some r → SqT K H6 t r.vs) ∧ ∃ (live : List Nat) (v5 : Option V), [some (.ref a), some (V.int x), some (.int (ns.length : Nat)), some (.ref la), some (.ref lb), w5, some (.ref lc)] = [some (.ref a), some (.int x), some (.int (ns.length : Nat)), some (.ref la), some (.ref lb), v5, some (.ref lc)] ∧ H6 lc = some (.lst (natsV live)) ∧ live.length ≤ i + 1 ∧ (∀ k ∈ live, k < i + 1) ∧ live.Pairwise (· < ·) :=
        fun w5 => ⟨s6, hla6, hlb6, hts6, live, w5, rfl, hlc6, by omega, fun k hk => by have := hb k hk; omega, hs⟩
      refine ⟨_, rfl, _, rfl, lb, _, _, _, rfl, rfl, SqL.of hlb6, hatu, ts[i], _, 4, _, rfl, rfl, hpt, rfl, _, rfl, _, _, rfl, rfl, ⟨by decide, by decide⟩, _, _, rfl, rfl, (by show (0 : Int) < 3; decide), _, _, rfl, rfl, g0, _, _, rfl, rfl, rfl, _, rfl, ?_⟩
      refine ite2 (fun e => ?_) (fun e => iteF (skip _))
      refine ⟨_, rfl, _, rfl, _, _, rfl, rfl, a, cs, 2 + (i : Int), rfl, s6.seq hS, by omega, fun x3 _ => ⟨_, _, rfl, rfl, ⟨by decide, by decide⟩, _, _, rfl, rfl, (by show (0 : Int) < 6; decide), rfl, _, rfl, ?_⟩⟩
      refine ite2 (fun e => ?_) (fun e => skip _)
      refine ⟨_, rfl, .inl ⟨rfl, _, SqL.of hlc6⟩, _, rfl, lc, _, _, rfl, rfl, hlc6, (by rw [List.length_map]; exact small1000 (by omega)), ?_⟩
      refine ⟨s6.out hlc0, by rw [upd_ne nac]; exact hla6, by rw [upd_ne nbc]; exact hlb6, fun j t r e1 e2 => sqT_lst hlc6 (hts6 j t r e1 e2), live ++ [i], _, rfl, ?_, ?_, ?_, ?_⟩
      · rw [upd_same, natsV_snoc]
      · rw [List.length_append]; show live.length + 1 ≤ i + 1; omega
      · intro k hk
        rcases List.mem_append.mp hk with y | y
        · have := hb k y; omega
        · have := List.mem_singleton.mp y; omega
      · rw [List.pairwise_append]
        exact ⟨hs, by simp, fun x hx y hy => by have := hb x hx; have := List.mem_singleton.mp hy; omega⟩
    · rintro σ H6 ⟨s6, hla6, hlb6, hts6, live, w5, rfl, hlc6, ell, hb, hs⟩
      rw [lenT] at hb
      refine ⟨_, rfl, _, rfl, _, rfl, _, rfl, (by show 4 ≤ sizeLine; decide), fun q hq => ?_⟩
      have u4 := Same.new (o := .tup [V.int (ns.length : Nat), V.ref la, V.ref lb, V.ref lc]) hq
      have hra := ropes_all (K := K) el fun j t r e1 e2 => u4.seqT (hts6 j t r e1 e2)
      exact k q la lb lc ns ts rs live _ (s6.trans u4) ⟨SqT.of upd_same, SqL.of (u4 _ _ hla6), ⟨lb, _, rfl, SqL.of (u4 _ _ hlb6), hra⟩, SqL.of (u4 _ _ hlc6)⟩ ⟨hn1, hn10, nd, nn, l20, ok, fun k hk => by have := hb k hk; omega, hs⟩ (u4 _ _ hla6) (u4 _ _ hlb6) (u4 _ _ hlc6) el hra
end
end K14

set_option Elab.async false
set_option linter.all false
set_option maxRecDepth 100000
set_option maxHeartbeats 4000000
namespace K14
open PySem L2 TW PyProof.Rows
open RM (rowV byV byV_non byV_int)
seal L2.PE L2.PA L2.PT L2.PW L2.PS L2.PSs L2.PG L2.PGs L2.PI L2.PTs
section
variable {P : Program} {w : World} {K : PySem.W.Frag} {mg : Str → Option Value} {base : Heap}
def spWRow (K : PySem.W.Frag) : Sp := fun vs H Q _ => ∃ (c : Int) (a : Addr) (ns : List Int) (m : Nat), vs = [.int c, .ref a, .int m] ∧ 0 ≤ c ∧ SqL K H a (ns.map V.int) ∧ 1 ≤ ns.length ∧ (∀ x ∈ ns, 0 ≤ x) ∧
  ∀ p (r : RM.Row) H', Same H H' → H p = none → H' p = some (.tup (rowV r)) → RowFit ns.length m r → Q (.ref p) H'
theorem ok_w_row {t : Ad} (T : Txt K mg t) : FnOk P w K mg base CX0 1 t.f_w_row t.d_w_row ["_law_cell_here", "_law_names_here", "_law_many"]  (spWRow K) := by
  refine T.F_w_row.ok sc_w_row (fun vs H Q E h => ?_) (fun cdv A outer s H vs Q E hr h => ?_)
  · obtain ⟨_, _, _, _, rfl, _⟩ := h; rfl
  · obtain ⟨c, a, ns, m, rfl, c0, hS, hn1, hn0, k⟩ := h
    refine ⟨_, (pss_cons (ps_set (i := 3) sc_w_row.nd rfl (Or.inl rfl) (pe_ix ix_list (pv 1) (pe_op op_mod (pv 0) (pe_callB call_len_seq (by rfl) T.n_len PySem.boot_len (pa_c (pv 1) pa_nil))) (fun _ _ => rfl)))
      (pss_cons (ps_if (pt_cmpR op_eq (pe_op op_mod (pe_op op_fdiv (pv 0) pe_int) pe_int) pe_int (nomark _)) (pss_one (ps_set (i := 3) sc_w_row.nd rfl (Or.inl rfl) (pe_op op_mod (pe_op op_fdiv (pv 0) pe_int) (pe_ix ix_list (pe_lst (pa_c pe_int (pa_c (pe_op op_pow pe_int pe_int) pa_nil))) (pe_op op_mod (pe_op op_fdiv (pv 0) pe_int) pe_int) (fun _ _ => rfl))))) pss_nil)
      (pss_cons (ps_set (i := 4) sc_w_row.nd rfl (Or.inl rfl) (pe_op op_mod (pe_op op_fdiv (pv 0) pe_int) (pe_ix ix_list (pe_lst (pa_c pe_int (pa_c (pe_op op_pow pe_int pe_int) pa_nil))) (pe_op op_mod (pe_op op_fdiv (pv 0) pe_int) pe_int) (fun _ _ => rfl))))
      (pss_cons (ps_set (i := 5) sc_w_row.nd rfl (Or.inl rfl) pe_non)
      (pss_cons (ps_if (PW.pt (pw_and (pt_cmpR op_gt (pv 2) pe_int (nomark _)) (pw_and1 (pt_cmpR op_gt (pe_op op_mod (pe_op op_fdiv (pv 0) pe_int) pe_int) pe_int (nomark _))))) (pss_one (ps_set (i := 5) sc_w_row.nd rfl (Or.inl rfl) (pe_op op_mod (pe_op op_fdiv (pv 0) pe_int) (pv 2)))) pss_nil)
      (pss_one (ps_ret (pe_tup (pa_c (pv 3) (pa_c (pv 4) (pa_c (pe_op op_mod (pe_op op_fdiv (pv 0) pe_int) (pe_callB call_len_seq (by rfl) T.n_len PySem.boot_len (pa_c (pv 1) pa_nil))) (pa_c (pv 5) pa_nil)))))))))))), ?_⟩
    have lenA : (((ns.map V.int).length : Nat) : Int) = (ns.length : Int) := by rw [List.length_map]
    have div0 : ∀ y : Int, 0 < y → 0 ≤ c / y := fun y hy => Int.ediv_nonneg c0 (by omega)
    obtain ⟨i, hi, hin⟩ : ∃ i : Nat, c % (ns.length : Int) = (i : Int) ∧ i < ns.length := by
      have h2 := Int.emod_nonneg c (show (ns.length : Int) ≠ 0 by omega)
      have h3 := Int.emod_lt_of_pos c (show (0 : Int) < ns.length by omega)
      exact ⟨(c % (ns.length : Int)).toNat, by omega, by omega⟩
    have hat : atI (ns.map V.int) (c % (((ns.map V.int).length : Nat) : Int)) = some (.int ns[i]) := by
      rw [lenA, hi]
      exact atI_nat (by rw [List.getElem?_map, List.getElem?_eq_getElem hin]; rfl)
    have hnm := hn0 _ (List.getElem_mem hin)
    refine ⟨_, rfl, _, rfl, _, rfl, a, _, rfl, .inl hS, _, _, rfl, rfl, (by show (0 : Int) < ((ns.map V.int).length : Nat); rw [lenA]; omega), a, _, _, _, rfl, rfl, hS, hat, ?_⟩
    generalize ns[i] = nm at hnm
    try dsimp only [gName]
    refine ifS_by (fun σ H2 => Same H H2 ∧ ∃ hd : Int, 0 ≤ hd ∧ σ = [some (.int c), some (.ref a), some (.int m), some (.int hd), none, none]) ?nx0 ?me0
    case me0 =>
      intro kj
      refine ⟨_, rfl, _, _, rfl, rfl, ⟨by decide, by decide⟩, _, _, rfl, rfl, (by show (0 : Int) < 4; decide), rfl, _, rfl, ?_⟩
      refine ite2 (fun e => ?_) (fun e => kj _ _ ⟨Same.refl _, nm, hnm, rfl⟩)
      obtain ⟨w, hw, ew⟩ := at2p (x := 5) (y := 10 ^ (58 : Int).toNat) (i := c / 3 % 2) (by decide) (by decide) (Int.emod_nonneg _ (by decide)) (Int.emod_lt_of_pos _ (by decide))
      refine ⟨_, rfl, _, _, rfl, rfl, ⟨by decide, by decide⟩, _, _, rfl, rfl, ⟨by decide, by decide, by decide⟩, (by show 2 ≤ sizeLine; decide), fun l1 h1 => ?_⟩
      refine ⟨_, rfl, _, _, rfl, rfl, ⟨by decide, by decide⟩, _, _, rfl, rfl, (by show (0 : Int) < 2; decide), l1, _, _, _, rfl, rfl, SqL.of upd_same, ew, _, _, rfl, rfl, hw, ?_⟩
      exact kj _ _ ⟨Same.new h1, _, Int.emod_nonneg _ (by omega), rfl⟩
    rintro σ H2 ⟨s2, hd, hd0, rfl⟩
    -- cost
    obtain ⟨w, hw, ew⟩ := at2p (x := 4) (y := 10 ^ (58 : Int).toNat) (i := c / 5 % 2) (by decide) (by decide) (Int.emod_nonneg _ (by decide)) (Int.emod_lt_of_pos _ (by decide))
    refine ⟨_, rfl, _, _, rfl, rfl, ⟨by decide, by decide⟩, _, _, rfl, rfl, ⟨by decide, by decide, by decide⟩, (by show 2 ≤ sizeLine; decide), fun l1 h1 => ?_⟩
    have u1 := Same.new (o := .lst [V.int 4, V.int (10 ^ (58 : Int).toNat)]) h1
    refine ⟨_, rfl, _, _, rfl, rfl, ⟨by decide, by decide⟩, _, _, rfl, rfl, (by show (0 : Int) < 2; decide), l1, _, _, _, rfl, rfl, SqL.of upd_same, ew, _, _, rfl, rfl, hw, ?_⟩
    have hco : 0 ≤ c / 11 % w := Int.emod_nonneg _ (by omega)
    have s3 := s2.trans u1
    show gName 4 (V.int (c / 11 % w)) _ _ _
    generalize c / 11 % w = co at hco
    generalize upd H2 l1 (.lst [V.int 4, V.int (10 ^ (58 : Int).toNat)]) = H3 at s3
    dsimp only [tSeq, tAsg, tC, gName]
    refine ifD_by (fun σ H4 => H3 = H4 ∧ ∃ b : Int, (b = -1 ∨ (0 ≤ b ∧ b < m)) ∧ σ = [some (.int c), some (.ref a), some (.int m), some (.int hd), some (.int co), some (byV b)]) ?nx1 ?me1
    case me1 =>
      intro kj
      refine ⟨_, rfl, _, _, rfl, rfl, _, rfl, ?_⟩
      refine ite2 (fun e => ?_) (fun e => ?_)
      case refine_2 => exact iteF (kj _ _ ⟨rfl, -1, .inl rfl, rfl⟩)
      have hm : (0 : Int) < m := of_decide_eq_true e
      refine ⟨_, rfl, _, _, rfl, rfl, ⟨by decide, by decide⟩, _, _, rfl, rfl, (by show (0 : Int) < 4; decide), _, _, rfl, rfl, _, rfl, ?_⟩
      refine ite2 (fun e2 => ?_) (fun e2 => kj _ _ ⟨rfl, -1, .inl rfl, rfl⟩)
      have h1 := Int.emod_nonneg (c / 12) (show (m : Int) ≠ 0 by omega)
      have h2 := Int.emod_lt_of_pos (c / 12) hm
      refine ⟨_, rfl, _, _, rfl, rfl, ⟨by decide, by decide⟩, _, rfl, _, _, rfl, rfl, hm, ?_⟩
      refine kj _ _ ⟨rfl, c / 12 % m, .inr ⟨h1, h2⟩, ?_⟩
      rw [byV_int h1]
      rfl
    rintro σ H4 ⟨rfl, b, hb, rfl⟩
    have h1 := Int.emod_nonneg (c / 23) (show (ns.length : Int) ≠ 0 by omega)
    have h2 := Int.emod_lt_of_pos (c / 23) (show (0 : Int) < (ns.length : Int) by omega)
    refine ⟨_, rfl, _, rfl, _, rfl, _, _, rfl, rfl, ⟨by decide, by decide⟩, _, rfl, a, _, rfl, .inl (s3.seq hS), _, _, rfl, rfl, (by show (0 : Int) < ((ns.map V.int).length : Nat); rw [lenA]; omega), _, rfl, (by show 4 ≤ sizeLine; decide), fun p hp => ?_⟩
    refine k p ⟨hd, co, c / 23 % (ns.length : Int), b⟩ _ (s3.trans (Same.new hp)) (s3.free hp) ?_ ⟨hd0, hco, ⟨h1, h2⟩, hb⟩
    rw [upd_same]
    show some (HO.tup [V.int hd, V.int co, V.int (c / 23 % (((ns.map V.int).length : Nat) : Int)), byV b]) = _
    rw [lenA]
end
section
variable {P : Program} {w : World} {K : PySem.W.Frag} {mg : Str → Option Value} {base : Heap}
def spWRows (K : PySem.W.Frag) : Sp := fun vs H Q _ => ∃ (a b : Addr) (cs ns : List Int) (m : Nat), vs = [.ref a, .ref b, .int m] ∧ SqL K H a (cs.map V.int) ∧ SqL K H b (ns.map V.int) ∧ 1 ≤ ns.length ∧ ns.length ≤ 12 ∧ (∀ x ∈ ns, 0 ≤ x) ∧
  ∀ l R H', Same H H' → H l = none → OwnRows K H' l ns.length R → FitAll ns.length m R → Q (.ref l) H'
theorem ok_w_rows {t : Ad} (T : Txt K mg t) : FnOk P w K mg base CX0 2 t.f_w_rows t.d_w_rows ["_law_script", "_law_names_here", "_law_many"]  (spWRows K) := by
  refine T.F_w_rows.ok sc_w_rows (fun vs H Q E h => ?_) (fun cdv A outer s H vs Q E hr h => ?_)
  · obtain ⟨_, _, _, _, _, rfl, _⟩ := h; rfl
  · obtain ⟨a, b, cs, ns, m, rfl, hS, hA, hn1, hn12, hn0, k⟩ := h
    refine ⟨_, (pss_cons (ps_set (i := 3) sc_w_rows.nd rfl (Or.inl rfl) (pe_lst pa_nil))
      (pss_cons (ps_for PassesOwn.never rfl (pi_range1 rfl T.n_range (pa_c (pe_callB call_len_seq (by rfl) T.n_len PySem.boot_len (pa_c (pv 1) pa_nil)) pa_nil)) (pg_name (i := 4) sc_w_rows.nd rfl (Or.inl rfl)) (pss_cons (ps_set (i := 5) sc_w_rows.nd rfl (Or.inl rfl) (pe_call (ok_w_cell T) (hr.mono (by decide)) rfl T.g_w_cell T.F_w_cell.kp T.B_w_cell .nil pass0 (pa_c (pv 0) (pa_c (pe_op op_add pe_int (pv 4)) pa_nil))))
      (pss_one (ps_expr (pe_bm PySem.F.plainAttrs_list PySem.F.slot_list_append PySem.F.type_list_append mt_append (pv 3) (pa_c (pe_call (ok_w_row T) (hr.mono (by decide)) rfl T.g_w_row T.F_w_row.kp T.B_w_row .nil pass0 (pa_c (pe_op op_mod (pe_op op_mul (pe_op op_mul (pv 5) (pe_op op_add (pv 4) pe_int)) pe_int) (pe_op op_pow pe_int pe_int)) (pa_c (pv 1) (pa_c (pv 2) pa_nil)))) pa_nil))))))
      (pss_one (ps_ret (pv 3))))), ?_⟩
    have lenA : (((ns.map V.int).length : Nat) : Int) = (ns.length : Int) := by rw [List.length_map]
    refine ⟨Nat.zero_le _, fun l hl => ?_⟩
    have u1 := Same.new (o := .lst []) hl
    refine ⟨_, rfl, b, _, rfl, .inl (u1.seq hA), (((ns.map V.int).length : Nat) : Int), rfl, by rw [lenA]; omega, by rw [lenA]; omega, ?_⟩
    refine for_range (n := ((((ns.map V.int).length : Nat) : Int)).toNat) (fun i σ H2 => Same H H2 ∧ ∃ (ps : List Addr) (rl : List RM.Row) (v4 v5 : Option V), σ = [some (.ref a), some (.ref b), some (.int m), some (.ref l), v4, v5] ∧ H2 l = some (.lst (ps.map V.ref)) ∧ ps.length = i ∧ rl.length = i ∧ (∀ (j : Nat) p r, ps[j]? = some p → rl[j]? = some r → SqT K H2 p (rowV r)) ∧ ∀ r ∈ rl, RowFit ns.length m r)
      ⟨u1, [], [], _, _, rfl, upd_same, rfl, rfl, fun j p r e => by simp at e, fun r hr' => absurd hr' (by simp)⟩ ?_ ?_
    · rintro i σ H2 hi ⟨s2, ps, rl, v4, v5, rfl, hl2, e1, e2, hrow, hfit⟩
      rw [lenA] at hi
      rw [Int.zero_add]
      refine ⟨_, rfl, _, rfl, _, _, rfl, rfl, a, cs, 1 + (i : Int), rfl, s2.seq hS, by omega, fun x x0 => ?_⟩
      refine ⟨_, rfl, .inl ⟨rfl, _, SqL.of hl2⟩, _, rfl, _, rfl, _, _, rfl, rfl, _, _, rfl, rfl, .inr ⟨by omega, by omega⟩, _, _, rfl, rfl, .inr ⟨by decide, by decide⟩, _, _, rfl, rfl, ⟨by decide, by decide, by decide⟩, _, _, rfl, rfl, (by show (0 : Int) < 10 ^ (59 : Int).toNat; decide), _, rfl, _, rfl, _, b, ns, m, rfl, Int.emod_nonneg _ (by decide), s2.seq hA, hn1, hn0, fun p r H3 s3 hp0 hp fit => ?_⟩
      have hl3 := s3 _ _ hl2
      refine ⟨l, _, _, rfl, rfl, hl3, (by rw [List.length_map]; exact small1000 (by omega)), ?_⟩
      refine ⟨(s2.trans s3).out hl, ps ++ [p], rl ++ [r], _, _, rfl, by rw [upd_same, List.map_append]; rfl, by rw [List.length_append, e1]; rfl, by rw [List.length_append, e2]; rfl, fun j t r' f1 f2 => ?_, fun r' hr' => ?_⟩
      · refine sqT_lst hl3 ?_
        rcases snoc_at f1 with z1 | ⟨z1, z2⟩
        · rcases snoc_at f2 with y1 | ⟨y1, y2⟩
          · exact s3.seqT (hrow j t r' z1 y1)
          · have := (List.getElem?_eq_some_iff.mp z1).1; omega
        · rcases snoc_at f2 with y1 | ⟨y1, y2⟩
          · have := (List.getElem?_eq_some_iff.mp y1).1; omega
          · rw [z2, y2]; exact SqT.of hp
      · rcases List.mem_append.mp hr' with z | z
        · exact hfit r' z
        · rw [List.mem_singleton.mp z]; exact fit
    · rintro σ H2 ⟨s2, ps, rl, v4, v5, rfl, hl2, e1, e2, hrow, hfit⟩
      rw [lenA] at e1 e2
      refine ⟨_, rfl, k l (fun i => rl.getD i ⟨0, 0, 0, 0⟩) H2 s2 hl ⟨ps, hl2, by omega, fun i p e => ?_⟩ fun i hi => ?_⟩
      · have hi : i < rl.length := by have := (List.getElem?_eq_some_iff.mp e).1; omega
        show SqT K H2 p (rowV (rl.getD i ⟨0, 0, 0, 0⟩))
        rw [rowGetD hi]
        exact hrow i p _ e (List.getElem?_eq_getElem hi)
      · show RowFit _ _ (rl.getD i _)
        rw [rowGetD (by omega)]
        exact hfit _ (List.getElem_mem _)
end
end K14

set_option Elab.async false
set_option linter.all false
set_option maxRecDepth 100000
set_option maxHeartbeats 4000000
namespace K14
open PySem L2 TW PyProof.Rows
open RM (rowV byV byV_non byV_int)
seal L2.PE L2.PA L2.PT L2.PW L2.PS L2.PSs L2.PG L2.PGs L2.PI L2.PTs
section
variable {P : Program} {w : World} {K : PySem.W.Frag} {mg : Str → Option Value} {base : Heap}
def spWhole : Sp := fun vs H Q _ => ∃ i : Int, vs = [.int i] ∧ Q (.bl true) H
theorem ok_w_whole {t : Ad} (T : Txt K mg t) : FnOk P w K mg base CX0 1 t.f_w_whole t.d_w_whole ["_law_found"]  spWhole := by
  refine T.F_w_whole.ok sc_w_whole (fun vs H Q E h => ?_) (fun cdv A outer s H vs Q E hr h => ?_)
  · obtain ⟨i, rfl, _⟩ := h; rfl
  · obtain ⟨i, rfl, k⟩ := h
    refine ⟨_, (pss_one (ps_ret (pe_and (pe_callB call_isi (by rfl) T.n_isinstance boot_isinstance (pa_c (pv 0) (pa_c (pe_bltn rfl T.n_int boot_int (v := .ty "int") rfl) pa_nil))) (pe_one (pe_not (pe_callB call_isi (by rfl) T.n_isinstance boot_isinstance (pa_c (pv 0) (pa_c (pe_bltn rfl T.n_bool boot_bool (v := .ty "bool") rfl) pa_nil)))))))), ?_⟩
    refine ⟨_, rfl, _, _, _, _, rfl, .int _, rfl, _, rfl, iteT ?_⟩
    refine ⟨_, rfl, _, _, _, _, rfl, .int _, rfl, _, rfl, ?_⟩
    exact k
end
end K14

set_option Elab.async false
set_option linter.all false
set_option maxRecDepth 100000
set_option maxHeartbeats 4000000
namespace K14
open PySem L2 TW PyProof.Rows
open RM (rowV byV byV_non byV_int)
seal L2.PE L2.PA L2.PT L2.PW L2.PS L2.PSs L2.PG L2.PGs L2.PI L2.PTs
section
variable {P : Program} {w : World} {K : PySem.W.Frag} {mg : Str → Option Value} {base : Heap}
def spNumEq (K : PySem.W.Frag) : Sp := fun vs H Q _ => ∃ (l1 l2 : Addr) (xs : List Nat), vs = [.ref l1, .ref l2] ∧ SqL K H l1 (natsV xs) ∧ SqL K H l2 (natsV xs) ∧ ∀ H', Same H H' → Q (.bl true) H'
theorem ok_w_numbers {t : Ad} (T : Txt K mg t) : FnOk P w K mg base CX0 2 t.f_w_numbers t.d_w_numbers ["_law_found", "_law_ought_here"]  (spNumEq K) := by
  refine T.F_w_numbers.ok sc_w_numbers (fun vs H Q E h => ?_) (fun cdv A outer s H vs Q E hr h => ?_)
  · obtain ⟨_, _, _, rfl, _⟩ := h; rfl
  · obtain ⟨l1, l2, xs, rfl, hA, hB, k⟩ := h
    refine ⟨_, (pss_cons (ps_if (PW.pt (pw_or (pt_not (pt_val (pe_callB call_isiL (by rfl) T.n_isinstance boot_isinstance (pa_c (pv 0) (pa_c (pe_bltn rfl T.n_list boot_list (v := .ty "list") rfl) pa_nil))))) (pw_or1 (pt_cmpR op_ne (pe_callB call_len_seq (by rfl) T.n_len PySem.boot_len (pa_c (pv 0) pa_nil)) (pe_callB call_len_seq (by rfl) T.n_len PySem.boot_len (pa_c (pv 1) pa_nil)) (nomark _))))) (pss_one (ps_ret pe_bl)) pss_nil)
      (pss_cons (ps_for PassesOwn.never rfl (pi_zip rfl T.n_zip (pa_c (pv 0) (pa_c (pv 1) pa_nil))) (pg_tup (n := 2) rfl (pgs_cons (pg_name (i := 2) sc_w_numbers.nd rfl (Or.inl rfl)) (pgs_cons (pg_name (i := 3) sc_w_numbers.nd rfl (Or.inl rfl)) pgs_nil))) (pss_one (ps_if (PW.pt (pw_or (pt_not (pt_val (pe_call (ok_w_whole T) (hr.mono (by decide)) rfl T.g_w_whole T.F_w_whole.kp T.B_w_whole .nil pass0 (pa_c (pv 2) pa_nil)))) (pw_or1 (pt_cmpR op_ne (pv 2) (pv 3) (nomark _))))) (pss_one (ps_ret pe_bl)) pss_nil)))
      (pss_one (ps_ret pe_bl)))), ?_⟩
    refine ⟨_, rfl, l1, _, _, _, rfl, hA, rfl, _, rfl, iteF ?_⟩
    refine ⟨_, rfl, l1, _, rfl, .inl hA, _, rfl, l2, _, rfl, .inl hB, rfl, _, rfl, ?_⟩
    simp only [decide_true, Bool.not_true]
    refine iteF ?_
    refine ⟨_, rfl, _, rfl, l1, l2, _, _, rfl, hA, hB, ?_⟩
    refine for_zip (K := K) (a := l1) (b := l2) (xs := natsV xs) (ys := natsV xs) (n := (natsV xs).length) (fun i σ H2 => Same H H2 ∧ ∃ v2 v3 : Option V, σ = [some (.ref l1), some (.ref l2), v2, v3]) rfl rfl ⟨Same.refl _, _, _, rfl⟩ (fun i σ H2 _ z => ⟨z.1.seq hA, z.1.seq hB⟩) ?_ ?_
    · rintro i x y σ H2 p hi hx hy ⟨s2, v2, v3, rfl⟩ hp
      have u1 := Same.new (o := .tup [x, y]) hp
      refine ⟨p, _, rfl, SqT.of upd_same, rfl, _, _, rfl, _, _, rfl, rfl, ?_⟩
      have exy : x = y := Option.some.inj (hx.symm.trans hy)
      subst exy
      obtain ⟨z, _, rfl⟩ := List.mem_map.mp (List.mem_of_getElem? hx)
      refine ⟨_, rfl, _, rfl, ⟨_, rfl, iteF ?_⟩⟩
      refine ⟨_, rfl, _, rfl, rfl, _, rfl, ?_⟩
      simp only [decide_true, Bool.not_true]
      exact iteF ⟨s2.trans u1, _, _, rfl⟩
    · rintro σ H2 ⟨s2, v2, v3, rfl⟩
      exact k H2 s2
end
end K14

set_option Elab.async false
set_option linter.all false
set_option maxRecDepth 100000
set_option maxHeartbeats 4000000
namespace K14
open PySem L2 TW PyProof.Rows
open RM (rowV byV byV_non byV_int)
seal L2.PE L2.PA L2.PT L2.PW L2.PS L2.PSs L2.PG L2.PGs L2.PI L2.PTs
section
variable {P : Program} {w : World} {K : PySem.W.Frag} {mg : Str → Option Value} {base : Heap}
def spOught (K : PySem.W.Frag) : Sp := fun vs H Q _ => ∃ (a b c rb : Addr) (ns : List Int) (rs : List R5) (live : List Nat) (nd : ns.Nodup) (ok : ∀ r ∈ rs, r.Ok ns.length) (hl : ∀ k ∈ live, k < rs.length) (R : Nat → RM.Row) (h : Nat), vs = [.int (ns.length : Nat), .ref a, .ref b, .ref c, .ref rb, .int h] ∧ SqL K H a (ns.map V.int) ∧ Ropes K H b rs ∧ SqL K H c (natsV live) ∧ RowsAt K H rb ns.length R ∧ h < ns.length ∧ RM.Sane (townNet ns rs live nd ok hl) R ∧
  ∀ q d H', Same H H' → SqT K H' q (rowV d) → RM.IsDue (N := townNet ns rs live nd ok hl) ns.length R h d → Q (.ref q) H'
theorem ok_w_ought {t : Ad} (T : Txt K mg t) : FnOk P w K mg base CX0 1 t.f_w_ought t.d_w_ought ["_law_size", "_law_names_here", "_law_ropes", "_law_live", "_law_rows_here", "_law_house"]  (spOught K) := by
  refine T.F_w_ought.ok sc_w_ought (fun vs H Q E h => ?_) (fun cdv A outer s H vs Q E hr h => ?_)
  · obtain ⟨_, _, _, _, _, _, _, _, _, _, _, _, rfl, _⟩ := h; rfl
  · obtain ⟨a, b, c, rb, ns, rs, live, nd, ok, hlv, R, x, rfl, hA, hR, hC, hRw, hx, sane, k⟩ := h
    obtain ⟨us, hL, el, hg⟩ := hR.at
    obtain ⟨ps, hP, ePs, hrow⟩ := id hRw
    refine ⟨_, (pss_cons (ps_set (i := 6) sc_w_ought.nd rfl (Or.inl rfl) (pe_tup (pa_c (pe_ix ix_list (pv 1) (pv 5) (fun _ _ => rfl)) (pa_c pe_int (pa_c pe_int (pa_c pe_non pa_nil))))))
      (pss_cons (ps_for PassesOwn.never rfl (pi_list (pv 3)) (pg_name (i := 7) sc_w_ought.nd rfl (Or.inl rfl)) (pss_cons (ps_asg (pe_slice sl_tup (pe_ix ix_list (pv 2) (pv 7) (fun _ _ => rfl)) po_none (po_some pe_int)) (pg_tup (n := 3) rfl (pgs_cons (pg_name (i := 8) sc_w_ought.nd rfl (Or.inl rfl)) (pgs_cons (pg_name (i := 9) sc_w_ought.nd rfl (Or.inl rfl)) (pgs_cons (pg_name (i := 10) sc_w_ought.nd rfl (Or.inl rfl)) pgs_nil)))))
      (pss_one (ps_if (pt_cmpR op_in_seq (pv 5) (pe_tup (pa_c (pv 8) (pa_c (pv 9) pa_nil))) (by with_unfolding_all rfl)) (pss_cons (ps_set (i := 11) sc_w_ought.nd rfl (Or.inl rfl) (pe_ix ix_list (pv 4) (pe_op op_sub (pe_op op_add (pv 8) (pv 9)) (pv 5)) (fun _ _ => rfl)))
      (pss_one (ps_if (pt_cmpR op_lt (pe_op op_add (pe_ix ix_tup (pv 11) pe_int (fun _ _ => rfl)) pe_int) (pv 0) (nomark _)) (pss_one (ps_set (i := 6) sc_w_ought.nd rfl (Or.inl rfl) (pe_callB (call_minR2 rfl (hu_of hr)) (by rfl) T.n_min boot_min (pa_c (pv 6) (pa_c (pe_tup (pa_c (pe_ix ix_tup (pv 11) pe_int (fun _ _ => rfl)) (pa_c (pe_op op_add (pe_ix ix_tup (pv 11) pe_int (fun _ _ => rfl)) (pv 10)) (pa_c (pe_op op_add (pe_ix ix_tup (pv 11) pe_int (fun _ _ => rfl)) pe_int) (pa_c (pv 7) pa_nil))))) pa_nil))))) pss_nil))) pss_nil))))
      (pss_one (ps_ret (pv 6))))), ?_⟩
    have hatn : atI (ns.map V.int) (x : Int) = some (.int ns[x]) := atI_nat (by rw [List.getElem?_map, List.getElem?_eq_getElem hx]; rfl)
    refine ⟨_, rfl, _, rfl, ixL_mk hA hatn ⟨(by show 4 ≤ sizeLine; decide), fun p0 hp0 => ?_⟩⟩
    have u0 := Same.new (o := .tup [V.int ns[x], V.int 0, V.int 0, V.non]) hp0
    have hown : SqT K (upd H p0 (.tup [V.int ns[x], V.int 0, V.int 0, V.non])) p0 (rowV (RM.own (townNet ns rs live nd ok hlv) x)) := by
      unfold RM.own
      rw [nm_at hx]
      exact SqT.of upd_same
    refine ⟨_, rfl, c, rfl, ⟨_, u0.seq hC⟩, for_listN (K := K) (a := c) (xs := natsV live) (fun j σ H2 => Same H H2 ∧ ∃ (q : Addr) (d : RM.Row) (v7 v8 v9 v10 v11 : Option V), σ = [some (.int (ns.length : Nat)), some (.ref a), some (.ref b), some (.ref c), some (.ref rb), some (.int (x : Nat)), some (.ref q), v7, v8, v9, v10, v11] ∧ SqT K H2 q (rowV d) ∧
      (d = RM.own (townNet ns rs live nd ok hlv) x ∨ ∃ kk g, RM.Adj (townNet ns rs live nd ok hlv) kk x g ∧ (R g).ho + 1 < ns.length ∧ d = RM.over (townNet ns rs live nd ok hlv) kk (R g)) ∧ RM.le d (RM.own (townNet ns rs live nd ok hlv) x) ∧
      ∀ kk g, kk ∈ live.take j → RM.Adj (townNet ns rs live nd ok hlv) kk x g → (R g).ho + 1 < ns.length → RM.le d (RM.over (townNet ns rs live nd ok hlv) kk (R g)))
      ⟨u0, p0, RM.own (townNet ns rs live nd ok hlv) x, _, _, _, _, _, rfl, hown, .inl rfl, RM.le_refl _, fun kk g he => by simp at he⟩ (fun j σ H2 _ z => z.1.seq hC) ?_ ?_⟩
    · rintro j y σ H2 Nx hNx hj ⟨s2, q, d, v7, v8, v9, v10, v11, rfl, hq, d1, d2, d3⟩
      have hjl : j < live.length := by
        have := (List.getElem?_eq_some_iff.mp hj).1
        rw [List.length_map] at this
        exact this
      rw [List.getElem?_map, List.getElem?_eq_getElem hjl] at hj
      cases hj
      have et : live.take (j + 1) = live.take j ++ [live[j]] := by rw [List.take_add_one, List.getElem?_eq_getElem hjl]; rfl
      have hc : live[j] ∈ live := List.getElem_mem hjl
      rw [et] at hNx
      show gName 7 (V.int ((live[j] : Nat) : Int)) _ _ _
      generalize live[j] = kk at hc hNx
      have hkl := hlv kk hc
      have hrk : rs[kk]? = some rs[kk] := List.getElem?_eq_getElem hkl
      obtain ⟨pt, hp, hpt⟩ := hg kk _ hrk
      have hatk : atI us (kk : Int) = some (.ref pt) := atI_nat hp
      have nw : ¬ (HT.sIx (rs[kk]).vs.length 0 none = 0 ∧ HT.sIx (rs[kk]).vs.length (rs[kk]).vs.length (some 3) = (rs[kk]).vs.length) := fun z => absurd z.2 (by show HT.sIx 5 5 (some 3) ≠ 5; decide)
      have ct : cutV (rs[kk]).vs none (some 3) = [V.int rs[kk].a, V.int rs[kk].b, V.int rs[kk].c] := rfl
      refine ⟨_, rfl, _, rfl, ixL_mk (s2.seq hL) hatk ⟨_, rfl, pt, _, rfl, s2.seqT hpt, nw, fun z1 hz1 => ?_⟩⟩
      rw [ct]
      have u1 := Same.new (o := .tup [V.int rs[kk].a, V.int rs[kk].b, V.int rs[kk].c]) hz1
      refine ⟨z1, _, rfl, SqT.of upd_same, rfl, _, _, rfl, _, _, rfl, _, _, rfl, rfl, ?_⟩
      -- house in (one, other)
      refine ⟨_, rfl, _, rfl, _, rfl, (by show 2 ≤ sizeLine; decide), fun z2 hz2 => ?_⟩
      have u2 := u1.trans (Same.new (o := .tup [V.int rs[kk].a, V.int rs[kk].b]) hz2)
      refine ⟨z2, _, rfl, .inr (SqT.of upd_same), rfl, rfl, _, rfl, ?_⟩
      have eb : inV (V.int (x : Nat)) [V.int rs[kk].a, V.int rs[kk].b] = isAt rs (x : Int) kk := by
        unfold isAt
        rw [hrk]
        exact in_two _ _ _
      dsimp only
      rw [if_neg Bool.false_ne_true, eb]
      have s3 := s2.trans u2
      have hq3 := u2.seqT hq
      generalize upd (upd H2 z1 (.tup [V.int rs[kk].a, V.int rs[kk].b, V.int rs[kk].c])) z2 (.tup [V.int rs[kk].a, V.int rs[kk].b]) = H3 at s3 hq3
      clear u1 u2 hz1 hz2
      refine ite2 (fun hat => ?_) (fun hat => ?_)
      case refine_2 =>
        refine hNx _ _ ⟨s3, q, d, _, _, _, _, _, rfl, hq3, d1, d2, fun k' g hk' adj hcut => ?_⟩
        rcases List.mem_append.mp hk' with z | z
        · exact d3 k' g z adj hcut
        · rw [List.mem_singleton.mp z] at adj
          exact absurd ((adj_far hc).mp adj).1 hat
      have adj : RM.Adj (townNet ns rs live nd ok hlv) kk x (farOf rs[kk] x) := (adj_far hc).mpr ⟨hat, rfl⟩
      have hgn : farOf rs[kk] x < ns.length := far_lt hkl ok
      have hgs := sane _ hgn
      have ofar := far_sum hkl ok hat
      have ecost := net_c (ns := ns) (live := live) (nd := nd) (ok := ok) (hl := hlv) hkl
      have fu : ∀ g, RM.Adj (townNet ns rs live nd ok hlv) kk x g → g = farOf rs[kk] x := fun g a => ((adj_far hc).mp a).2
      generalize farOf rs[kk] x = g at adj hgn hgs ofar fu
      have hpg : ps[g]? = some ps[g] := List.getElem?_eq_getElem (by omega)
      have hatg : atI (ps.map V.ref) (rs[kk].a + rs[kk].b - (x : Int)) = some (.ref ps[g]) := by rw [ofar]; exact atI_nat (by rw [List.getElem?_map, hpg]; rfl)
      have hrg := s3.seqT (hrow g _ hpg)
      refine ⟨_, rfl, _, rfl, _, rfl, _, _, rfl, rfl, _, rfl, _, _, rfl, rfl, ixL_mk (s3.seq hP) hatg ?_⟩
      refine ⟨_, rfl, ixTc_mk hrg rfl ⟨_, _, rfl, rfl, _, rfl, _, _, rfl, rfl, _, rfl, ?_⟩⟩
      refine ite2 (fun hcut => ?_) (fun hcut => ?_)
      case refine_2 =>
        have hcut : ¬ (R g).ho + 1 < (ns.length : Int) := of_decide_eq_false (eq_false_of_ne_true hcut)
        refine hNx _ _ ⟨s3, q, d, _, _, _, _, _, rfl, hq3, d1, d2, fun k' g' hk' a' hcut' => ?_⟩
        rcases List.mem_append.mp hk' with z | z
        · exact d3 k' g' z a' hcut'
        · rw [List.mem_singleton.mp z] at a'
          rw [fu g' a'] at hcut'
          exact absurd hcut' hcut
      have hcut : (R g).ho + 1 < (ns.length : Int) := of_decide_eq_true hcut
      refine ⟨_, rfl, _, rfl, ixTc_mk hrg rfl ⟨_, rfl, ixTc_mk hrg rfl ⟨_, rfl, _, _, rfl, rfl, _, rfl, ixTc_mk hrg rfl ⟨_, _, rfl, rfl, _, rfl, (by show 4 ≤ sizeLine; decide), fun u hu => ?_⟩⟩⟩⟩
      have u3 := Same.new (o := .tup [V.int (R g).hd, V.int ((R g).co + rs[kk].c), V.int ((R g).ho + 1), V.int (kk : Nat)]) hu
      have hu' : SqT K (upd H3 u (.tup [V.int (R g).hd, V.int ((R g).co + rs[kk].c), V.int ((R g).ho + 1), V.int (kk : Nat)])) u (rowV (RM.over (townNet ns rs live nd ok hlv) kk (R g))) := by
        refine SqT.of ?_
        rw [upd_same]
        show _ = some (HO.tup [V.int (R g).hd, V.int ((R g).co + (townNet ns rs live nd ok hlv).c kk), V.int ((R g).ho + 1), byV ((kk : Nat) : Int)])
        rw [ecost, byV_int (by omega)]
      have hq4 := u3.seqT hq3
      have s4 := s3.trans u3
      generalize upd H3 u (.tup [V.int (R g).hd, V.int ((R g).co + rs[kk].c), V.int ((R g).ho + 1), V.int (kk : Nat)]) = H4 at hu' hq4 s4
      have lex : LexR (rowV (RM.over (townNet ns rs live nd ok hlv) kk (R g))) (rowV d) (decide (RM.lt (RM.over (townNet ns rs live nd ok hlv) kk (R g)) d)) := RM.rowLex (by
        rcases d1 with z | ⟨k', g', _, _, z⟩
        · rw [z]
          refine .inr (.inr (.inl ?_))
          show (R g).ho + 1 ≠ 0
          omega
        · rw [z]
          refine .inr (.inr (.inr ⟨?_, ?_⟩))
          · show (0 : Int) ≤ (kk : Nat); omega
          · show (0 : Int) ≤ (k' : Nat); omega)
      refine ⟨q, u, _, _, _, rfl, hq4, hu', rfl, lex, ?_⟩
      by_cases hlt : RM.lt (RM.over (townNet ns rs live nd ok hlv) kk (R g)) d
      · rw [decide_eq_true hlt, if_pos rfl]
        refine hNx _ _ ⟨s4, u, _, _, _, _, _, _, rfl, hu', .inr ⟨kk, g, adj, hcut, rfl⟩, RM.le_trans (RM.lt_le hlt) d2, fun k' g' hk' a' hcut' => ?_⟩
        rcases List.mem_append.mp hk' with z | z
        · exact RM.le_trans (RM.lt_le hlt) (d3 k' g' z a' hcut')
        · rw [List.mem_singleton.mp z] at a' ⊢
          rw [fu g' a']
          exact RM.le_refl _
      · rw [decide_eq_false hlt, if_neg Bool.false_ne_true]
        refine hNx _ _ ⟨s4, q, d, _, _, _, _, _, rfl, hq4, d1, d2, fun k' g' hk' a' hcut' => ?_⟩
        rcases List.mem_append.mp hk' with z | z
        · exact d3 k' g' z a' hcut'
        · rw [List.mem_singleton.mp z] at a' ⊢
          rw [fu g' a']
          exact hlt
    · rintro σ H2 ⟨s2, q, d, v7, v8, v9, v10, v11, rfl, hq, d1, d2, d3⟩
      rw [List.length_map, List.take_of_length_le (Nat.le_refl _)] at d3
      exact ⟨_, rfl, k q d H2 s2 hq ⟨d1, d2, fun kk g adj hcut => d3 kk g adj.1 adj hcut⟩⟩
end
end K14

set_option Elab.async false
set_option linter.all false
set_option maxRecDepth 100000
set_option maxHeartbeats 4000000
namespace K14
open PySem L2 TW PyProof.Rows
open RM (rowV byV byV_non byV_int)
seal L2.PE L2.PA L2.PT L2.PW L2.PS L2.PSs L2.PG L2.PGs L2.PI L2.PTs
section
variable {P : Program} {w : World} {K : PySem.W.Frag} {mg : Str → Option Value} {base : Heap}
def spHung (K : PySem.W.Frag) : Sp := fun vs H Q _ => ∃ (b c rb : Addr) (ns : List Int) (rs : List R5) (live : List Nat) (nd : ns.Nodup) (ok : ∀ r ∈ rs, r.Ok ns.length) (hl : ∀ k ∈ live, k < rs.length) (R : Nat → RM.Row), vs = [.int (ns.length : Nat), .ref b, .ref c, .ref rb] ∧ Ropes K H b rs ∧ SqL K H c (natsV live) ∧ RowsAt K H rb ns.length R ∧ ns.length ≤ 12 ∧ FitAll ns.length rs.length R ∧
  ∀ l H', Same H H' → H l = none → OwnUps K H' l ns.length (hangOf (townNet ns rs live nd ok hl) R) → Q (.ref l) H'
theorem ok_w_hung {t : Ad} (T : Txt K mg t) : FnOk P w K mg base CX0 1 t.f_w_hung t.d_w_hung ["_law_size", "_law_ropes", "_law_live", "_law_rows_here"]  (spHung K) := by
  refine T.F_w_hung.ok sc_w_hung (fun vs H Q E h => ?_) (fun cdv A outer s H vs Q E hr h => ?_)
  · obtain ⟨_, _, _, _, _, _, _, _, _, _, rfl, _⟩ := h; rfl
  · obtain ⟨b, c, rb, ns, rs, live, nd, ok, hlv, R, rfl, hR, hC, hRw, hn12, fit, k⟩ := h
    obtain ⟨us, hL, el, hg⟩ := hR.at
    obtain ⟨ps, hP, ePs, hrow⟩ := id hRw
    refine ⟨_, (pss_cons (ps_set (i := 4) sc_w_hung.nd rfl (Or.inl rfl) (pe_lst pa_nil))
      (pss_cons (ps_for PassesOwn.never rfl (pi_range1 rfl T.n_range (pa_c (pv 0) pa_nil)) (pg_name (i := 5) sc_w_hung.nd rfl (Or.inl rfl)) (pss_cons (ps_set (i := 6) sc_w_hung.nd rfl (Or.inl rfl) (pe_ix ix_tup (pe_ix ix_list (pv 3) (pv 5) (fun _ _ => rfl)) pe_int (fun _ _ => rfl)))
      (pss_cons (ps_set (i := 7) sc_w_hung.nd rfl (Or.inl rfl) pe_non)
      (pss_cons (ps_if (PW.pt (pw_and (pt_cmpR op_in_seq (pv 6) (pv 2) (by with_unfolding_all rfl)) (pw_and1 (pt_cmpR op_in_seq (pv 5) (pe_slice sl_tup (pe_ix ix_list (pv 1) (pv 6) (fun _ _ => rfl)) po_none (po_some pe_int)) (by with_unfolding_all rfl))))) (pss_cons (ps_set (i := 8) sc_w_hung.nd rfl (Or.inl rfl) (pe_op op_sub (pe_op op_add (pe_ix ix_tup (pe_ix ix_list (pv 1) (pv 6) (fun _ _ => rfl)) pe_int (fun _ _ => rfl)) (pe_ix ix_tup (pe_ix ix_list (pv 1) (pv 6) (fun _ _ => rfl)) pe_int (fun _ _ => rfl))) (pv 5)))
      (pss_cons (ps_set (i := 9) sc_w_hung.nd rfl (Or.inl rfl) (pe_ix ix_list (pv 3) (pv 8) (fun _ _ => rfl)))
      (pss_cons (ps_set (i := 10) sc_w_hung.nd rfl (Or.inl rfl) (pe_tup (pa_c (pe_ix ix_tup (pv 9) pe_int (fun _ _ => rfl)) (pa_c (pe_op op_add (pe_ix ix_tup (pv 9) pe_int (fun _ _ => rfl)) (pe_ix ix_tup (pe_ix ix_list (pv 1) (pv 6) (fun _ _ => rfl)) pe_int (fun _ _ => rfl))) (pa_c (pe_op op_add (pe_ix ix_tup (pv 9) pe_int (fun _ _ => rfl)) pe_int) pa_nil)))))
      (pss_one (ps_if (PW.pt (pw_and (pt_cmpR op_lt (pe_op op_add (pe_ix ix_tup (pv 9) pe_int (fun _ _ => rfl)) pe_int) (pv 0) (nomark _)) (pw_and1 (pt_cmpR op_eqD (pe_slice sl_tup (pe_ix ix_list (pv 3) (pv 5) (fun _ _ => rfl)) po_none (po_some pe_int)) (pv 10) (nomark _))))) (pss_one (ps_set (i := 7) sc_w_hung.nd rfl (Or.inl rfl) (pe_tup (pa_c (pv 6) (pa_c (pv 8) pa_nil))))) pss_nil))))) pss_nil)
      (pss_one (ps_expr (pe_bm PySem.F.plainAttrs_list PySem.F.slot_list_append PySem.F.type_list_append mt_append (pv 4) (pa_c (pv 7) pa_nil))))))))
      (pss_one (ps_ret (pv 4))))), ?_⟩
    refine ⟨Nat.zero_le _, fun l hl => ?_⟩
    refine ⟨_, rfl, (ns.length : Int), rfl, by omega, by omega, ?_⟩
    refine for_rangeN (n := ((ns.length : Int)).toNat) (fun i σ H2 => Same H H2 ∧ ∃ (vs : List V) (v5 v6 v7 v8 v9 v10 : Option V), σ = [some (.int (ns.length : Nat)), some (.ref b), some (.ref c), some (.ref rb), some (.ref l), v5, v6, v7, v8, v9, v10] ∧ H2 l = some (.lst vs) ∧ vs.length = i ∧ ∀ (j : Nat) v, vs[j]? = some v → ItemAt K H2 v (hangOf (townNet ns rs live nd ok hlv) R j))
      ⟨Same.new hl, [], _, _, _, _, _, _, rfl, upd_same, rfl, fun j v e => by simp at e⟩ ?_ ?_
    · rintro i σ H2 Nx hNx hi ⟨s2, vs, v5, v6, v7, v8, v9, v10, rfl, hl2, ei, hit⟩
      have hin : i < ns.length := by omega
      rw [Int.zero_add]
      have hpi : ps[i]? = some ps[i] := List.getElem?_eq_getElem (by omega)
      have hatp : atI (ps.map V.ref) (i : Int) = some (.ref ps[i]) := atI_nat (by rw [List.getElem?_map, hpi]; rfl)
      have hri := s2.seqT (hrow i _ hpi)
      have fi := fit i hin
      refine ⟨_, rfl, _, rfl, ixL_mk (s2.seq hP) hatp (ixTc_mk hri rfl ?_)⟩
      dsimp only [tSeq, tAsg, tC, gName]
      -- the joint: one is the item
      refine ifS_byN (fun σ H3 => Same H H3 ∧ H3 l = some (.lst vs) ∧ (∀ (j : Nat) v, vs[j]? = some v → ItemAt K H3 v (hangOf (townNet ns rs live nd ok hlv) R j)) ∧ ∃ (w : V) (v8 v9 v10 : Option V), σ = [some (.int (ns.length : Nat)), some (.ref b), some (.ref c), some (.ref rb), some (.ref l), some (.int (i : Nat)), some (byV (R i).by_), some w, v8, v9, v10] ∧ ItemAt K H3 w (hangOf (townNet ns rs live nd ok hlv) R i)) ?nx0 ?me0
      case me0 =>
        intro Nk kj
        have none_ : ∀ {H3 : Hp} (w8 w9 w10 : Option V), Same H2 H3 → (∀ k g, ¬ RM.Hang (townNet ns rs live nd ok hlv) R k i g) → Same H H3 ∧ H3 l = some (.lst vs) ∧ (∀ (j : Nat) v, vs[j]? = some v → ItemAt K H3 v (hangOf (townNet ns rs live nd ok hlv) R j)) ∧ ∃ (w : V) (v8 v9 v10 : Option V), [some (.int (ns.length : Nat)), some (.ref b), some (.ref c), some (.ref rb), some (.ref l), some (V.int (i : Nat)), some (byV (R i).by_), some V.non, w8, w9, w10] = [some (.int (ns.length : Nat)), some (.ref b), some (.ref c), some (.ref rb), some (.ref l), some (.int (i : Nat)), some (byV (R i).by_), some w, v8, v9, v10] ∧ ItemAt K H3 w (hangOf (townNet ns rs live nd ok hlv) R i) :=
          fun w8 w9 w10 s3 no => ⟨s2.trans s3, s3 _ _ hl2, fun j v e => (hit j v e).mono s3, .non, _, _, _, rfl, by rw [hangOf_none no]; rfl⟩
        rcases fi.by_ with eby | ⟨b0, b1⟩
        · -- no rope
          rw [show byV (R i).by_ = V.non by rw [eby]; rfl] at kj none_ ⊢
          refine ⟨_, rfl, _, rfl, c, _, rfl, .inl (s2.seq hC), rfl, flat_nats live, _, rfl, ?_⟩
          dsimp only
          rw [if_neg Bool.false_ne_true, inV_non]
          refine iteF (iteF (kj _ _ (none_ _ _ _ (Same.refl _) fun k' g t => ?_)))
          have := t.by
          omega
        obtain ⟨kk, ekk⟩ : ∃ kk : Nat, (R i).by_ = (kk : Int) := ⟨(R i).by_.toNat, by omega⟩
        have hkl : kk < rs.length := by omega
        rw [show byV (R i).by_ = V.int (kk : Nat) by rw [ekk, byV_int (by omega)]] at kj none_ ⊢
        have byk : ∀ k' g, RM.Hang (townNet ns rs live nd ok hlv) R k' i g → k' = kk := fun k' g t => by have := t.by; omega
        refine ⟨_, rfl, _, rfl, c, _, rfl, .inl (s2.seq hC), rfl, flat_nats live, _, rfl, ?_⟩
        dsimp only
        rw [if_neg Bool.false_ne_true, inV_nats]
        refine ite2 (fun hc => ?_) (fun hc => ?_)
        case refine_2 =>
          refine iteF (kj _ _ (none_ _ _ _ (Same.refl _) fun k' g t => ?_))
          have := byk k' g t
          subst this
          exact hc (decide_eq_true t.adj.1)
        have hc : kk ∈ live := of_decide_eq_true hc
        have hrk : rs[kk]? = some rs[kk] := List.getElem?_eq_getElem hkl
        obtain ⟨pt, hp, hpt⟩ := hg kk _ hrk
        have hatk : atI us (kk : Int) = some (.ref pt) := atI_nat hp
        have nw : ¬ (HT.sIx (rs[kk]).vs.length 0 none = 0 ∧ HT.sIx (rs[kk]).vs.length (rs[kk]).vs.length (some 2) = (rs[kk]).vs.length) := fun z => absurd z.2 (by show HT.sIx 5 5 (some 2) ≠ 5; decide)
        have ct : cutV (rs[kk]).vs none (some 2) = [V.int rs[kk].a, V.int rs[kk].b] := rfl
        refine ⟨_, rfl, _, rfl, _, rfl, ixL_mk (s2.seq hL) hatk ⟨_, rfl, pt, _, rfl, s2.seqT hpt, nw, fun z1 hz1 => ?_⟩⟩
        rw [ct]
        have u1 := Same.new (o := .tup [V.int rs[kk].a, V.int rs[kk].b]) hz1
        refine ⟨z1, _, rfl, .inr (SqT.of upd_same), rfl, rfl, _, rfl, ?_⟩
        have eb : inV (V.int (i : Nat)) [V.int rs[kk].a, V.int rs[kk].b] = isAt rs (i : Int) kk := by
          unfold isAt
          rw [hrk]
          exact in_two _ _ _
        dsimp only
        rw [if_neg Bool.false_ne_true, eb]
        generalize upd H2 z1 (.tup [V.int rs[kk].a, V.int rs[kk].b]) = H3 at u1
        refine ite2 (fun hat => ?_) (fun hat => ?_)
        case refine_2 =>
          refine kj _ _ (none_ _ _ _ u1 fun k' g t => ?_)
          have := byk k' g t
          subst this
          exact hat ((adj_far hc).mp t.adj).1
        have s3 := s2.trans u1
        have ofar := far_sum hkl ok hat
        have hgn : farOf rs[kk] i < ns.length := far_lt hkl ok
        have hfar := hang_far (ns := ns) (rs := rs) (live := live) (nd := nd) (ok := ok) (hl := hlv) (R := R) (h := i) hc
        have ecost := net_c (ns := ns) (live := live) (nd := nd) (ok := ok) (hl := hlv) hkl
        have hpt3 := s3.seqT hpt
        have hL3 := s3.seq hL
        refine ⟨_, rfl, _, rfl, ixL_mk hL3 hatk (ixTc_mk hpt3 rfl ⟨_, rfl, _, rfl, ixL_mk hL3 hatk (ixTc_mk hpt3 rfl ⟨_, _, rfl, rfl, _, rfl, _, _, rfl, rfl, ?_⟩)⟩)⟩
        show gName 8 (V.int (rs[kk].a + rs[kk].b - (i : Int))) _ _ _
        rw [ofar]
        have hg' : ∀ g, RM.Hang (townNet ns rs live nd ok hlv) R kk i g → g = farOf rs[kk] i := fun g t => hang_g t
        generalize farOf rs[kk] i = g at ofar hgn hfar hg'
        have hpg : ps[g]? = some ps[g] := List.getElem?_eq_getElem (by omega)
        have hatg : atI (ps.map V.ref) (g : Int) = some (.ref ps[g]) := atI_nat (by rw [List.getElem?_map, hpg]; rfl)
        have hrg := s3.seqT (hrow g _ hpg)
        refine ⟨_, rfl, _, rfl, ixL_mk (s3.seq hP) hatg ?_⟩
        refine ⟨_, rfl, ixTc_mk hrg rfl ⟨_, rfl, ixTc_mk hrg rfl ⟨_, rfl, _, rfl, ixL_mk hL3 hatk (ixTc_mk hpt3 rfl ⟨_, _, rfl, rfl, _, rfl, ixTc_mk hrg rfl ⟨_, _, rfl, rfl, (by show 3 ≤ sizeLine; decide), fun o ho => ?_⟩⟩)⟩⟩⟩
        have u2 := Same.new (o := .tup [V.int (R g).hd, V.int ((R g).co + rs[kk].c), V.int ((R g).ho + 1)]) ho
        have ho' := upd_same (H := H3) (a := o) (o := .tup [V.int (R g).hd, V.int ((R g).co + rs[kk].c), V.int ((R g).ho + 1)])
        have u12 := u1.trans u2
        have s4 := s3.trans u2
        generalize upd H3 o (.tup [V.int (R g).hd, V.int ((R g).co + rs[kk].c), V.int ((R g).ho + 1)]) = H4 at ho' u12 s4
        refine ⟨_, rfl, ixTc_mk (s4.seqT (hrow g _ hpg)) rfl ⟨_, _, rfl, rfl, _, rfl, _, _, rfl, rfl, _, rfl, ?_⟩⟩
        refine ite2 (fun hcut => ?_) (fun hcut => ?_)
        case refine_2 =>
          refine iteF (kj _ _ (none_ _ _ _ u12 fun k' g' t => ?_))
          have e1 := byk k' g' t
          subst e1
          have e2 := hg' g' t
          subst e2
          exact hcut (decide_eq_true t.cut)
        have hcut : (R g).ho + 1 < (ns.length : Int) := of_decide_eq_true hcut
        have nw3 : ¬ (HT.sIx (rowV (R i)).length 0 none = 0 ∧ HT.sIx (rowV (R i)).length (rowV (R i)).length (some 3) = (rowV (R i)).length) := fun z => absurd z.2 (by show HT.sIx 4 4 (some 3) ≠ 4; decide)
        have ct3 : cutV (rowV (R i)) none (some 3) = [V.int (R i).hd, V.int (R i).co, V.int (R i).ho] := rfl
        refine ⟨_, rfl, _, rfl, ixL_mk (s4.seq hP) hatp ⟨_, rfl, ps[i], _, rfl, s4.seqT (hrow i _ hpi), nw3, fun z3 hz3 => ?_⟩⟩
        rw [ct3]
        have u3 := Same.new (o := .tup [V.int (R i).hd, V.int (R i).co, V.int (R i).ho]) hz3
        have u13 := u12.trans u3
        refine ⟨_, rfl, .tuple (([(R i).hd, (R i).co, (R i).ho] : List Int).map .int), .tuple (([(R g).hd, (R g).co + rs[kk].c, (R g).ho + 1] : List Int).map .int), Rep.intsT (ns := [(R i).hd, (R i).co, (R i).ho]) (SqT.of upd_same), Rep.intsT (ns := [(R g).hd, (R g).co + rs[kk].c, (R g).ho + 1]) (SqT.of (u3 _ _ ho')), ints_lay _, ints_lay _, Nat.lt_of_le_of_lt (Nat.add_le_add_left (Nat.le_trans (Nat.min_le_left _ _) (by show PyData.depthAll _ + 1 ≤ 64; rw [ints_deep]; decide)) _) hr.units, _, rfl, ?_⟩
        rw [three_eqv]
        refine ite2 (fun e3 => ?_) (fun e3 => ?_)
        case refine_2 =>
          refine kj _ _ (none_ _ _ _ u13 fun k' g' t => ?_)
          have e1 := byk k' g' t
          subst e1
          have e2 := hg' g' t
          subst e2
          refine e3 (decide_eq_true ⟨t.hd, ?_, t.ho⟩)
          have := t.co
          rw [ecost] at this
          exact this
        obtain ⟨f1, f2, f3⟩ := of_decide_eq_true e3
        have hh : RM.Hang (townNet ns rs live nd ok hlv) R kk i g := by
          obtain ⟨g2, t⟩ := hfar.mpr ⟨hat, hcut, RM.Row.ext' f1 (by show _ = (R g).co + (townNet ns rs live nd ok hlv).c kk; rw [ecost]; exact f2) f3 ekk⟩
          have := hg' g2 t
          subst this
          exact t
        refine ⟨_, rfl, _, rfl, (by show 2 ≤ sizeLine; decide), fun o2 ho2 => ?_⟩
        have u4 := Same.new (o := .tup [V.int (kk : Nat), V.int (g : Nat)]) ho2
        have u14 := u13.trans u4
        exact kj _ _ ⟨s2.trans u14, u14 _ _ hl2, fun j v e => (hit j v e).mono u14, .ref o2, _, _, _, rfl, by rw [hangOf_some.mpr hh]; exact ⟨o2, rfl, SqT.of upd_same⟩⟩
      rintro σ H3 ⟨s3, hl3, hit3, w, v8, v9, v10, rfl, hw⟩
      refine ⟨_, rfl, .inl ⟨rfl, _, SqL.of hl3⟩, _, rfl, l, _, _, rfl, rfl, hl3, small1000 (by omega), ?_⟩
      refine hNx _ _ ⟨s3.out hl, vs ++ [w], _, _, _, _, _, _, rfl, upd_same, by rw [List.length_append, ei]; rfl, fun j v e => ?_⟩
      refine ItemAt.lst hl3 ?_
      rcases snoc_at e with z | ⟨z1, z2⟩
      · exact hit3 j v z
      · rw [z1, z2, ei]; exact hw
    · rintro σ H2 ⟨s2, vs, v5, v6, v7, v8, v9, v10, rfl, hl2, ei, hit⟩
      exact ⟨_, rfl, k l H2 s2 hl ⟨vs, hl2, by omega, hit⟩⟩
end
end K14

set_option Elab.async false
set_option linter.all false
set_option maxRecDepth 100000
set_option maxHeartbeats 4000000
namespace K14
open PySem L2 TW PyProof.Rows
open RM (rowV byV byV_non byV_int)
seal L2.PE L2.PA L2.PT L2.PW L2.PS L2.PSs L2.PG L2.PGs L2.PI L2.PTs
section
variable {P : Program} {w : World} {K : PySem.W.Frag} {mg : Str → Option Value} {base : Heap}
def spDeed (K : PySem.W.Frag) : Sp := fun vs H Q _ => ∃ (s q a b c rb : Addr) (cs : List Int) (j : Nat) (ns : List Int) (rs : List R5) (live : List Nat) (R : Nat → RM.Row), vs = [.ref s, .int j, .ref q, .ref rb] ∧ SqL K H s (cs.map V.int) ∧ Told K H q a b c ns rs live ∧ Good ns rs live ∧ RowsAt K H rb ns.length R ∧ FitAll ns.length rs.length R ∧
  ∀ l R' H', Same H H' → H l = none → OwnRows K H' l ns.length R' → FitAll ns.length rs.length R' → Q (.ref l) H'
theorem ok_w_deed {t : Ad} (T : Txt K mg t) : FnOk P w K mg base CX0 2 t.f_w_deed t.d_w_deed ["_law_script", "_law_k", "_law_told", "_law_rows_here"]  (spDeed K) := by
  refine T.F_w_deed.ok sc_w_deed (fun vs H Q E h => ?_) (fun cdv A outer s H vs Q E hr h => ?_)
  · obtain ⟨_, _, _, _, _, _, _, _, _, _, _, _, rfl, _⟩ := h; rfl
  · obtain ⟨s, q, a, b, c, rb, cs, j, ns, rs, live, R, rfl, hS, hT, G, hRw, fit, k⟩ := h
    obtain ⟨ps, hP, ePs, hrow⟩ := id hRw
    have hn1 := G.n1
    have hn10 := G.n10
    refine ⟨_, (pss_cons (ps_asg (pv 2) (pg_tup (n := 4) rfl (pgs_cons (pg_name (i := 4) sc_w_deed.nd rfl (Or.inl rfl)) (pgs_cons (pg_name (i := 5) sc_w_deed.nd rfl (Or.inl rfl)) (pgs_cons (pg_name (i := 6) sc_w_deed.nd rfl (Or.inl rfl)) (pgs_cons (pg_name (i := 7) sc_w_deed.nd rfl (Or.inl rfl)) pgs_nil))))))
      (pss_cons (ps_set (i := 8) sc_w_deed.nd rfl (Or.inl rfl) (pe_call (ok_w_cell T) (hr.mono (by decide)) rfl T.g_w_cell T.F_w_cell.kp T.B_w_cell .nil pass0 (pa_c (pv 0) (pa_c (pv 1) pa_nil))))
      (pss_cons (ps_set (i := 9) sc_w_deed.nd rfl (Or.inl rfl) (pe_op op_mod (pe_op op_fdiv (pv 8) pe_int) (pv 4)))
      (pss_cons (ps_set (i := 10) sc_w_deed.nd rfl (Or.inl rfl) (pe_callTy call_list_of (by rfl) T.n_list boot_list (pa_c (pv 3) pa_nil)))
      (pss_cons (ps_if (pt_cmpR op_eq (pe_op op_mod (pe_op op_fdiv (pv 8) pe_int) pe_int) pe_int (nomark _)) (pss_one (ps_asg (pe_call (ok_w_row T) (hr.mono (by decide)) rfl T.g_w_row T.F_w_row.kp T.B_w_row .nil pass0 (pa_c (pe_op op_mod (pe_op op_mul (pv 8) pe_int) (pe_op op_pow pe_int pe_int)) (pa_c (pv 5) (pa_c (pe_callB call_len_seq (by rfl) T.n_len PySem.boot_len (pa_c (pv 6) pa_nil)) pa_nil)))) (pg_sub (pv 10) (pv 9) set_list))) (pss_one (ps_asg (pe_call (ok_w_ought T) (hr.mono (by decide)) rfl T.g_w_ought T.F_w_ought.kp T.B_w_ought .nil pass0 (pa_c (pv 4) (pa_c (pv 5) (pa_c (pv 6) (pa_c (pv 7) (pa_c (pv 3) (pa_c (pv 9) pa_nil))))))) (pg_sub (pv 10) (pv 9) set_list))))
      (pss_one (ps_ret (pv 10)))))))), ?_⟩
    refine ⟨_, rfl, q, _, rfl, hT.tup, rfl, _, _, rfl, _, _, rfl, _, _, rfl, _, _, rfl, rfl, ?_⟩
    refine ⟨_, rfl, _, rfl, s, cs, j, rfl, hS, by omega, fun x x0 => ?_⟩
    obtain ⟨h0, eh, hh⟩ : ∃ i : Nat, x / 19 % (ns.length : Int) = (i : Nat) ∧ i < ns.length := by
      have h1 := Int.emod_nonneg (x / 19) (show (ns.length : Int) ≠ 0 by omega)
      have h2 := Int.emod_lt_of_pos (x / 19) (show (0 : Int) < ns.length by omega)
      exact ⟨(x / 19 % (ns.length : Int)).toNat, by omega, by omega⟩
    refine ⟨_, rfl, _, _, rfl, rfl, ⟨by decide, by decide⟩, _, rfl, _, _, rfl, rfl, (by show (0 : Int) < (ns.length : Int); omega), ?_⟩
    show gName 9 (V.int (x / 19 % (ns.length : Int))) _ _ _
    rw [eh]
    refine ⟨_, rfl, rb, _, rfl, .inl hP, fun lr hlr => ?_⟩
    have u1 := Same.new (o := .lst (ps.map V.ref)) hlr
    have hlr1 := upd_same (H := H) (a := lr) (o := .lst (ps.map V.ref))
    generalize upd H lr (.lst (ps.map V.ref)) = H1 at u1 hlr1
    try dsimp only [gName]
    refine ifS_by (fun σ H2 => Same H H2 ∧ ∃ R' : Nat → RM.Row, OwnRows K H2 lr ns.length R' ∧ FitAll ns.length rs.length R' ∧ σ = [some (.ref s), some (.int j), some (.ref q), some (.ref rb), some (.int (ns.length : Nat)), some (.ref a), some (.ref b), some (.ref c), some (.int x), some (.int (h0 : Nat)), some (.ref lr)]) ?nx0 ?me0
    case me0 =>
      intro kj
      obtain ⟨us, hL, el, _⟩ := hT.rps.at
      have done : ∀ (p : Addr) (r : RM.Row) (H2 : Hp), Same H1 H2 → SqT K H2 p (rowV r) → RowFit ns.length rs.length r → OwnRows K (upd H2 lr (.lst ((ps.map V.ref).set h0 (V.ref p)))) lr ns.length (RM.upd R h0 r) ∧ FitAll ns.length rs.length (RM.upd R h0 r) ∧ Same H (upd H2 lr (.lst ((ps.map V.ref).set h0 (V.ref p)))) := fun p r H2 s2 hp fr =>
        ⟨own_set (s2 _ _ hlr1) ePs (fun i p e => (u1.trans s2).seqT (hrow i p e)) hp (by omega), fit.upd fr, (u1.trans s2).out hlr⟩
      refine ⟨_, rfl, _, _, rfl, rfl, ⟨by decide, by decide⟩, _, _, rfl, rfl, (by show (0 : Int) < 6; decide), rfl, _, rfl, ?_⟩
      refine ite2 (fun e => ?_) (fun e => ?_)
      · refine ⟨_, rfl, _, _, rfl, rfl, .inr ⟨by decide, by decide⟩, _, _, rfl, rfl, ⟨by decide, by decide, by decide⟩, _, _, rfl, rfl, (by show (0 : Int) < 10 ^ (59 : Int).toNat; decide), _, rfl, _, rfl, b, _, rfl, .inl (u1.seq hL), _, a, ns, us.length, rfl, Int.emod_nonneg _ (by decide), u1.seq hT.nms, hn1, G.nn, fun p r H2 s2 hp0 hp fr => ?_⟩
        rw [el] at fr
        obtain ⟨d1, d2, d3⟩ := done p r H2 s2 (SqT.of hp) fr
        refine ⟨_, rfl, _, rfl, lr, _, _, h0, rfl, rfl, s2 _ _ hlr1, ixN_nat (by rw [List.length_map]; omega), ?_⟩
        exact kj _ _ ⟨d3, _, d1, d2, rfl⟩
      · refine ⟨_, rfl, _, rfl, _, rfl, _, rfl, _, rfl, _, rfl, a, b, c, rb, ns, rs, live, G.nd, G.ok, G.lt, R, h0, rfl, u1.seq hT.nms, hT.rps.mono u1, u1.seq hT.liv, hRw.mono u1, hh, fit.sane, fun p d H2 s2 hp hd => ?_⟩
        obtain ⟨d1, d2, d3⟩ := done p d H2 s2 hp (due_fit fit hh G.nn hd)
        refine ⟨_, rfl, _, rfl, lr, _, _, h0, rfl, rfl, s2 _ _ hlr1, ixN_nat (by rw [List.length_map]; omega), ?_⟩
        exact kj _ _ ⟨d3, _, d1, d2, rfl⟩
    rintro σ H2 ⟨s2, R', hO, fit', rfl⟩
    exact ⟨_, rfl, k lr R' H2 s2 hlr hO fit'⟩
end
end K14

set_option Elab.async false
set_option linter.all false
set_option maxRecDepth 100000
set_option maxHeartbeats 4000000
namespace K14
open PySem L2 TW PyProof.Rows
open RM (rowV byV byV_non byV_int)
seal L2.PE L2.PA L2.PT L2.PW L2.PS L2.PSs L2.PG L2.PGs L2.PI L2.PTs
section
variable {P : Program} {w : World} {K : PySem.W.Frag} {mg : Str → Option Value} {base : Heap}
def spUpOf (K : PySem.W.Frag) (C : Addr) : Sp := fun vs H Q _ => ∃ (p ln lr c b : Addr) (ns : List Int) (rs : List R5) (live : List Nat) (nd : ns.Nodup) (ok : ∀ r ∈ rs, r.Ok ns.length) (hl : ∀ k ∈ live, k < rs.length) (R : Nat → RM.Row) (h : Nat), vs = [.ref p, .ref c, .ref b, .int h] ∧ TownAt K C H p ln lr ns rs ∧ SqL K H c (natsV live) ∧ RowsAt K H b ns.length R ∧ h < ns.length ∧ rs.length ≤ 20 ∧ FitAll ns.length rs.length R ∧
  ∀ v H', Same H H' → ItemAt K H' v (hangOf (townNet ns rs live nd ok hl) R h) → Q v H'
theorem ok_up_of {t : Ad} (T : Txt K mg t) : FnOk P w K mg base CX0 3 t.f_up_of t.d_up_of ["town", "live", "rows", "house"]  (spUpOf K t.a_Town) := by
  refine T.F_up_of.ok sc_up_of (fun vs H Q E h => ?_) (fun cdv A outer s H vs Q E hr h => ?_)
  · obtain ⟨_, _, _, _, _, _, _, _, _, _, _, _, _, rfl, _⟩ := h; rfl
  · obtain ⟨p, ln, lr, c, b, ns, rs, live, nd, ok, hlv, R, i, rfl, hT, hC, hRw, hin, h20, fit, k⟩ := h
    obtain ⟨⟨dx, hp⟩, _, _, _⟩ := id hT
    obtain ⟨ps, hP, ePs, hrow⟩ := id hRw
    have hpi : ps[i]? = some ps[i] := List.getElem?_eq_getElem (by omega)
    have hatp : atI (ps.map V.ref) (i : Int) = some (.ref ps[i]) := atI_nat (by rw [List.getElem?_map, hpi]; rfl)
    have hri := hrow i _ hpi
    have fi := fit i hin
    refine ⟨_, (pss_cons (ps_set (i := 4) sc_up_of.nd rfl (Or.inl rfl) (pe_ix ix_tup (pe_ix ix_list (pv 2) (pv 3) (fun _ _ => rfl)) pe_int (fun _ _ => rfl)))
      (pss_cons (ps_if (PW.pt (pw_or (pt_cmpR op_notIn_seq (pv 4) (pv 1) (by with_unfolding_all rfl)) (pw_or1 (pt_cmpR op_notIn_seq (pv 4) (pe_meth (pv 0) T.c_Town T.m_Town_ropes_at (ok_Town_ropes_at T) (hr.mono (by decide)) T.B_Town_ropes_at .nil pass0 (pa_c (pv 3) pa_nil)) (by with_unfolding_all rfl))))) (pss_one (ps_ret pe_non)) pss_nil)
      (pss_cons (ps_set (i := 5) sc_up_of.nd rfl (Or.inl rfl) (pe_meth (pv 0) T.c_Town T.m_Town_far_end (ok_Town_far_end T) (hr.mono (by decide)) T.B_Town_far_end .nil pass0 (pa_c (pv 4) (pa_c (pv 3) pa_nil))))
      (pss_cons (ps_if (pt_cmpR op_neD (pe_call (ok_offer T) (hr.mono (by decide)) rfl T.g_offer T.F_offer.kp T.B_offer .nil pass0 (pa_c (pv 0) (pa_c (pe_ix ix_list (pv 2) (pv 5) (fun _ _ => rfl)) (pa_c (pv 4) pa_nil)))) (pe_ix ix_list (pv 2) (pv 3) (fun _ _ => rfl)) (nomark _)) (pss_one (ps_ret pe_non)) pss_nil)
      (pss_one (ps_ret (pe_tup (pa_c (pv 4) (pa_c (pv 5) pa_nil))))))))), ?_⟩
    refine ⟨_, rfl, _, rfl, ixL_mk hP hatp (ixTc_mk hri rfl ?_)⟩
    have none_ : ∀ {H3 : Hp}, Same H H3 → (∀ k g, ¬ RM.Hang (townNet ns rs live nd ok hlv) R k i g) → Q .non H3 := fun s3 no => k .non _ s3 (by rw [hangOf_none no]; rfl)
    show gName 4 (byV (R i).by_) _ _ _
    rcases fi.by_ with eby | ⟨b0, b1⟩
    · rw [show byV (R i).by_ = V.non by rw [eby]; rfl]
      refine ⟨_, rfl, _, rfl, c, _, rfl, .inl hC, rfl, flat_nats live, _, rfl, ?_⟩
      dsimp only
      rw [if_pos rfl, inV_non]
      refine iteT (iteT (none_ (Same.refl _) fun k' g t => ?_))
      have := t.by
      omega
    obtain ⟨kk, ekk⟩ : ∃ kk : Nat, (R i).by_ = (kk : Int) := ⟨(R i).by_.toNat, by omega⟩
    have hkl : kk < rs.length := by omega
    rw [show byV (R i).by_ = V.int (kk : Nat) by rw [ekk, byV_int (by omega)]]
    have byk : ∀ k' g, RM.Hang (townNet ns rs live nd ok hlv) R k' i g → k' = kk := fun k' g t => by have := t.by; omega
    refine ⟨_, rfl, _, rfl, c, _, rfl, .inl hC, rfl, flat_nats live, _, rfl, ?_⟩
    dsimp only
    rw [if_pos rfl, inV_nats]
    by_cases hc : kk ∈ live
    case neg =>
      rw [decide_eq_false hc]
      refine iteT (iteT (none_ (Same.refl _) fun k' g t => ?_))
      have := byk k' g t
      subst this
      exact hc t.adj.1
    rw [decide_eq_true hc]
    refine iteF ?_
    refine ⟨_, rfl, _, rfl, p, dx, _, rfl, hp, rfl, _, rfl, p, ln, lr, ns, rs, i, rfl, hT, h20, fun l H1 s1 hl0 hl1 => ?_⟩
    refine ⟨l, _, rfl, .inl (SqL.of hl1), rfl, flat_nats _, _, rfl, ?_⟩
    dsimp only
    rw [if_pos rfl, inV_nats]
    by_cases hat : kk ∈ atH rs (i : Int) rs.length
    case neg =>
      rw [decide_eq_false hat]
      refine iteT (none_ s1 fun k' g t => ?_)
      have := byk k' g t
      subst this
      exact hat (mem_atH.mpr ⟨hkl, ((adj_far hc).mp t.adj).1⟩)
    rw [decide_eq_true hat]
    refine iteF ?_
    have hat := (mem_atH.mp hat).2
    have hrk : rs[kk]? = some rs[kk] := List.getElem?_eq_getElem hkl
    have ofar := far_int (h := i) hkl ok
    have hgn : farOf rs[kk] i < ns.length := far_lt hkl ok
    have hfar := hang_far (ns := ns) (rs := rs) (live := live) (nd := nd) (ok := ok) (hl := hlv) (R := R) (h := i) hc
    have ecost := net_c (ns := ns) (live := live) (nd := nd) (ok := ok) (hl := hlv) hkl
    have hg' : ∀ g, RM.Hang (townNet ns rs live nd ok hlv) R kk i g → g = farOf rs[kk] i := fun g t => hang_g t
    refine ⟨_, rfl, p, dx, _, rfl, s1 _ _ hp, rfl, _, rfl, _, rfl, p, ln, lr, ns, rs, kk, rs[kk], i, rfl, hT.mono s1, hrk, ?_⟩
    show gName 5 (V.int (if (i : Int) = rs[kk].a then rs[kk].b else rs[kk].a)) _ _ _
    rw [ofar]
    generalize farOf rs[kk] i = g at ofar hgn hfar hg'
    have hpg : ps[g]? = some ps[g] := List.getElem?_eq_getElem (by omega)
    have hatg : atI (ps.map V.ref) (g : Int) = some (.ref ps[g]) := atI_nat (by rw [List.getElem?_map, hpg]; rfl)
    refine ⟨_, rfl, _, rfl, _, rfl, ixL_mk (s1.seq hP) hatg ⟨_, rfl, p, ln, lr, ns, rs, kk, rs[kk], ps[g], R g, rfl, hT.mono s1, hrk, s1.seqT (hrow g _ hpg), fun hcut H2 s2 => ?_, fun hcut u H2 s2 hu => ?_⟩⟩
    · have s12 := s1.trans s2
      refine ⟨_, rfl, _, rfl, ixL_mk (s12.seq hP) hatp ⟨.none, RM.rowD (R i), rfl, RM.rowD_rep (s12.seqT hri), rfl, RM.rowD_lay _, Nat.lt_of_le_of_lt (Nat.add_le_add_left (Nat.le_trans (Nat.min_le_left _ _) (by decide)) _) hr.units, _, rfl, ?_⟩⟩
      refine iteT (none_ s12 fun k' g' t => ?_)
      have e1 := byk k' g' t
      subst e1
      have e2 := hg' g' t
      subst e2
      exact hcut t.cut
    · have s12 := s1.trans s2
      have eov : (⟨(R g).hd, (R g).co + rs[kk].c, (R g).ho + 1, kk⟩ : RM.Row) = RM.over (townNet ns rs live nd ok hlv) kk (R g) := by unfold RM.over; rw [ecost]
      rw [eov] at hu
      refine ⟨_, rfl, _, rfl, ixL_mk (s12.seq hP) hatp ⟨RM.rowD (RM.over (townNet ns rs live nd ok hlv) kk (R g)), RM.rowD (R i), RM.rowD_rep hu, RM.rowD_rep (s12.seqT hri), RM.rowD_lay _, RM.rowD_lay _, Nat.lt_of_le_of_lt (Nat.add_le_add_left (Nat.le_trans (Nat.min_le_left _ _) (by rw [RM.rowD_deep]; decide)) _) hr.units, _, rfl, ?_⟩⟩
      rw [RM.rowD_eqv (show (-1 : Int) ≤ (kk : Nat) by omega) fi.by1]
      by_cases e : RM.over (townNet ns rs live nd ok hlv) kk (R g) = R i
      case neg =>
        rw [decide_eq_false e]
        refine iteT (none_ s12 fun k' g' t => ?_)
        have e1 := byk k' g' t
        subst e1
        have e2 := hg' g' t
        subst e2
        exact e t.eq.symm
      rw [decide_eq_true e]
      refine iteF ?_
      have hh : RM.Hang (townNet ns rs live nd ok hlv) R kk i g := by
        obtain ⟨g2, t⟩ := hfar.mpr ⟨hat, hcut, e.symm⟩
        have := hg' g2 t
        subst this
        exact t
      refine ⟨_, rfl, _, rfl, (by show 2 ≤ sizeLine; decide), fun o2 ho2 => ?_⟩
      exact k (.ref o2) _ (s12.trans (Same.new ho2)) (by rw [hangOf_some.mpr hh]; exact ⟨o2, rfl, SqT.of upd_same⟩)
def spUps (K : PySem.W.Frag) (C : Addr) : Sp := fun vs H Q _ => ∃ (p ln lr c b : Addr) (ns : List Int) (rs : List R5) (live : List Nat) (nd : ns.Nodup) (ok : ∀ r ∈ rs, r.Ok ns.length) (hl : ∀ k ∈ live, k < rs.length) (R : Nat → RM.Row), vs = [.ref p, .ref c, .ref b] ∧ TownAt K C H p ln lr ns rs ∧ SqL K H c (natsV live) ∧ RowsAt K H b ns.length R ∧ ns.length ≤ 12 ∧ rs.length ≤ 20 ∧ FitAll ns.length rs.length R ∧
  ∀ l H', Same H H' → H l = none → OwnUps K H' l ns.length (hangOf (townNet ns rs live nd ok hl) R) → Q (.ref l) H'
theorem ok_ups {t : Ad} (T : Txt K mg t) : FnOk P w K mg base CX0 4 t.f_ups t.d_ups ["town", "live", "rows"]  (spUps K t.a_Town) := by
  refine T.F_ups.ok sc_ups (fun vs H Q E h => ?_) (fun cdv A outer s H vs Q E hr h => ?_)
  · obtain ⟨_, _, _, _, _, _, _, _, _, _, _, _, rfl, _⟩ := h; rfl
  · obtain ⟨p, ln, lr, c, b, ns, rs, live, nd, ok, hlv, R, rfl, hT, hC, hRw, hn12, h20, fit, k⟩ := h
    obtain ⟨⟨dx, hp⟩, _, _, _⟩ := id hT
    refine ⟨_, (pss_one (ps_ret (pe_comp (compOk_of (dsc := defScope s_ups) (N0 := ["town", "live", "rows"]) (N2 := ["house", "live", "rows", "town"]) (cap := [none, some 1, some 2, some 0]) rfl rfl (by decide +kernel)) rfl (pi_range1 rfl T.n_range (pa_c (pe_fld (pv 0) rfl) pa_nil)) (fun _ _ _ _ => by exact (pg_name (i := 0) nd_ups_c0 rfl (Or.inl rfl))) (fun _ _ _ _ => by exact pts_nil) (fun _ _ _ _ => by exact (pe_call (ok_up_of T) (hr.mono (by decide)) rfl T.g_up_of T.F_up_of.kp T.B_up_of .nil pass0 (pa_c (pv 3) (pa_c (pv 1) (pa_c (pv 2) (pa_c (pv 0) pa_nil))))))))), ?_⟩
    refine ⟨_, rfl, p, _, dx, _, _, rfl, hp, T.c_Town, T.n_Town_size, rfl, (ns.length : Int), rfl, by omega, by omega, fun acc hacc => ?_⟩
    refine comp_by (n := ((ns.length : Int)).toNat) (fun i ys H2 => ys.length = i ∧ ∀ (j : Nat) v, ys[j]? = some v → ItemAt K H2 v (hangOf (townNet ns rs live nd ok hlv) R j)) hacc itr_go itr_stop ⟨rfl, fun j v e => by simp at e⟩ ?_ ?_
    · rintro i ys H2 hi s2 hy ⟨e1, hit⟩ x H3 ⟨rfl, rfl⟩
      refine ⟨_, rfl, _, rfl, _, rfl, _, rfl, p, ln, lr, c, b, ns, rs, live, nd, ok, hlv, R, i, by rw [Int.zero_add]; rfl, hT.mono s2, s2.seq hC, hRw.mono s2, by omega, h20, fit, fun v H4 s4 hv => ?_⟩
      refine comp_add hacc hi (s2.trans s4) (s4 _ _ hy) (by rw [e1]; exact small1000 (by omega)) ⟨by rw [List.length_append, e1]; rfl, fun j w e => ?_⟩
      refine ItemAt.lst (s4 _ _ hy) ?_
      rcases snoc_at e with z | ⟨z1, z2⟩
      · exact (hit j w z).mono s4
      · rw [z1, z2, e1]; exact hv
    rintro ys H2 s2 hy ⟨e1, hit⟩
    exact k acc H2 s2 hacc ⟨ys, hy, by omega, hit⟩
end
end K14

set_option Elab.async false
set_option linter.all false
set_option maxRecDepth 100000
set_option maxHeartbeats 4000000
namespace K14
open PySem L2 TW PyProof.Rows
open RM (rowV byV byV_non byV_int)
seal L2.PE L2.PA L2.PT L2.PW L2.PS L2.PSs L2.PG L2.PGs L2.PI L2.PTs
section
variable {P : Program} {w : World} {K : PySem.W.Frag} {mg : Str → Option Value} {base : Heap}
def spOpens (K : PySem.W.Frag) (C : Addr) : Sp := fun vs H Q _ => ∃ (p ln lr c b : Addr) (ns : List Int) (rs : List R5) (live : List Nat) (nd : ns.Nodup) (ok : ∀ r ∈ rs, r.Ok ns.length) (hl : ∀ k ∈ live, k < rs.length) (R : Nat → RM.Row), vs = [.ref p, .ref c, .ref b] ∧ TownAt K C H p ln lr ns rs ∧ SqL K H c (natsV live) ∧ RowsAt K H b ns.length R ∧ ns.length ≤ 12 ∧ rs.length ≤ 20 ∧ FitAll ns.length rs.length R ∧
  ∀ l os H', Same H H' → H l = none → H' l = some (.lst (natsV os)) → Opens (townNet ns rs live nd ok hl) R os → os.length ≤ 12 → Q (.ref l) H'
theorem ok_opens {t : Ad} (T : Txt K mg t) : FnOk P w K mg base CX0 5 t.f_opens t.d_opens ["town", "live", "rows"]  (spOpens K t.a_Town) := by
  refine T.F_opens.ok sc_opens (fun vs H Q E h => ?_) (fun cdv A outer s H vs Q E hr h => ?_)
  · obtain ⟨_, _, _, _, _, _, _, _, _, _, _, _, rfl, _⟩ := h; rfl
  · obtain ⟨p, ln, lr, c, b, ns, rs, live, nd, ok, hlv, R, rfl, hT, hC, hRw, hn12, h20, fit, k⟩ := h
    refine ⟨_, (pss_one (ps_ret (pe_callB call_sorted (by rfl) T.n_sorted boot_sorted (pa_c (pe_comp (compOk_of (dsc := defScope s_opens) (N0 := ["town", "live", "rows"]) (N2 := ["up"]) (cap := [none]) rfl rfl (by decide +kernel)) rfl (pi_list (pe_call (ok_ups T) (hr.mono (by decide)) rfl T.g_ups T.F_ups.kp T.B_ups .nil pass0 (pa_c (pv 0) (pa_c (pv 1) (pa_c (pv 2) pa_nil))))) (fun _ _ _ _ => by exact (pg_name (i := 0) nd_opens_c0 rfl (Or.inl rfl))) (fun _ _ _ _ => by exact (pts_one (pt_cmpR op_notN (pv 0) pe_non (nomark _)))) (fun _ _ _ _ => by exact (pe_ix (ix_tupK K rfl) (pv 0) pe_int (fun _ _ => rfl)))) pa_nil)))), ?_⟩
    refine ⟨_, rfl, _, rfl, _, rfl, p, ln, lr, c, b, ns, rs, live, nd, ok, hlv, R, rfl, hT, hC, hRw, hn12, h20, fit, fun lu H2 s2 hlu0 hO => ?_⟩
    obtain ⟨vs, hvs, evs, ivs⟩ := hO
    refine ⟨lu, rfl, ⟨_, SqL.of hvs⟩, fun acc hacc => ?_⟩
    refine comp_by (n := vs.length) (fun i ys _ => ∃ ks : List Nat, ys = natsV ks ∧ ks.length ≤ i ∧ ks.Nodup ∧ ∀ k, k ∈ ks ↔ ∃ h g, h < i ∧ RM.Hang (townNet ns rs live nd ok hlv) R k h g) hacc (itl_go (SqL.of hvs)) (itl_stop (SqL.of hvs)) ⟨[], rfl, Nat.zero_le _, List.nodup_nil, fun k => ⟨fun z => absurd z (by simp), fun ⟨_, _, z, _⟩ => absurd z (Nat.not_lt_zero _)⟩⟩ ?_ ?_
    · rintro i ys H3 hi s3 hy ⟨ks, rfl, e1, e2, e3⟩ y H4 ⟨rfl, hv⟩
      have hvi := hv _ (s3.seq (SqL.of hvs))
      rw [List.getElem?_eq_getElem hi] at hvi
      cases hvi
      have it := (ivs i _ (List.getElem?_eq_getElem hi)).mono s3
      generalize vs[i] = v at it
      cases hh : hangOf (townNet ns rs live nd ok hlv) R i with
      | none =>
        rw [hh] at it
        have it : v = .non := it
        subst it
        refine ⟨_, rfl, rfl, _, rfl, iteF ?_⟩
        refine comp_skip hi s3 hy ⟨ks, rfl, by omega, e2, fun k => (e3 k).trans ⟨fun ⟨h, g, z, t⟩ => ⟨h, g, by omega, t⟩, fun ⟨h, g, z, t⟩ => ⟨h, g, ?_, t⟩⟩⟩
        by_cases e : h = i
        · subst e
          rw [hangOf_some.mpr t] at hh
          cases hh
        · omega
      | some q =>
        rw [hh] at it
        obtain ⟨t1, rfl, ht⟩ := it
        have hang := (hangOf_some (k := q.1) (g := q.2)).mp hh
        refine ⟨_, rfl, rfl, _, rfl, iteT ?_⟩
        refine ⟨_, rfl, t1, _, 0, _, rfl, rfl, ht, rfl, ?_⟩
        refine comp_add hacc hi s3 hy (by rw [List.length_map]; exact small1000 (by omega)) ⟨ks ++ [q.1], by rw [natsV_snoc], by rw [List.length_append]; exact Nat.add_le_add_right e1 1, Gr.nodup_snoc e2 fun z => ?_, fun k => ?_⟩
        · obtain ⟨h, g, z1, t⟩ := (e3 _).mp z
          have := (t.one hang).1
          omega
        · rw [List.mem_append, List.mem_singleton, e3]
          constructor
          · rintro (⟨h, g, z, t⟩ | rfl)
            · exact ⟨h, g, by omega, t⟩
            · exact ⟨i, q.2, by omega, hang⟩
          · rintro ⟨h, g, z, t⟩
            by_cases e : h = i
            · subst e
              exact .inr (t.uniq hang).1
            · exact .inl ⟨h, g, by omega, t⟩
    rintro ys H3 s3 hy ⟨ks, rfl, e1, e2, e3⟩
    refine ⟨acc, ks.map fun k : Nat => (k : Int), rfl, SqL.of (by rw [hy, natsV_ints]), by rw [List.length_map]; omega, fun l ms hl perm pw => ?_⟩
    obtain ⟨os, eos, o1, o2, o3⟩ := sorted_nats perm pw e2
    rw [eos]
    have s23 := s2.trans s3
    refine k l os _ (s23.trans (Same.new hl)) (s23.free hl) upd_same ⟨o1, fun k => ?_⟩ (by omega)
    rw [o2, e3]
    constructor
    · rintro ⟨h, g, _, t⟩; exact ⟨h, g, t⟩
    · rintro ⟨h, g, t⟩
      have : h < ns.length := (Hang.lt t).1
      exact ⟨h, g, by omega, t⟩
end
end K14

set_option Elab.async false
set_option linter.all false
set_option maxRecDepth 100000
set_option maxHeartbeats 4000000
namespace K14
open PySem L2 TW PyProof.Rows
open RM (rowV byV byV_non byV_int)
seal L2.PE L2.PA L2.PT L2.PW L2.PS L2.PSs L2.PG L2.PGs L2.PI L2.PTs
section
variable {P : Program} {w : World} {K : PySem.W.Frag} {mg : Str → Option Value} {base : Heap}
theorem filt_take {p : Nat → Bool} {xs : List Nat} {i : Nat} (hi : i < xs.length) : (xs.take (i + 1)).filter p = (xs.take i).filter p ++ if p xs[i] then [xs[i]] else [] := by
  rw [List.take_succ_eq_append_getElem hi, List.filter_append]
  congr 1
  cases e : p xs[i]
  · rw [if_neg (by decide), List.filter_cons_of_neg (by rw [e]; decide)]; rfl
  · rw [if_pos rfl, List.filter_cons_of_pos e]; rfl
def spOpenAt (K : PySem.W.Frag) (C : Addr) : Sp := fun vs H Q _ => ∃ (p ln lr c b : Addr) (ns : List Int) (rs : List R5) (live : List Nat) (nd : ns.Nodup) (ok : ∀ r ∈ rs, r.Ok ns.length) (hl : ∀ k ∈ live, k < rs.length) (R : Nat → RM.Row) (h : Int), vs = [.ref p, .ref c, .ref b, .int h] ∧ TownAt K C H p ln lr ns rs ∧ SqL K H c (natsV live) ∧ RowsAt K H b ns.length R ∧ ns.length ≤ 12 ∧ rs.length ≤ 20 ∧ FitAll ns.length rs.length R ∧
  ∀ l os H', Same H H' → H l = none → H' l = some (.lst (natsV (os.filter (isAt rs h)))) → Opens (townNet ns rs live nd ok hl) R os → os.length ≤ 12 → Q (.ref l) H'
theorem ok_open_at {t : Ad} (T : Txt K mg t) : FnOk P w K mg base CX0 6 t.f_open_at t.d_open_at ["town", "live", "rows", "house"]  (spOpenAt K t.a_Town) := by
  refine T.F_open_at.ok sc_open_at (fun vs H Q E h => ?_) (fun cdv A outer s H vs Q E hr h => ?_)
  · obtain ⟨_, _, _, _, _, _, _, _, _, _, _, _, _, rfl, _⟩ := h; rfl
  · obtain ⟨p, ln, lr, c, b, ns, rs, live, nd, ok, hlv, R, x, rfl, hT, hC, hRw, hn12, h20, fit, k⟩ := h
    refine ⟨_, (pss_cons (ps_set (i := 4) sc_open_at.nd rfl (Or.inr rfl) (pe_meth (pv 0) T.c_Town T.m_Town_ropes_at (ok_Town_ropes_at T) (hr.mono (by decide)) T.B_Town_ropes_at .nil pass0 (pa_c (pv 3) pa_nil)))
      (pss_one (ps_ret (pe_comp (compOk_of (dsc := defScope s_open_at) (N0 := ["town", "live", "rows", "house", "joined"]) (N2 := ["rope", "joined"]) (cap := [none, some 4]) rfl rfl (by decide +kernel)) rfl (pi_list (pe_call (ok_opens T) (hr.mono (by decide)) rfl T.g_opens T.F_opens.kp T.B_opens .nil pass0 (pa_c (pv 0) (pa_c (pv 1) (pa_c (pv 2) pa_nil))))) (fun _ _ _ _ => by exact (pg_name (i := 0) nd_open_at_c0 rfl (Or.inl rfl))) (fun _ _ _ _ => by exact (pts_one (pt_cmpR (op_in_seqK K rfl) (pv 0) (pv 1) (by with_unfolding_all rfl)))) (fun _ _ _ _ => by exact (pv 0)))))), ?_⟩
    obtain ⟨⟨dx, hp⟩, _⟩ := id hT
    refine ⟨_, rfl, p, dx, _, rfl, hp, rfl, _, rfl, p, ln, lr, ns, rs, x, rfl, hT, h20, fun lj H1 s1 hlj0 hlj => ?_⟩
    refine ⟨_, rfl, _, rfl, _, rfl, p, ln, lr, c, b, ns, rs, live, nd, ok, hlv, R, rfl, hT.mono s1, s1.seq hC, hRw.mono s1, hn12, h20, fit, fun lo os H2 s2 hlo0 hlo hOs h12 => ?_⟩
    have hlj2 := s2 _ _ hlj
    have mem : ∀ k ∈ os, decide (k ∈ atH rs x rs.length) = isAt rs x k := fun k hk => by
      obtain ⟨h, g, t⟩ := (hOs.2 k).mp hk
      have hk' : k < rs.length := hlv k t.adj.1
      by_cases z : isAt rs x k = true
      · rw [z]; exact decide_eq_true (mem_atH.mpr ⟨hk', z⟩)
      · rw [Bool.not_eq_true] at z
        rw [z]
        refine decide_eq_false fun y => ?_
        rw [(mem_atH.mp y).2] at z
        cases z
    refine ⟨lo, rfl, ⟨_, SqL.of hlo⟩, fun acc hacc => ?_⟩
    refine comp_by (n := (natsV os).length) (fun i ys _ => ys = natsV ((os.take i).filter (isAt rs x))) hacc (itl_go (SqL.of hlo)) (itl_stop (SqL.of hlo)) rfl ?_ ?_
    · rintro i ys H3 hi s3 hy rfl y H4 ⟨rfl, hv⟩
      have hv := hv _ (s3.seq (SqL.of hlo))
      have hi' : i < os.length := by rw [List.length_map] at hi; exact hi
      rw [List.getElem?_map, List.getElem?_eq_getElem hi'] at hv
      cases hv
      refine ⟨_, rfl, _, rfl, lj, _, rfl, .inl (SqL.of (s3 _ _ hlj2)), rfl, flat_nats _, _, rfl, ?_⟩
      dsimp only
      rw [if_neg Bool.false_ne_true, inV_nats, mem _ (List.getElem_mem hi')]
      refine ite2 (fun hc => ?_) (fun hc => ?_)
      · refine ⟨_, rfl, ?_⟩
        refine comp_add hacc hi s3 hy ?_ ?_
        · rw [List.length_map]
          refine small1000 (Nat.le_trans (List.length_filter_le _ _) ?_)
          rw [List.length_take]; omega
        · rw [filt_take hi', if_pos hc, natsV_snoc]
      · refine comp_skip hi s3 hy ?_
        rw [filt_take hi', if_neg hc, List.append_nil]
    · rintro ys H3 s3 hy rfl
      rw [List.length_map, List.take_length] at hy
      have s13 := (s1.trans s2).trans s3
      exact k acc os _ s13 ((s1.trans s2).free hacc) hy hOs h12
end
end K14

set_option Elab.async false
set_option linter.all false
set_option maxRecDepth 100000
set_option maxHeartbeats 4000000
namespace K14
open PySem L2 TW PyProof.Rows
open RM (rowV byV byV_non byV_int)
seal L2.PE L2.PA L2.PT L2.PW L2.PS L2.PSs L2.PG L2.PGs L2.PI L2.PTs
section
variable {P : Program} {w : World} {K : PySem.W.Frag} {mg : Str → Option Value} {base : Heap}
theorem rising_nats {ks : List Nat} {ms : List Int} (mem : ∀ k, k ∈ ms ↔ k ∈ ks.map fun k : Nat => (k : Int)) (nd : ms.Nodup) (pw : ms.Pairwise (· ≤ ·)) : ∃ os : List Nat, ms.map V.int = natsV os ∧ os.Pairwise (· < ·) ∧ ∀ k, k ∈ os ↔ k ∈ ks := by
  have nn : ∀ m ∈ ms, ((m.toNat : Nat) : Int) = m := fun m hm => by
    obtain ⟨k, _, e⟩ := List.mem_map.mp ((mem m).mp hm)
    omega
  have e1 : (ms.map Int.toNat).map (fun k : Nat => (k : Int)) = ms := by
    rw [List.map_map]
    conv => rhs; rw [← List.map_id ms]
    exact List.map_congr_left fun m hm => nn m hm
  have mm : ∀ k : Nat, k ∈ ms.map Int.toNat ↔ (k : Int) ∈ ms := fun k => by
    constructor
    · intro h
      obtain ⟨m, hm, e⟩ := List.mem_map.mp h
      have := nn m hm
      rw [← e, this]; exact hm
    · intro h
      exact List.mem_map.mpr ⟨_, h, by omega⟩
  refine ⟨ms.map Int.toNat, by rw [natsV_ints, e1], ?_, fun k => ?_⟩
  · refine List.pairwise_map.mpr ?_
    refine (pw.and nd).imp_of_mem fun {x y} hx hy h => ?_
    have := nn x hx
    have := nn y hy
    have h1 := h.1
    have h2 := h.2
    omega
  · rw [mm, mem]
    constructor
    · intro h
      obtain ⟨j, hj, e⟩ := List.mem_map.mp h
      rw [show k = j by omega]; exact hj
    · intro h
      exact List.mem_map.mpr ⟨k, h, rfl⟩
def spAsked (K : PySem.W.Frag) (C : Addr) : Sp := fun vs H Q _ => ∃ (p ln lr q a b c rb : Addr) (ns : List Int) (rs : List R5) (live : List Nat) (R : Nat → RM.Row) (bit : Int), vs = [.ref p, .ref q, .ref rb, .int bit] ∧ TownAt K C H p ln lr ns rs ∧ Told K H q a b c ns rs live ∧ Good ns rs live ∧ RowsAt K H rb ns.length R ∧ FitAll ns.length rs.length R ∧ ∀ H', Same H H' → Q (.bl true) H'
theorem ok_w_asked {t : Ad} (T : Txt K mg t) : FnOk P w K mg base CX0 7 t.f_w_asked t.d_w_asked ["_law_made", "_law_told", "_law_rows_here", "_law_bit"]  (spAsked K t.a_Town) := by
  refine T.F_w_asked.ok sc_w_asked (fun vs H Q E h => ?_) (fun cdv A outer s H vs Q E hr h => ?_)
  · obtain ⟨_, _, _, _, _, _, _, _, _, _, _, _, _, rfl, _⟩ := h; rfl
  · obtain ⟨p, ln, lr, q, a, b, c, rb, ns, rs, live, R, bit, rfl, hTo, hT, G, hRw, fit, k⟩ := h
    obtain ⟨ps, hP, ePs, hrow⟩ := id hRw
    have hn10 := G.n10
    have hn1 := G.n1
    have nd := G.nd
    have ok := G.ok
    have hlv := G.lt
    refine ⟨_, (pss_cons (ps_asg (pv 1) (pg_tup (n := 4) rfl (pgs_cons (pg_name (i := 4) sc_w_asked.nd rfl (Or.inl rfl)) (pgs_cons (pg_name (i := 5) sc_w_asked.nd rfl (Or.inl rfl)) (pgs_cons (pg_name (i := 6) sc_w_asked.nd rfl (Or.inr rfl)) (pgs_cons (pg_name (i := 7) sc_w_asked.nd rfl (Or.inl rfl)) pgs_nil))))))
      (pss_cons (ps_set (i := 8) sc_w_asked.nd rfl (Or.inl rfl) (pe_call (ok_w_hung T) (hr.mono (by decide)) rfl T.g_w_hung T.F_w_hung.kp T.B_w_hung .nil pass0 (pa_c (pv 4) (pa_c (pv 6) (pa_c (pv 7) (pa_c (pv 2) pa_nil))))))
      (pss_cons (ps_set (i := 9) sc_w_asked.nd rfl (Or.inl rfl) (pe_sortSet rfl rfl T.n_sorted rfl T.n_set (pa_c (pe_comp (compOk_of (dsc := defScope s_w_asked) (N0 := ["_law_made", "_law_told", "_law_rows_here", "_law_bit", "_law_size", "_law_names_here", "_law_ropes", "_law_live", "_law_hung_here", "_law_ought_here", "_law_handed", "_law_house", "_law_own", "_law_found"]) (N2 := ["_law_one"]) (cap := [none]) rfl rfl (by decide +kernel)) rfl (pi_list (pv 8)) (fun _ _ _ _ => by exact (pg_name (i := 0) nd_w_asked_c0 rfl (Or.inl rfl))) (fun _ _ _ _ => by exact (pts_one (pt_cmpR op_notN (pv 0) pe_non (nomark _)))) (fun _ _ _ _ => by exact (pe_ix (ix_tupK K rfl) (pv 0) pe_int (fun _ _ => rfl)))) pa_nil)))
      (pss_cons (ps_set (i := 10) sc_w_asked.nd rfl (Or.inl rfl) (pe_lst (pa_c (pe_callTy call_list_of (by rfl) T.n_list boot_list (pa_c (pv 7) pa_nil)) (pa_c (pe_callTy call_list_of (by rfl) T.n_list boot_list (pa_c (pv 2) pa_nil)) pa_nil))))
      (pss_cons (ps_if (PW.pt (pw_and (pt_cmpR op_eq (pv 3) pe_int (nomark _)) (pw_and1 (pt_not (pt_val (pe_call (ok_w_numbers T) (hr.mono (by decide)) rfl T.g_w_numbers T.F_w_numbers.kp T.B_w_numbers .nil pass0 (pa_c (pe_call (ok_opens T) (hr.mono (by decide)) rfl T.g_opens T.F_opens.kp T.B_opens .nil pass0 (pa_c (pv 0) (pa_c (pe_ix ix_list (pv 10) pe_int (fun _ _ => rfl)) (pa_c (pe_ix ix_list (pv 10) pe_int (fun _ _ => rfl)) pa_nil)))) (pa_c (pv 9) pa_nil)))))))) (pss_one (ps_ret pe_bl)) pss_nil)
      (pss_cons (ps_for PassesOwn.never rfl (pi_range1 rfl T.n_range (pa_c (pv 4) pa_nil)) (pg_name (i := 11) sc_w_asked.nd rfl (Or.inr rfl)) (pss_cons (ps_setcomp (i := 12) sc_w_asked.nd rfl (Or.inl rfl) (compOk_of (dsc := defScope s_w_asked) (N0 := ["_law_made", "_law_told", "_law_rows_here", "_law_bit", "_law_size", "_law_names_here", "_law_ropes", "_law_live", "_law_hung_here", "_law_ought_here", "_law_handed", "_law_house", "_law_own", "_law_found"]) (N2 := ["_law_rope_here", "_law_house", "_law_ropes"]) (cap := [none, some 11, some 6]) rfl rfl (by decide +kernel)) rfl (pi_list (pv 9)) (fun _ _ _ _ => by exact (pg_name (i := 0) nd_w_asked_c1 rfl (Or.inl rfl))) (fun _ _ _ _ => by exact (pts_one (pt_cmpR (op_in_seqK K rfl) (pv 1) (pe_slice (sl_tupK K rfl) (pe_ix (ix_listK K rfl) (pv 2) (pv 0) (fun _ _ => rfl)) po_none (po_some pe_int)) (by with_unfolding_all rfl)))) (fun _ _ _ _ => by exact (pv 0)))
      (pss_cons (ps_set (i := 13) sc_w_asked.nd rfl (Or.inl rfl) (pe_call (ok_open_at T) (hr.mono (by decide)) rfl T.g_open_at T.F_open_at.kp T.B_open_at .nil pass0 (pa_c (pv 0) (pa_c (pe_ix ix_list (pv 10) pe_int (fun _ _ => rfl)) (pa_c (pe_ix ix_list (pv 10) pe_int (fun _ _ => rfl)) (pa_c (pv 11) pa_nil))))))
      (pss_cons (ps_if (pt_not (pt_val (pe_call (ok_w_numbers T) (hr.mono (by decide)) rfl T.g_w_numbers T.F_w_numbers.kp T.B_w_numbers .nil pass0 (pa_c (pv 13) (pa_c (pv 12) pa_nil))))) (pss_one (ps_ret pe_bl)) pss_nil)
      (pss_cons (ps_expr (pe_bm PySem.F.plainAttrs_list PySem.F.slot_list_append PySem.F.type_list_append mt_append (pv 13) (pa_c pe_int pa_nil)))
      (pss_one (ps_if (pt_not (pt_val (pe_call (ok_w_numbers T) (hr.mono (by decide)) rfl T.g_w_numbers T.F_w_numbers.kp T.B_w_numbers .nil pass0 (pa_c (pe_call (ok_open_at T) (hr.mono (by decide)) rfl T.g_open_at T.F_open_at.kp T.B_open_at .nil pass0 (pa_c (pv 0) (pa_c (pv 7) (pa_c (pv 2) (pa_c (pv 11) pa_nil))))) (pa_c (pv 12) pa_nil))))) (pss_one (ps_ret pe_bl)) pss_nil)))))))
      (pss_cons (ps_set (i := 13) sc_w_asked.nd rfl (Or.inl rfl) (pe_call (ok_opens T) (hr.mono (by decide)) rfl T.g_opens T.F_opens.kp T.B_opens .nil pass0 (pa_c (pv 0) (pa_c (pe_ix ix_list (pv 10) pe_int (fun _ _ => rfl)) (pa_c (pe_ix ix_list (pv 10) pe_int (fun _ _ => rfl)) pa_nil)))))
      (pss_cons (ps_if (PW.pt (pw_or (pt_not (pt_val (pe_call (ok_w_numbers T) (hr.mono (by decide)) rfl T.g_w_numbers T.F_w_numbers.kp T.B_w_numbers .nil pass0 (pa_c (pv 13) (pa_c (pv 9) pa_nil))))) (pw_or1 (pt_cmpR op_neD (pv 10) (pe_lst (pa_c (pv 7) (pa_c (pv 2) pa_nil))) (nomark _))))) (pss_one (ps_ret pe_bl)) pss_nil)
      (pss_cons (ps_expr (pe_bm PySem.F.plainAttrs_list PySem.F.slot_list_append PySem.F.type_list_append mt_append (pv 13) (pa_c pe_int pa_nil)))
      (pss_one (ps_ret (pe_call (ok_w_numbers T) (hr.mono (by decide)) rfl T.g_w_numbers T.F_w_numbers.kp T.B_w_numbers .nil pass0 (pa_c (pe_call (ok_opens T) (hr.mono (by decide)) rfl T.g_opens T.F_opens.kp T.B_opens .nil pass0 (pa_c (pv 0) (pa_c (pv 7) (pa_c (pv 2) pa_nil)))) (pa_c (pv 9) pa_nil)))))))))))))), ?_⟩
    refine ⟨_, rfl, q, _, rfl, hT.tup, rfl, _, _, rfl, _, _, rfl, _, _, rfl, _, _, rfl, rfl, ?_⟩
    refine ⟨_, rfl, _, rfl, _, rfl, _, rfl, b, c, rb, ns, rs, live, nd, ok, hlv, R, rfl, hT.rps, hT.liv, hRw, by omega, fit, fun lh H5 s5 hlh0 hOh => ?_⟩
    obtain ⟨us, hus, eus, ius⟩ := hOh
    -- the ropes that ought to be open
    refine ⟨_, rfl, lh, rfl, ⟨_, SqL.of hus⟩, fun acc hacc => ?_⟩
    refine comp_by (n := us.length) (fun i ys _ => ∃ ks : List Nat, ys = natsV ks ∧ ks.length ≤ i ∧ ∀ k, k ∈ ks ↔ ∃ h g, h < i ∧ RM.Hang (townNet ns rs live nd ok hlv) R k h g) hacc (itl_go (SqL.of hus)) (itl_stop (SqL.of hus)) ⟨[], rfl, Nat.zero_le _, fun k => ⟨fun z => absurd z (by simp), fun ⟨_, _, z, _⟩ => absurd z (Nat.not_lt_zero _)⟩⟩ ?_ ?_
    · rintro i ys H3 hi s3 hy ⟨ks, rfl, e1, e3⟩ y H4 ⟨rfl, hv⟩
      have hvi := hv _ (s3.seq (SqL.of hus))
      rw [List.getElem?_eq_getElem hi] at hvi
      cases hvi
      have it := (ius i _ (List.getElem?_eq_getElem hi)).mono s3
      generalize us[i] = v at it
      cases hh : hangOf (townNet ns rs live nd ok hlv) R i with
      | none =>
        rw [hh] at it
        have it : v = .non := it
        subst it
        refine ⟨_, rfl, rfl, _, rfl, iteF ?_⟩
        refine comp_skip hi s3 hy ⟨ks, rfl, by omega, fun k => (e3 k).trans ⟨fun ⟨h, g, z, t⟩ => ⟨h, g, by omega, t⟩, fun ⟨h, g, z, t⟩ => ⟨h, g, ?_, t⟩⟩⟩
        by_cases e : h = i
        · subst e
          rw [hangOf_some.mpr t] at hh
          cases hh
        · omega
      | some q =>
        rw [hh] at it
        obtain ⟨t1, rfl, ht⟩ := it
        have hang := (hangOf_some (k := q.1) (g := q.2)).mp hh
        refine ⟨_, rfl, rfl, _, rfl, iteT ?_⟩
        refine ⟨_, rfl, t1, _, 0, _, rfl, rfl, ht, rfl, ?_⟩
        refine comp_add hacc hi s3 hy (by rw [List.length_map]; exact small1000 (by omega)) ⟨ks ++ [q.1], by rw [natsV_snoc], by rw [List.length_append]; exact Nat.add_le_add_right e1 1, fun k => ?_⟩
        rw [List.mem_append, List.mem_singleton, e3]
        constructor
        · rintro (⟨h, g, z, t⟩ | rfl)
          · exact ⟨h, g, by omega, t⟩
          · exact ⟨i, q.2, by omega, hang⟩
        · rintro ⟨h, g, z, t⟩
          by_cases e : h = i
          · subst e
            exact .inr (t.uniq hang).1
          · exact .inl ⟨h, g, by omega, t⟩
    rintro ys H3 s3 hy ⟨ks, rfl, e1, e3⟩
    refine ⟨acc, ks.map fun k : Nat => (k : Int), rfl, SqL.of (by rw [hy, natsV_ints]), by rw [List.length_map]; omega, fun lo ms hlo mem dup pw => ?_⟩
    obtain ⟨os, eos, o1, o2⟩ := rising_nats mem dup pw
    rw [eos]
    have hOs : Opens (townNet ns rs live nd ok hlv) R os := by
      refine ⟨o1, fun k => ?_⟩
      rw [o2, e3]
      constructor
      · rintro ⟨h, g, _, t⟩; exact ⟨h, g, t⟩
      · rintro ⟨h, g, t⟩
        have : h < ns.length := (Hang.lt t).1
        exact ⟨h, g, by omega, t⟩
    have s6 := (s5.trans s3).trans (Same.new (o := .lst (natsV os)) hlo)
    have hos := upd_same (H := H3) (a := lo) (o := .lst (natsV os))
    generalize upd H3 lo (.lst (natsV os)) = H6 at s6 hos
    clear s3 hy hlo eos o1 o2 mem dup pw e1 e3 hacc hus ius
    -- handed
    refine ⟨_, rfl, c, _, rfl, .inl (s6.seq hT.liv), fun l1 h1 => ?_⟩
    have t1 := Same.new (o := .lst (natsV live)) h1
    refine ⟨_, rfl, rb, _, rfl, .inl ((s6.trans t1).seq hP), fun l2 h2 => ?_⟩
    have t2 := Same.new (o := .lst (ps.map V.ref)) h2
    refine ⟨(by show 2 ≤ sizeLine; decide), fun hd h3 => ?_⟩
    have t3 := Same.new (o := .lst [.ref l1, .ref l2]) h3
    have hhd := upd_same (H := upd (upd H6 l1 (.lst (natsV live))) l2 (.lst (ps.map V.ref))) (a := hd) (o := .lst [.ref l1, .ref l2])
    have hl1 := t3 _ _ (t2 _ _ (upd_same (H := H6) (a := l1) (o := .lst (natsV live))))
    have hl2 := t3 _ _ (upd_same (H := upd H6 l1 (.lst (natsV live))) (a := l2) (o := .lst (ps.map V.ref)))
    have hos4 := ((t1.trans t2).trans t3) _ _ hos
    have t4 := s6.trans ((t1.trans t2).trans t3)
    generalize upd (upd (upd H6 l1 (.lst (natsV live))) l2 (.lst (ps.map V.ref))) hd (.lst [.ref l1, .ref l2]) = H4 at hhd hl1 hl2 t4 hos4
    clear t1 t2 t3 h1 h2 h3 hos s6 s5
    have hR4 : ∀ {H6 : Hp}, Same H4 H6 → RowsAt K H6 l2 ns.length R := fun {H6} s => ⟨ps, SqL.of (s _ _ hl2), ePs, fun i q e => (t4.trans s).seqT (hrow i q e)⟩
    -- what is behind the first question
    obtain ⟨rus, hL, el, hg⟩ := hT.rps.at
    have hkl : ∀ k ∈ os, k < rs.length := fun k hk => by
      obtain ⟨h, g, t⟩ := (hOs.2 k).mp hk
      exact hlv k t.adj.1
    have hosl : os.length ≤ 20 := by
      have z := Gr.nodup_len (xs := os) (B := List.range rs.length) (hOs.1.imp fun h => Nat.ne_of_lt h) fun k hk => List.mem_range.mpr (hkl k hk)
      rw [List.length_range] at z
      exact Nat.le_trans z G.l20
    dsimp only [gName]
    refine ifS_by (fun σ H7 => Same H4 H7 ∧ σ = [some (.ref p), some (.ref q), some (.ref rb), some (.int bit), some (.int (ns.length : Nat)), some (.ref a), some (.ref b), some (.ref c), some (.ref lh), some (.ref lo), some (.ref hd), none, none, none]) ?nx0 ?me0
    case me0 =>
      intro kj
      refine ⟨_, rfl, rfl, _, rfl, ?_⟩
      refine ite2 (fun e => ?_) (fun e => iteF (kj _ _ ⟨Same.refl _, rfl⟩))
      refine ⟨_, rfl, _, rfl, hd, _, 0, _, rfl, rfl, SqL.of hhd, rfl, _, rfl, hd, _, 1, _, rfl, rfl, SqL.of hhd, rfl, p, ln, lr, l1, l2, ns, rs, live, nd, ok, hlv, R, rfl, hTo.mono t4, SqL.of hl1, hR4 (Same.refl _), by omega, G.l20, fit, fun lf os2 H5 s5 hlf0 hlf hO2 h12 => ?_⟩
      have e := hOs.uniq hO2
      subst e
      exact ⟨_, rfl, lf, lo, _, rfl, SqL.of hlf, SqL.of (s5 _ _ hos4), fun H6 s6 => ⟨_, rfl, iteF (kj _ _ ⟨s5.trans s6, rfl⟩)⟩⟩
    rintro σ H5 ⟨s5, rfl⟩
    -- each house
    refine ⟨_, rfl, (ns.length : Int), rfl, by omega, by omega, ?_⟩
    refine for_range (n := ((ns.length : Int)).toNat) (fun i σ H7 => Same H4 H7 ∧ ∃ (v11 v12 v13 : Option V), σ = [some (.ref p), some (.ref q), some (.ref rb), some (.int bit), some (.int (ns.length : Nat)), some (.ref a), some (.ref b), some (.ref c), some (.ref lh), some (.ref lo), some (.ref hd), v11, v12, v13]) ⟨s5, _, _, _, rfl⟩ ?_ ?_
    · rintro i σ H7 hi ⟨s7, v11, v12, v13, rfl⟩
      have hin : i < ns.length := by omega
      rw [Int.zero_add]
      have hos7 := s7 _ _ hos4
      have s47 := t4.trans s7
      -- own
      refine ⟨_, rfl, lo, rfl, ⟨_, SqL.of hos7⟩, fun acc hacc => ?_⟩
      refine comp_by (n := (natsV os).length) (fun j ys _ => ys = natsV ((os.take j).filter (isAt rs (i : Int)))) hacc (itl_go (SqL.of hos7)) (itl_stop (SqL.of hos7)) rfl ?_ ?_
      · rintro j ys H8 hj s8 hy rfl y H9 ⟨rfl, hv⟩
        have hv := hv _ (s8.seq (SqL.of hos7))
        have hj' : j < os.length := by rw [List.length_map] at hj; exact hj
        rw [List.getElem?_map, List.getElem?_eq_getElem hj'] at hv
        cases hv
        have s48 := s47.trans s8
        have hk := hkl _ (List.getElem_mem hj')
        have hrk : rs[os[j]]? = some rs[os[j]] := List.getElem?_eq_getElem hk
        obtain ⟨pt, hp, hpt⟩ := hg os[j] _ hrk
        have hatk : atI rus ((os[j] : Nat) : Int) = some (.ref pt) := atI_nat hp
        have nw : ¬ (HT.sIx (rs[os[j]]).vs.length 0 none = 0 ∧ HT.sIx (rs[os[j]]).vs.length (rs[os[j]]).vs.length (some 2) = (rs[os[j]]).vs.length) := fun z => absurd z.2 (by show HT.sIx 5 5 (some 2) ≠ 5; decide)
        have ct : cutV (rs[os[j]]).vs none (some 2) = [V.int rs[os[j]].a, V.int rs[os[j]].b] := rfl
        refine ⟨_, rfl, _, rfl, _, rfl, ixL_mk (s48.seq hL) hatk ⟨_, rfl, pt, _, rfl, s48.seqT hpt, nw, fun z1 hz1 => ?_⟩⟩
        rw [ct]
        have u1 := Same.new (o := .tup [V.int rs[os[j]].a, V.int rs[os[j]].b]) hz1
        refine ⟨z1, _, rfl, .inr (SqT.of upd_same), rfl, rfl, _, rfl, ?_⟩
        have eb : inV (V.int (i : Nat)) [V.int rs[os[j]].a, V.int rs[os[j]].b] = isAt rs (i : Int) os[j] := by
          unfold isAt
          rw [hrk]
          exact in_two _ _ _
        dsimp only
        rw [if_neg Bool.false_ne_true, eb]
        have hy1 := u1 _ _ hy
        have s8u := s8.trans u1
        generalize upd H9 z1 (.tup [V.int rs[os[j]].a, V.int rs[os[j]].b]) = H10 at hy1 s8u
        refine ite2 (fun hc => ?_) (fun hc => ?_)
        · refine ⟨_, rfl, ?_⟩
          refine comp_add hacc hj s8u hy1 ?_ ?_
          · rw [List.length_map]
            refine small1000 (Nat.le_trans (List.length_filter_le _ _) ?_)
            rw [List.length_take]; omega
          · rw [filt_take hj', if_pos hc, natsV_snoc]
        · refine comp_skip hj s8u hy1 ?_
          rw [filt_take hj', if_neg hc, List.append_nil]
      rintro ys H8 s8 hy rfl
      rw [List.length_map, List.take_length] at hy
      have s78 := s7.trans s8
      have s48 := t4.trans s78
      have hos8 := s78 _ _ hos4
      refine ⟨_, rfl, _, rfl, hd, _, 0, _, rfl, rfl, SqL.of (s78 _ _ hhd), rfl, _, rfl, hd, _, 1, _, rfl, rfl, SqL.of (s78 _ _ hhd), rfl, _, rfl, p, ln, lr, l1, l2, ns, rs, live, nd, ok, hlv, R, (i : Int), rfl, hTo.mono s48, SqL.of (s78 _ _ hl1), hR4 s78, by omega, G.l20, fit, fun lf os2 H9 s9 hlf0 hlf hO2 h12 => ?_⟩
      have e := hOs.uniq hO2
      subst e
      have hacc9 := s9 _ _ hy
      refine ⟨_, rfl, _, rfl, lf, acc, _, rfl, SqL.of hlf, SqL.of hacc9, fun H10 s10 => ⟨_, rfl, iteF ?_⟩⟩
      have s810 := s9.trans s10
      have hlf10 := s10 _ _ hlf
      have nac : lf ≠ acc := fun z => by rw [z] at hlf0; rw [hy] at hlf0; cases hlf0
      have hac10 := s10 _ _ hacc9
      refine ⟨_, rfl, .inl ⟨rfl, _, SqL.of hlf10⟩, lf, _, _, rfl, rfl, hlf10, (by rw [List.length_map]; exact small1000 (Nat.le_trans (List.length_filter_le _ _) (by omega))), ?_⟩
      have s11 := (s78.trans s810).out (o := .lst (natsV (os.filter (isAt rs (i : Int))) ++ [V.int 0])) (s78.free hlf0)
      have hac11 : upd H10 lf (.lst (natsV (os.filter (isAt rs (i : Int))) ++ [V.int 0])) acc = some (.lst (natsV (os.filter (isAt rs (i : Int))))) := by rw [upd_ne (Ne.symm nac)]; exact hac10
      generalize upd H10 lf (.lst (natsV (os.filter (isAt rs (i : Int))) ++ [V.int 0])) = H11 at s11 hac11
      have s411 := t4.trans s11
      refine ⟨_, rfl, _, rfl, _, rfl, _, rfl, p, ln, lr, c, rb, ns, rs, live, nd, ok, hlv, R, (i : Int), rfl, hTo.mono s411, s411.seq hT.liv, hRw.mono s411, by omega, G.l20, fit, fun lf2 os3 H12 s12 hlf20 hlf2 hO3 h123 => ?_⟩
      have e := hOs.uniq hO3
      subst e
      refine ⟨_, rfl, lf2, acc, _, rfl, SqL.of hlf2, SqL.of (s12 _ _ hac11), fun H13 s13 => ⟨_, rfl, iteF ?_⟩⟩
      exact ⟨(s11.trans s12).trans s13, _, _, _, rfl⟩
    · rintro σ H7 ⟨s7, v11, v12, v13, rfl⟩
      refine ⟨_, rfl, _, rfl, hd, _, 0, _, rfl, rfl, SqL.of (s7 _ _ hhd), rfl, _, rfl, hd, _, 1, _, rfl, rfl, SqL.of (s7 _ _ hhd), rfl, p, ln, lr, l1, l2, ns, rs, live, nd, ok, hlv, R, rfl, hTo.mono (t4.trans s7), SqL.of (s7 _ _ hl1), hR4 s7, by omega, G.l20, fit, fun lf os2 H8 s8 hlf0 hlf hO2 h12 => ?_⟩
      have e := hOs.uniq hO2
      subst e
      refine ⟨_, rfl, _, rfl, lf, lo, _, rfl, SqL.of hlf, SqL.of ((s7.trans s8) _ _ hos4), fun H9 s9 => ⟨_, rfl, iteF ?_⟩⟩
      have s79 := (s7.trans s8).trans s9
      have hlf9 := s9 _ _ hlf
      refine ⟨_, rfl, _, rfl, _, rfl, (by show 2 ≤ sizeLine; decide), fun l3 h3 => ?_⟩
      have u8 := Same.new (o := .lst [.ref c, .ref rb]) h3
      have s58 := s79.trans u8
      have s48 := t4.trans s58
      have lay := pair_lay ns.length R live
      refine ⟨_, _, pair_data (SqL.of (s58 _ _ hhd)) (SqL.of (s58 _ _ hl1)) (hR4 s58), pair_data (SqL.of upd_same) (s48.seq hT.liv) (hRw.mono s48), lay, lay, Nat.lt_of_le_of_lt (Nat.add_le_add_left (Nat.le_trans (Nat.min_le_left _ _) (pair_deep ns.length R live)) _) hr.units, _, rfl, ?_⟩
      rw [SeqAt.eqv_refl _ lay]
      refine iteF ?_
      have hlf10 := u8 _ _ hlf9
      have hlfs := s7.free hlf0
      generalize upd H9 l3 (.lst [.ref c, .ref rb]) = H10 at s58 hlf10
      clear u8 s48
      refine ⟨_, rfl, .inl ⟨rfl, _, SqL.of hlf10⟩, lf, _, _, rfl, rfl, hlf10, (by rw [List.length_map]; exact small1000 (by omega)), ?_⟩
      have s11 := s58.out (o := .lst (natsV os ++ [V.int 0])) hlfs
      generalize upd H10 lf (.lst (natsV os ++ [V.int 0])) = H11 at s11
      have s411 := t4.trans s11
      refine ⟨_, rfl, _, rfl, _, rfl, p, ln, lr, c, rb, ns, rs, live, nd, ok, hlv, R, rfl, hTo.mono s411, s411.seq hT.liv, hRw.mono s411, by omega, G.l20, fit, fun lf2 os3 H12 s12 hlf20 hlf2 hO3 h123 => ?_⟩
      have e := hOs.uniq hO3
      subst e
      exact ⟨_, rfl, lf2, lo, _, rfl, SqL.of hlf2, SqL.of ((s11.trans s12) _ _ hos4), fun H13 s13 => k _ ((s411.trans s12).trans s13)⟩
end
end K14

set_option Elab.async false
set_option linter.all false
set_option maxRecDepth 100000
set_option maxHeartbeats 4000000
namespace K14
open PySem L2 TW PyProof.Rows
open RM (rowV byV byV_non byV_int)
seal L2.PE L2.PA L2.PT L2.PW L2.PS L2.PSs L2.PG L2.PGs L2.PI L2.PTs
section
variable {P : Program} {w : World} {K : PySem.W.Frag} {mg : Str → Option Value} {base : Heap}
theorem ok_w_both {t : Ad} (T : Txt K mg t) : FnOk P w K mg base CX0 8 t.f_w_both t.d_w_both ["_law_made", "_law_told", "_law_rows_here", "_law_bit"]  (spAsked K t.a_Town) := by
  refine T.F_w_both.ok sc_w_both (fun vs H Q E h => ?_) (fun cdv A outer s H vs Q E hr h => ?_)
  · obtain ⟨_, _, _, _, _, _, _, _, _, _, _, _, _, rfl, _⟩ := h; rfl
  · obtain ⟨p, ln, lr, q, a, b, c, rb, ns, rs, live, R, bit, rfl, hTo, hT, G, hRw, fit, k⟩ := h
    refine ⟨_, (pss_cons (ps_asg (pv 1) (pg_tup (n := 4) rfl (pgs_cons (pg_name (i := 4) sc_w_both.nd rfl (Or.inl rfl)) (pgs_cons (pg_name (i := 5) sc_w_both.nd rfl (Or.inl rfl)) (pgs_cons (pg_name (i := 6) sc_w_both.nd rfl (Or.inl rfl)) (pgs_cons (pg_name (i := 7) sc_w_both.nd rfl (Or.inl rfl)) pgs_nil))))))
      (pss_one (ps_ret (pe_and (pe_call (ok_w_asked T) (hr.mono (by decide)) rfl T.g_w_asked T.F_w_asked.kp T.B_w_asked .nil pass0 (pa_c (pv 0) (pa_c (pe_tup (pa_c (pv 4) (pa_c (pv 5) (pa_c (pv 6) (pa_c (pe_slice sl_list (pv 7) po_none (po_some (pe_un un_neg pe_int))) pa_nil))))) (pa_c (pv 2) (pa_c (pv 3) pa_nil))))) (pe_one (pe_call (ok_w_asked T) (hr.mono (by decide)) rfl T.g_w_asked T.F_w_asked.kp T.B_w_asked .nil pass0 (pa_c (pv 0) (pa_c (pv 1) (pa_c (pv 2) (pa_c (pv 3) pa_nil)))))))))), ?_⟩
    refine ⟨_, rfl, q, _, rfl, hT.tup, rfl, _, _, rfl, _, _, rfl, _, _, rfl, _, _, rfl, rfl, ?_⟩
    refine ⟨_, rfl, _, rfl, _, rfl, _, rfl, _, rfl, _, rfl, _, rfl, c, _, rfl, hT.liv, fun lw hlw => ?_⟩
    rw [cut_last _ _ (.inl rfl), ← List.map_take]
    have u1 := Same.new (o := .lst (natsV (live.take ((natsV live).length - 1)))) hlw
    have G2 := G.fewer ((natsV live).length - 1)
    have hlw' := upd_same (H := H) (a := lw) (o := .lst (natsV (live.take ((natsV live).length - 1))))
    generalize live.take ((natsV live).length - 1) = few at u1 G2 hlw'
    generalize upd H lw (.lst (natsV few)) = H1 at u1 hlw'
    refine ⟨(by show 4 ≤ sizeLine; decide), fun q2 hq2 => ?_⟩
    have u2 := Same.new (o := .tup [V.int (ns.length : Nat), V.ref a, V.ref b, V.ref lw]) hq2
    have u12 := u1.trans u2
    have hT2 : Told K (upd H1 q2 (.tup [V.int (ns.length : Nat), V.ref a, V.ref b, V.ref lw])) q2 a b lw ns rs few := ⟨SqT.of upd_same, u12.seq hT.nms, hT.rps.mono u12, SqL.of (u2 _ _ hlw')⟩
    refine ⟨_, rfl, _, rfl, p, ln, lr, q2, a, b, lw, rb, ns, rs, few, R, bit, rfl, hTo.mono u12, hT2, G2, hRw.mono u12, fit, fun H3 s3 => ⟨_, rfl, iteT ?_⟩⟩
    have s13 := u12.trans s3
    exact ⟨_, rfl, _, rfl, _, rfl, _, rfl, p, ln, lr, q, a, b, c, rb, ns, rs, live, R, bit, rfl, hTo.mono s13, hT.mono s13, G, hRw.mono s13, fit, fun H4 s4 => k H4 (s13.trans s4)⟩
end
end K14

set_option Elab.async false
set_option linter.all false
set_option maxRecDepth 100000
set_option maxHeartbeats 4000000
namespace K14
open PySem L2 TW PyProof.Rows
open RM (rowV byV byV_non byV_int)
seal L2.PE L2.PA L2.PT L2.PW L2.PS L2.PSs L2.PG L2.PGs L2.PI L2.PTs
section
variable {P : Program} {w : World} {K : PySem.W.Frag} {mg : Str → Option Value} {base : Heap}
def spLaw (K : PySem.W.Frag) : Sp := fun vs H Q _ => ∃ (a : Addr) (ns : List Int), vs = [.ref a] ∧ SqL K H a (ns.map V.int) ∧ ns.length ≤ 63 ∧ ∀ H', Q (.bl true) H'
theorem ok_law {t : Ad} (T : Txt K mg t) : FnOk P w K mg base CX0 9 t.f_law t.d_law ["_law_script"]  (spLaw K) := by
  refine T.F_law.ok sc_law (fun vs H Q E h => ?_) (fun cdv A outer s H vs Q E hr h => ?_)
  · obtain ⟨a, ns, rfl, _⟩ := h; rfl
  · obtain ⟨a, cs, rfl, hS, hlen, k⟩ := h
    refine ⟨_, (pss_cons (ps_set (i := 1) sc_law.nd rfl (Or.inl rfl) (pe_call (ok_w_town T) (hr.mono (by decide)) rfl T.g_w_town T.F_w_town.kp T.B_w_town .nil pass0 (pa_c (pv 0) pa_nil)))
      (pss_cons (ps_set (i := 2) sc_law.nd rfl (Or.inl rfl) (pe_ix ix_tup (pv 1) pe_int (fun _ _ => rfl)))
      (pss_cons (ps_set (i := 3) sc_law.nd rfl (Or.inl rfl) (pe_make T.K_Town (ok_Townu_initu T) (hr.mono (by decide)) rfl T.g_Town T.B_Townu_initu .nil pass0 (pa_c (pe_callTy call_list_of (by rfl) T.n_list boot_list (pa_c (pv 2) pa_nil)) (pa_c (pe_callTy call_list_of (by rfl) T.n_list boot_list (pa_c (pe_ix ix_tup (pv 1) pe_int (fun _ _ => rfl)) pa_nil)) pa_nil))))
      (pss_cons (ps_set (i := 4) sc_law.nd rfl (Or.inl rfl) (pe_call (ok_w_rows T) (hr.mono (by decide)) rfl T.g_w_rows T.F_w_rows.kp T.B_w_rows .nil pass0 (pa_c (pv 0) (pa_c (pv 2) (pa_c (pe_callB call_len_seq (by rfl) T.n_len PySem.boot_len (pa_c (pe_ix ix_tup (pv 1) pe_int (fun _ _ => rfl)) pa_nil)) pa_nil)))))
      (pss_cons (ps_if (pt_not (pt_val (pe_call (ok_w_both T) (hr.mono (by decide)) rfl T.g_w_both T.F_w_both.kp T.B_w_both .nil pass0 (pa_c (pv 3) (pa_c (pv 1) (pa_c (pv 4) (pa_c pe_int pa_nil))))))) (pss_one (ps_ret pe_bl)) pss_nil)
      (pss_cons (ps_for PassesOwn.never rfl (pi_range1 rfl T.n_range (pa_c (pe_callB (call_min2 rfl) (by rfl) T.n_min boot_min (pa_c (pe_callB call_len_seq (by rfl) T.n_len PySem.boot_len (pa_c (pv 0) pa_nil)) (pa_c pe_int pa_nil))) pa_nil)) (pg_name (i := 5) sc_law.nd rfl (Or.inl rfl)) (pss_cons (ps_set (i := 4) sc_law.nd rfl (Or.inl rfl) (pe_call (ok_w_deed T) (hr.mono (by decide)) rfl T.g_w_deed T.F_w_deed.kp T.B_w_deed .nil pass0 (pa_c (pv 0) (pa_c (pv 5) (pa_c (pv 1) (pa_c (pv 4) pa_nil))))))
      (pss_one (ps_if (pt_not (pt_val (pe_call (ok_w_both T) (hr.mono (by decide)) rfl T.g_w_both T.F_w_both.kp T.B_w_both .nil pass0 (pa_c (pv 3) (pa_c (pv 1) (pa_c (pv 4) (pa_c (pe_op op_mod (pe_op op_fdiv (pe_call (ok_w_cell T) (hr.mono (by decide)) rfl T.g_w_cell T.F_w_cell.kp T.B_w_cell .nil pass0 (pa_c (pv 0) (pa_c (pv 5) pa_nil))) pe_int) pe_int) pa_nil))))))) (pss_one (ps_ret pe_bl)) pss_nil))))
      (pss_one (ps_ret pe_bl)))))))), ?_⟩
    refine ⟨_, rfl, a, cs, rfl, hS, hlen, fun q la lb lc ns ts rs live H1 s1 hTd G hla hlb hlc ets hra => ?_⟩
    have hn1 := G.n1
    have hn10 := G.n10
    have nn := G.nn
    have nd := G.nd
    have l20 := G.l20
    have ok := G.ok
    refine ⟨_, rfl, q, _, 1, _, rfl, rfl, hTd.tup, rfl, ?_⟩
    -- town
    refine ⟨_, rfl, la, _, rfl, .inl (SqL.of hla), fun l1 h1 => ?_⟩
    have t1 := Same.new (o := .lst (ns.map V.int)) h1
    refine ⟨_, rfl, q, _, 2, _, rfl, rfl, t1.seqT hTd.tup, rfl, lb, _, rfl, .inl (SqL.of (t1 _ _ hlb)), fun l2 h2 => ?_⟩
    have t2 := t1.trans (Same.new (o := .lst (ts.map V.ref)) h2)
    have hl1 := Same.new (o := .lst (ts.map V.ref)) h2 _ _ (upd_same (H := H1) (a := l1) (o := .lst (ns.map V.int)))
    have hl2 := upd_same (H := upd H1 l1 (.lst (ns.map V.int))) (a := l2) (o := .lst (ts.map V.ref))
    refine fun p dx np ndx nep => ?_
    have t3 : Same (upd (upd H1 l1 (.lst (ns.map V.int))) l2 (.lst (ts.map V.ref))) (upd (upd (upd (upd H1 l1 (.lst (ns.map V.int))) l2 (.lst (ts.map V.ref))) dx (.own p)) p (.ins t.a_Town dx [])) := (Same.new ndx).trans (Same.new (by rw [upd_ne (Ne.symm nep)]; exact np))
    refine ⟨p, dx, l1, l2, ns, rs, rfl, upd_same, SqL.of (t3 _ _ hl1), ⟨l2, _, rfl, SqL.of (t3 _ _ hl2), RepAll.mono (t2.trans t3) hra⟩, by omega, by omega, nn, nd, l20, ok, fun lna lnr H6 hln hlr hTo kp => ⟨rfl, ?_⟩⟩
    have s6 : Same H1 H6 := t2.trans fun b o e => kp b o (t3 b o e) (ne_of_none e np)
    clear t1 t2 t3 hl1 hl2 kp h1 h2 np ndx hln hlr
    have hTd6 := hTd.mono s6
    have hS6 := (s1.trans s6).seq hS
    have hlb6 := s6 _ _ hlb
    have hla6 := s6 _ _ hla
    have hlc6 := s6 _ _ hlc
    -- rows
    refine ⟨_, rfl, _, rfl, _, rfl, q, _, 2, _, rfl, rfl, hTd6.tup, rfl, lb, _, rfl, .inl (SqL.of hlb6), a, la, cs, ns, (ts.map V.ref).length, rfl, hS6, SqL.of hla6, hn1, by omega, nn, fun rb R H7 s7 hrb0 hO fit => ?_⟩
    rw [List.length_map, ets] at fit
    refine ⟨_, rfl, _, rfl, _, rfl, p, lna, lnr, q, la, lb, lc, rb, ns, rs, live, R, 0, rfl, hTo.mono s7, hTd6.mono s7, G, hO.rows, fit, fun H8 s8 => ⟨_, rfl, iteF ?_⟩⟩
    -- the deeds
    have lenS : (((cs.map V.int).length : Nat) : Int) = (cs.length : Int) := by rw [List.length_map]
    obtain ⟨m, em, hm⟩ : ∃ m : Nat, (if (12 : Int) < (((cs.map V.int).length : Nat) : Int) then 12 else (((cs.map V.int).length : Nat) : Int)) = (m : Nat) ∧ m ≤ 12 := by
      rw [lenS]
      by_cases z : (12 : Int) < (cs.length : Int)
      · exact ⟨12, by rw [if_pos z]; rfl, by omega⟩
      · exact ⟨cs.length, by rw [if_neg z], by omega⟩
    have s78 := s7.trans s8
    refine ⟨_, rfl, a, _, rfl, .inl (s78.seq hS6), _, _, rfl, (m : Int), (by show [V.int (if (12 : Int) < (((cs.map V.int).length : Nat) : Int) then 12 else (((cs.map V.int).length : Nat) : Int))] ++ [] = _; rw [em]; rfl), by omega, by omega, ?_⟩
    refine for_range (n := ((m : Int)).toNat) (fun i σ H9 => Same H6 H9 ∧ ∃ (rb : Addr) (R : Nat → RM.Row) (v5 : Option V), σ = [some (.ref a), some (.ref q), some (.ref la), some (.ref p), some (.ref rb), v5] ∧ H6 rb = none ∧ OwnRows K H9 rb ns.length R ∧ FitAll ns.length rs.length R) ⟨s78, rb, R, _, rfl, hrb0, hO.mono s8, fit⟩ ?_ ?_
    · rintro i σ H9 hi ⟨s9, rb, R, v5, rfl, hrb6, hR9, fit9⟩
      rw [Int.zero_add]
      refine ⟨_, rfl, _, rfl, _, rfl, _, rfl, a, q, la, lb, lc, rb, cs, i, ns, rs, live, R, rfl, s9.seq hS6, hTd6.mono s9, G, hR9.rows, fit9, fun rb2 R2 H10 s10 hrb20 hO2 fit2 => ?_⟩
      have s910 := s9.trans s10
      refine ⟨_, rfl, _, rfl, _, rfl, _, rfl, _, rfl, a, cs, (i : Int), rfl, s910.seq hS6, by omega, fun x x0 => ⟨_, _, rfl, rfl, ⟨by decide, by decide⟩, _, _, rfl, rfl, (by show (0 : Int) < 2; decide), p, lna, lnr, q, la, lb, lc, rb2, ns, rs, live, R2, _, rfl, hTo.mono s910, hTd6.mono s910, G, hO2.rows, fit2, fun H11 s11 => ⟨_, rfl, iteF ?_⟩⟩⟩
      exact ⟨s910.trans s11, rb2, R2, _, rfl, s9.free hrb20, hO2.mono s11, fit2⟩
    · rintro σ H9 ⟨s9, rb, R, v5, rfl, hrb6, hR9, fit9⟩
      exact k _
end
theorem walk {l : PySem.W.OpenLaw} {q : Program} {loose : List Str} {XP : (Str → Option Value) → Heap → Prop} {YP : World → Heap → Prop} {d : DefRec} {K : Params → PySem.W.Frag} (hn : l.most = some 63) (hdf : d.params.defaults = []) (hdn : d.name = "law")
    (hY : ∀ (w : World) (h : Heap), YP w h → (K w.params).In h)
    (F : ∀ (w : World) (mg : Str → Option Value) (h : Heap), (K w.params).In h → h.Ns mainGlobals mg → ∃ t, Txt (K w.params) mg t) :
    PySem.W.WalkO q loose XP YP l.row.toRowW d [] (fun f vs => PySem.call f vs) :=
  L2.walk_of (n := 63) (k := 9) (x := "_law_script") (CX := fun _ => CX0) (sp := fun w => spLaw (K w.params)) hn (by decide) hdf ⟨rfl, by decide, by decide⟩ hY
    (fun w mg fa h KX G hmg => by
      obtain ⟨t, T⟩ := F w mg h KX G
      rw [hdn] at hmg
      have e := hmg.symm.trans T.g_law
      cases e
      refine ⟨t.d_law, fun s v => ?_, fun base _ _ => ok_law T⟩
      obtain ⟨_, _, _, _, _, _, _, _, _, e, _⟩ := T.F_law.ex
      rw [e]
      exact .of_eq rfl)
    (fun _ _ a ns hl _ hS => ⟨a, ns, rfl, hS, hl, fun _ => rfl⟩) fun _ _ _ _ _ z => z
end K14

set_option Elab.async false
set_option linter.all false
open PySem PySem.W PyProof.Rows
set_option maxRecDepth 100000 in
set_option maxHeartbeats 0 in
theorem PySem.Challenge.cw_knotless_k14_opens_holds : PySem.Challenge.rw_knotless_k14_opens.Holds := by
  w_on; o_law; k_head; (case hw => w_witness2)
  k_fill
  refine K14.walk (l := PySem.Challenge.rw_knotless_k14_opens) rfl rfl rfl (fun w h Y => PySem.W.kIn_of Y) ?F
  case F =>
    intro w mg h KX G
    refine' K14.txt_mk KX G ?aC_Town ?a_offer ?l_offer ?c_offer ?k_offer ?a_ups ?l_ups ?c_ups ?k_ups ?a_opens ?l_opens ?c_opens ?k_opens ?a_open_at ?l_open_at ?c_open_at ?k_open_at ?a_up_of ?l_up_of ?c_up_of ?k_up_of ?a_Townu_initu ?i_Townu_initu ?l_Townu_initu ?c_Townu_initu ?k_Townu_initu ?a_Town_rope ?i_Town_rope ?l_Town_rope ?c_Town_rope ?k_Town_rope ?a_Town_ropes_at ?i_Town_ropes_at ?l_Town_ropes_at ?c_Town_ropes_at ?k_Town_ropes_at ?a_Town_far_end ?i_Town_far_end ?l_Town_far_end ?c_Town_far_end ?k_Town_far_end ?a_check_names ?l_check_names ?c_check_names ?k_check_names ?a_check_ropes ?l_check_ropes ?c_check_ropes ?k_check_ropes ?a_check_rope ?l_check_rope ?c_check_rope ?k_check_rope ?a_joins_two ?l_joins_two ?c_joins_two ?k_joins_two ?a_w_cell ?l_w_cell ?c_w_cell ?k_w_cell ?a_w_whole ?l_w_whole ?c_w_whole ?k_w_whole ?a_w_numbers ?l_w_numbers ?c_w_numbers ?k_w_numbers ?a_w_names ?l_w_names ?c_w_names ?k_w_names ?a_w_rope ?l_w_rope ?c_w_rope ?k_w_rope ?a_w_town ?l_w_town ?c_w_town ?k_w_town ?a_w_row ?l_w_row ?c_w_row ?k_w_row ?a_w_rows ?l_w_rows ?c_w_rows ?k_w_rows ?a_w_ought ?l_w_ought ?c_w_ought ?k_w_ought ?a_w_hung ?l_w_hung ?c_w_hung ?k_w_hung ?a_w_deed ?l_w_deed ?c_w_deed ?k_w_deed ?a_w_asked ?l_w_asked ?c_w_asked ?k_w_asked ?a_w_both ?l_w_both ?c_w_both ?k_w_both ?a_law ?l_law ?c_law ?k_law ?pg_Town ?hd_Town ?po_Town ?sa_Town ?mk_Town ?kc_Town ?nA_Town_house_names ?nA_Town_rope_tuples ?nA_Town_size ?nA_Town_many ?g_MOST_HOUSES ?g_MOST_ROPES ?g_MOST_WIRES ?g_ALL_GROUPS ?z_len ?z_isinstance ?z_int ?z_bool ?z_list ?z_range ?z_enumerate ?z_min ?z_set ?z_sorted ?z_zip
    (case aC_Town => k_is)
    (case a_offer => k_is)
    (case l_offer => k_is)
    (case c_offer => k_is)
    (case k_offer => k_is)
    (case a_ups => k_is)
    (case l_ups => k_is)
    (case c_ups => k_is)
    (case k_ups => k_is)
    (case a_opens => k_is)
    (case l_opens => k_is)
    (case c_opens => k_is)
    (case k_opens => k_is)
    (case a_open_at => k_is)
    (case l_open_at => k_is)
    (case c_open_at => k_is)
    (case k_open_at => k_is)
    (case a_up_of => k_is)
    (case l_up_of => k_is)
    (case c_up_of => k_is)
    (case k_up_of => k_is)
    (case a_Townu_initu => k_is)
    (case i_Townu_initu => k_is)
    (case l_Townu_initu => k_is)
    (case c_Townu_initu => k_is)
    (case k_Townu_initu => k_is)
    (case a_Town_rope => k_is)
    (case i_Town_rope => k_is)
    (case l_Town_rope => k_is)
    (case c_Town_rope => k_is)
    (case k_Town_rope => k_is)
    (case a_Town_ropes_at => k_is)
    (case i_Town_ropes_at => k_is)
    (case l_Town_ropes_at => k_is)
    (case c_Town_ropes_at => k_is)
    (case k_Town_ropes_at => k_is)
    (case a_Town_far_end => k_is)
    (case i_Town_far_end => k_is)
    (case l_Town_far_end => k_is)
    (case c_Town_far_end => k_is)
    (case k_Town_far_end => k_is)
    (case a_check_names => k_is)
    (case l_check_names => k_is)
    (case c_check_names => k_is)
    (case k_check_names => k_is)
    (case a_check_ropes => k_is)
    (case l_check_ropes => k_is)
    (case c_check_ropes => k_is)
    (case k_check_ropes => k_is)
    (case a_check_rope => k_is)
    (case l_check_rope => k_is)
    (case c_check_rope => k_is)
    (case k_check_rope => k_is)
    (case a_joins_two => k_is)
    (case l_joins_two => k_is)
    (case c_joins_two => k_is)
    (case k_joins_two => k_is)
    (case a_w_cell => k_is)
    (case l_w_cell => k_is)
    (case c_w_cell => k_is)
    (case k_w_cell => k_is)
    (case a_w_whole => k_is)
    (case l_w_whole => k_is)
    (case c_w_whole => k_is)
    (case k_w_whole => k_is)
    (case a_w_numbers => k_is)
    (case l_w_numbers => k_is)
    (case c_w_numbers => k_is)
    (case k_w_numbers => k_is)
    (case a_w_names => k_is)
    (case l_w_names => k_is)
    (case c_w_names => k_is)
    (case k_w_names => k_is)
    (case a_w_rope => k_is)
    (case l_w_rope => k_is)
    (case c_w_rope => k_is)
    (case k_w_rope => k_is)
    (case a_w_town => k_is)
    (case l_w_town => k_is)
    (case c_w_town => k_is)
    (case k_w_town => k_is)
    (case a_w_row => k_is)
    (case l_w_row => k_is)
    (case c_w_row => k_is)
    (case k_w_row => k_is)
    (case a_w_rows => k_is)
    (case l_w_rows => k_is)
    (case c_w_rows => k_is)
    (case k_w_rows => k_is)
    (case a_w_ought => k_is)
    (case l_w_ought => k_is)
    (case c_w_ought => k_is)
    (case k_w_ought => k_is)
    (case a_w_hung => k_is)
    (case l_w_hung => k_is)
    (case c_w_hung => k_is)
    (case k_w_hung => k_is)
    (case a_w_deed => k_is)
    (case l_w_deed => k_is)
    (case c_w_deed => k_is)
    (case k_w_deed => k_is)
    (case a_w_asked => k_is)
    (case l_w_asked => k_is)
    (case c_w_asked => k_is)
    (case k_w_asked => k_is)
    (case a_w_both => k_is)
    (case l_w_both => k_is)
    (case c_w_both => k_is)
    (case k_w_both => k_is)
    (case a_law => k_is)
    (case l_law => k_is)
    (case c_law => k_is)
    (case k_law => k_is)
    (case pg_Town => k_is)
    (case hd_Town => k_is)
    (case po_Town => k_is)
    (case sa_Town => k_is)
    (case mk_Town => k_is)
    (case kc_Town => k_is)
    (case nA_Town_house_names => k_is)
    (case nA_Town_rope_tuples => k_is)
    (case nA_Town_size => k_is)
    (case nA_Town_many => k_is)
    (case g_MOST_HOUSES => k_is)
    (case g_MOST_ROPES => k_is)
    (case g_MOST_WIRES => k_is)
    (case g_ALL_GROUPS => k_is)
    (case z_len => k_is)
    (case z_isinstance => k_is)
    (case z_int => k_is)
    (case z_bool => k_is)
    (case z_list => k_is)
    (case z_range => k_is)
    (case z_enumerate => k_is)
    (case z_min => k_is)
    (case z_set => k_is)
    (case z_sorted => k_is)
    (case z_zip => k_is)
#print axioms PySem.Challenge.cw_knotless_k14_opens_holds
