import PyProof.Rows.All
import Wide.All
import OpenK.AllK
import Wide.FinOn
import Lean
import PyProof.EqAt
import PyProof.EqKinds
import PyProof.TupleCall
import PySem.Challenge.RW_knotless_k26_targets
set_option Elab.async false
set_option linter.all false
set_option maxRecDepth 100000
/-! THE HAND LAYER, for ints, bools, texts, own classes, LISTS and tuples (index, slices, in, append, pop ..), calls, loops. Paste it whole ahead of your own text; what your proof does not reach may be deleted. -/
namespace L2
open PySem PySem.Spec PyProof.Rows

/-- a key: an int or a str -/
abbrev Key := Sum Int Str
def keyIs : Key → Value → Bool
  | .inl k, v => Value.isInt k v
  | .inr x, v => Value.isStrOf x v
def keyH (w : World) : Key → Int
  | .inl k => hashInt k
  | .inr x => hashStr w x
theorem keyIs_shape : ∀ {k : Key} {v : Value}, keyIs k v = true → (∃ i t, k = Sum.inl i ∧ v = Value.int i t) ∨ (∃ x t, k = Sum.inr x ∧ v = Value.str x t)
  | .inl i, v, h => by
    obtain ⟨t, e⟩ := Value.isInt_shape (k := i) (v := v) h
    exact .inl ⟨i, t, rfl, e⟩
  | .inr x, v, h => by
    obtain ⟨t, e⟩ := Value.isStrOf_shape (x := x) (v := v) h
    exact .inr ⟨x, t, rfl, e⟩
theorem keyIs_int (i : Int) (t : Tok) : keyIs (.inl i) (.int i t) = true := by simp [keyIs, Value.isInt]
theorem keyIs_str (x : Str) (t : Tok) : keyIs (.inr x) (.str x t) = true := by simp [keyIs, Value.isStrOf]
theorem key_ll (a b : Int) : decide ((Sum.inl a : Key) = Sum.inl b) = (a == b) := by
  by_cases e : a = b
  · subst e; simp
  · have h : ¬ (Sum.inl a : Key) = Sum.inl b := fun q => e (Sum.inl.inj q)
    rw [decide_eq_false h]
    exact (beq_eq_false_iff_ne.mpr e).symm
theorem key_rr (a b : Str) : decide ((Sum.inr a : Key) = Sum.inr b) = decide (a = b) := by
  by_cases e : a = b
  · subst e; simp
  · have h : ¬ (Sum.inr a : Key) = Sum.inr b := fun q => e (Sum.inr.inj q)
    rw [decide_eq_false h, decide_eq_false e]
theorem key_lr (a : Int) (b : Str) : decide ((Sum.inl a : Key) = Sum.inr b) = false := decide_eq_false (fun q => nomatch q)
theorem key_rl (a : Str) (b : Int) : decide ((Sum.inr a : Key) = Sum.inl b) = false := decide_eq_false (fun q => nomatch q)

def mixKind (prog : Program) (w : World) : PySem.KeyKind prog w Key where
  is := keyIs
  hash := keyH w
  inj := fun v a b ha hb => by
    rcases keyIs_shape ha with ⟨i, t, rfl, rfl⟩ | ⟨x, t, rfl, rfl⟩
    · rcases keyIs_shape hb with ⟨j, u, rfl, e⟩ | ⟨y, u, rfl, e⟩
      · injection e with e1 _; rw [e1]
      · exact nomatch e
    · rcases keyIs_shape hb with ⟨j, u, rfl, e⟩ | ⟨y, u, rfl, e⟩
      · exact nomatch e
      · injection e with e1 _; rw [e1]
  byValue := fun k v h => by
    rcases keyIs_shape h with ⟨i, t, rfl, rfl⟩ | ⟨x, t, rfl, rfl⟩ <;> rfl
  pyHash := fun hv h => by
    rcases keyIs_shape hv with ⟨i, t, rfl, rfl⟩ | ⟨x, t, rfl, rfl⟩
    · exact wpAny_pyHash_int h
    · exact wpAny_pyHash_str h
  eqBool := fun hu hv h => by
    rcases keyIs_shape hu with ⟨i, t, rfl, rfl⟩ | ⟨x, t, rfl, rfl⟩
    · rcases keyIs_shape hv with ⟨j, u, rfl, rfl⟩ | ⟨y, u, rfl, rfl⟩
      · rw [key_ll] at h; exact wpAny_eqBool_int h
      · rw [key_lr] at h; exact SeqAt.EqAt.int_str i t y u _ _ _ _ h
    · rcases keyIs_shape hv with ⟨j, u, rfl, rfl⟩ | ⟨y, u, rfl, rfl⟩
      · rw [key_rl] at h; exact SeqAt.EqAt.str_int x t j u _ _ _ _ h
      · rw [key_rr] at h; exact wpAny_eqBool_str h
  «strs» := fun k x t v h => by
    rcases keyIs_shape h with ⟨i, u, rfl, e⟩ | ⟨y, u, rfl, e⟩
    · exact nomatch e
    · injection e with e1 _
      subst e1
      cases v <;> rfl

theorem mixKind_int (prog : Program) (w : World) (i : Int) (t : Tok) : (mixKind prog w).is (.inl i) (.int i t) = true := keyIs_int i t
theorem mixKind_str (prog : Program) (w : World) (x : Str) (t : Tok) : (mixKind prog w).is (.inr x) (.str x t) = true := keyIs_str x t
end L2

namespace L2
open PySem PySem.Spec PyProof.Rows

/-- a value, without the heap -/
inductive V where
  | non | bl (b : Bool) | int (i : Int) | str (x : Str) | byt (b : Array UInt8) | flt (b : UInt64) | ref (a : Addr) | ty (n : String)
  deriving DecidableEq

def RelV : V → Value → Prop
  | .non, u => u = Value.none
  | .bl b, u => u = Value.bool b
  | .int i, u => ∃ t, u = Value.int i t
  | .str x, u => ∃ t, u = Value.str x t
  | .byt b, u => ∃ t, u = Value.bytes b t
  | .flt b, u => ∃ t, u = Value.float b t
  | .ref a, u => u = Value.ref a
  | .ty n, u => u = Value.type n

abbrev Vals : List V → List Value → Prop := Paired RelV
theorem Vals.length {xs : List V} {us : List Value} (r : Vals xs us) : xs.length = us.length := Paired.length r
theorem Vals.get : ∀ {xs : List V} {us : List Value} {i : Nat} {x : V}, Vals xs us → xs[i]? = some x → ∃ u, us[i]? = some u ∧ RelV x u
  | _, _, _, _, .nil, e => by simp at e
  | _, _, 0, _, .cons r _, e => by simp at e; subst e; exact ⟨_, rfl, r⟩
  | _, _, i + 1, x, .cons _ t, e => by
    obtain ⟨u, h1, h2⟩ := Vals.get (i := i) (x := x) t (by simpa using e)
    exact ⟨u, by simpa using h1, h2⟩
theorem Vals.append : ∀ {xs ys : List V} {us ws : List Value}, Vals xs us → Vals ys ws → Vals (xs ++ ys) (us ++ ws)
  | _, _, _, _, .nil, s => s
  | _, _, _, _, .cons r t, s => .cons r (Vals.append t s)
def RelO : Option V → Option Value → Prop
  | some v, some u => RelV v u
  | none, none => True
  | _, _ => False
def KV {κ : Type} : List (κ × V) → List (κ × Value) → Prop := Paired fun (p : κ × V) (q : κ × Value) => p.1 = q.1 ∧ RelV p.2 q.2

/-- a key of a dict (00_mix): an int or a text -/
def kV : Key → V
  | .inl i => .int i
  | .inr x => .str x

/-- what stands at a tracked address -/
inductive HO where
  /-- a list -/
  | lst (xs : List V)
  /-- a tuple (never changes) -/
  | tup (xs : List V)
  /-- a dict whose keys are ints and texts; one whose keys are tuples of ints and texts (the empty one is both) -/
  | dK (kvs : List (Key × V)) | dT (kvs : List (List Key × V))
  /-- a set of ints: its members, its size -/
  | set (S : Int → Bool) (n : Nat)
  /-- an instance of the class at C, its dict at dx, its attributes -/
  | ins (C dx : Addr) (fs : List (Str × V))
  /-- the dict of the instance at x -/
  | own (x : Addr)
  /-- the dict of an exception -/
  | xd (fs : List (Str × V))
  /-- a bound method, f of x -/
  | met (f x : Addr)
  /-- a range object lo, lo + 1, .. below hi -/
  | rng (lo hi : Int)
  /-- a thing that is known to the object (the script; a dict while a loop walks it): read, never written while it is so -/
  | frz (o : Obj) (u : HO)
  /-- a code object's table -/
  | tbl (ps : Array Value)
  /-- any other thing, by what is true of its one object (a def of one's own: SetO a S n := HO.ext fun h => ..) -/
  | ext (φ : Heap → Prop)

abbrev Hp := Addr → Option HO
def upd (H : Hp) (a : Addr) (o : HO) : Hp := fun b => if b = a then some o else H b
theorem upd_same {H : Hp} {a : Addr} {o : HO} : upd H a o a = some o := by unfold upd; rw [if_pos rfl]
theorem upd_ne {H : Hp} {a b : Addr} {o : HO} (h : b ≠ a) : upd H a o b = H b := by unfold upd; rw [if_neg h]
theorem upd_upd {H : Hp} {a : Addr} {o u : HO} : upd (upd H a o) a u = upd H a u := by
  funext b; unfold upd; split <;> rfl
/-- two objects of different content stand apart -/
theorem ne_of {H : Hp} {a b : Addr} {o u : HO} (h : H a = some o) (h' : H b = some u) (d : o ≠ u) : a ≠ b := by
  intro e; subst e; rw [h] at h'; exact d (Option.some.inj h')
theorem ne_of_none {H : Hp} {a b : Addr} {o : HO} (h : H a = some o) (h' : H b = none) : a ≠ b := by
  intro e; subst e; rw [h] at h'; cases h'

section
variable (P : Program) (w : World)
def ObjOk (H : Hp) (h : Heap) (a : Addr) : HO → Prop
  | .lst xs => xs.length ≤ sizeLine ∧ ∃ (its : List Value) (n : Nat), Vals xs its ∧ h.get? a = some { cls := .type "list", data := .seq its.toArray n }
  | .tup xs => xs.length ≤ sizeLine ∧ ∃ its : List Value, Vals xs its ∧ IsTup h a its.toArray
  | .dK kvs => kvs.length ≤ sizeLine ∧ (a == sysModules) = false ∧ ∃ vs, KV kvs vs ∧ h.DictOf (mixKind P w) a vs
  | .dT kvs => kvs.length ≤ sizeLine ∧ (a == sysModules) = false ∧ ∃ xs : List (List Key × Addr × Value),
      Paired (fun (p : List Key × V) (q : List Key × Addr × Value) => p.1 = q.1 ∧ H q.2.1 = some (.tup (p.1.map kV)) ∧ RelV p.2 q.2.2) kvs xs ∧
      ∃ o es ep, h.get? a = some o ∧ o.ExactDict ∧ o.data = .dict es ep ∧ es.toList = xs.map (entryOfKey (tupleKind (mixKind P w))) ∧ (xs.map (·.1)).Nodup
  | .set S n => h.SetOf (intKind P w) a S n
  | .ins C dx fs => H dx = some (.own a) ∧ fs.length ≤ 1000 ∧ dx ≠ a ∧ h.get? a = some (PySem.W.instObj C dx) ∧
      ∃ mA, h.Ns1 dx mA ∧ (∀ f, RelO (fs.lookup f) (mA f)) ∧ PySem.Within mA (fs.map (·.1))
  | .own _ => ∃ o, h.get? a = some o
  | .xd fs => ∃ mA, h.Ns1 a mA ∧ ∀ f, RelO (fs.lookup f) (mA f)
  | .rng lo hi => ∃ t u v, h.get? a = some { cls := .type "range", data := .fields #[.int lo t, .int hi u, .int 1 v] }
  | .frz o u => h.get? a = some o ∧ ObjOk H h a u
  | .tbl ps => h.get? a = some { cls := .none, data := .fields ps }
  | .met f x => h.get? a = some (PySem.W.methodObj (.ref f) (.ref x))
  | .ext φ => φ h ∧ (∃ o, h.get? a = some o) ∧ ∀ h1 h2 : Heap, φ h1 → (∀ o, h1.get? a = some o → h2.get? a = some o) → φ h2
/-- the abstract heap is held -/
def HOk (H : Hp) (h : Heap) : Prop := ∀ a o, H a = some o → ObjOk P w H h a o
end

section
variable {P : Program} {w : World} {H H' : Hp} {h h' : Heap} {a : Addr} {o : HO}
theorem ObjOk.lt (x : ObjOk P w H h a o) : a < h.objs.size := by
  cases o with
  | lst xs => obtain ⟨_, _, _, _, e⟩ := x; exact Heap.lt_size e
  | tup xs => obtain ⟨_, _, _, p⟩ := x; exact p.lt
  | dK kvs => obtain ⟨_, _, _, _, o, _, _, e, _⟩ := x; exact Heap.lt_size e
  | dT kvs => obtain ⟨_, _, _, _, o, _, _, e, _⟩ := x; exact Heap.lt_size e
  | set S n => obtain ⟨o, _, _, _, e, _⟩ := x; exact Heap.lt_size e
  | ins C dx fs => obtain ⟨_, _, _, e, _⟩ := x; exact Heap.lt_size e
  | own y => obtain ⟨_, e⟩ := x; exact Heap.lt_size e
  | xd fs => obtain ⟨_, ⟨_, _, _, e, _⟩, _⟩ := x; exact Heap.lt_size e
  | rng lo hi => obtain ⟨_, _, _, e⟩ := x; exact Heap.lt_size e
  | frz ob u => obtain ⟨e, _⟩ := x; exact Heap.lt_size e
  | tbl ps => exact Heap.lt_size (show h.get? a = some _ from x)
  | met f y => exact Heap.lt_size (show h.get? a = some _ from x)
  | ext φ => obtain ⟨_, ⟨_, e⟩, _⟩ := x; exact Heap.lt_size e
theorem Paired.mapP {α β : Type} {F G : α → β → Prop} : ∀ {l₁ : List α} {l₂ : List β}, Paired F l₁ l₂ → (∀ a b, F a b → G a b) → Paired G l₁ l₂
  | _, _, .nil, _ => .nil
  | _, _, .cons r t, f => .cons (f _ _ r) (Paired.mapP t f)
/-- what an object's description leans on: its own object, its own dict, the tuples -/
theorem ObjOk.stay (x : ObjOk P w H h a o) (k : ∀ b u, (b = a ∨ H b = some (.own a)) → h.get? b = some u → h'.get? b = some u)
    (ho : ∀ b, H b = some (.own a) → H' b = some (.own a)) (ht : ∀ b xs, H b = some (.tup xs) → H' b = some (.tup xs)) : ObjOk P w H' h' a o := by
  induction o with
  | lst xs => obtain ⟨z, its, n, r, e⟩ := x; exact ⟨z, its, n, r, k _ _ (.inl rfl) e⟩
  | tup xs => obtain ⟨z, its, r, ob, e, c⟩ := x; exact ⟨z, its, r, ob, k _ _ (.inl rfl) e, c⟩
  | dK kvs => obtain ⟨z, y, vs, r, ob, es, ep, e, c⟩ := x; exact ⟨z, y, vs, r, ob, es, ep, k _ _ (.inl rfl) e, c⟩
  | dT kvs =>
    obtain ⟨z, y, xs, r, ob, es, ep, e, c⟩ := x
    exact ⟨z, y, xs, Paired.mapP r fun p q z => ⟨z.1, ht _ _ z.2.1, z.2.2⟩, ob, es, ep, k _ _ (.inl rfl) e, c⟩
  | set S n => obtain ⟨ob, es, ep, t, e, c⟩ := x; exact ⟨ob, es, ep, t, k _ _ (.inl rfl) e, c⟩
  | ins C dx fs =>
    obtain ⟨d, z, ne, e, mA, ⟨od, es, ep, e2, c⟩, r⟩ := x
    exact ⟨ho _ d, z, ne, k _ _ (.inl rfl) e, mA, ⟨od, es, ep, k _ _ (.inr d) e2, c⟩, r⟩
  | own y => obtain ⟨ob, e⟩ := x; exact ⟨ob, k _ _ (.inl rfl) e⟩
  | xd fs => obtain ⟨mA, ⟨od, es, ep, e, c⟩, r⟩ := x; exact ⟨mA, ⟨od, es, ep, k _ _ (.inl rfl) e, c⟩, r⟩
  | rng lo hi => obtain ⟨t, u, v, e⟩ := x; exact ⟨t, u, v, k _ _ (.inl rfl) e⟩
  | frz ob u ih => obtain ⟨e, q⟩ := x; exact ⟨k _ _ (.inl rfl) e, ih q⟩
  | tbl ps =>
    have e : h.get? a = some { cls := .none, data := .fields ps } := x
    show h'.get? a = some { cls := .none, data := .fields ps }
    exact k a _ (.inl rfl) e
  | met f y =>
    have e : h.get? a = some (PySem.W.methodObj (.ref f) (.ref y)) := x
    show h'.get? a = some (PySem.W.methodObj (.ref f) (.ref y))
    exact k a _ (.inl rfl) e
  | ext φ => obtain ⟨p, ⟨o, e⟩, st⟩ := x; exact ⟨st _ _ p fun o q => k _ _ (.inl rfl) q, ⟨o, k _ _ (.inl rfl) e⟩, st⟩
theorem HOk.lt (x : HOk P w H h) (e : H a = some o) : a < h.objs.size := (x a o e).lt
theorem HOk.fresh (x : HOk P w H h) (e : h.objs.size ≤ a) : H a = none := by
  cases q : H a with
  | none => rfl
  | some u => exact absurd (Nat.lt_of_lt_of_le (x.lt q) e) (Nat.lt_irrefl _)
/-- every object of the heap is kept -/
theorem HOk.kept (x : HOk P w H h) (k : ∀ b u, h.get? b = some u → h'.get? b = some u) : HOk P w H h' := fun a o e =>
  (x a o e).stay (fun b u _ q => k b u q) (fun _ q => q) fun _ _ q => q
/-- a new object is laid and tracked -/
theorem HOk.laid (x : HOk P w H h) (k : ∀ b u, h.get? b = some u → h'.get? b = some u) (hp : h.objs.size ≤ a) (new : ObjOk P w (upd H a o) h' a o) : HOk P w (upd H a o) h' := fun b u e => by
  have hn := x.fresh hp
  by_cases hb : b = a
  · subst hb; rw [upd_same] at e; cases e; exact new
  · rw [upd_ne hb] at e
    exact (x b u e).stay (fun c v _ q => k c v q) (fun c q => by rw [upd_ne (ne_of_none q hn)]; exact q) fun c xs q => by rw [upd_ne (ne_of_none q hn)]; exact q
end

/-- what may be read as u: it is u, or a known u -/
def Rd (H : Hp) (a : Addr) (u : HO) : Prop := H a = some u ∨ ∃ o, H a = some (.frz o u)
theorem Rd.ok {P : Program} {w : World} {H : Hp} {h : Heap} {a : Addr} {u : HO} (r : Rd H a u) (x : HOk P w H h) : ObjOk P w H h a u := by
  rcases r with r | ⟨o, r⟩
  · exact x a u r
  · obtain ⟨_, q⟩ := x a _ r
    exact q
/-- what may be written -/
def Mut : Option HO → Prop
  | some (.lst _) => True
  | some (.dK _) => True
  | some (.dT _) => True
  | some (.set _ _) => True
  | some (.ins _ _ _) => True
  | some (.ext _) => True
  | _ => False
section
variable {P : Program} {w : World} {H : Hp} {h h' : Heap} {x e : Addr} {o' : HO}
/-- the object at e is changed: x itself, or the dict of the instance x -/
theorem HOk.write (ok : HOk P w H h) (mu : Mut (H x)) (he : e = x ∨ H e = some (.own x)) (k : ∀ b u, b ≠ e → h.get? b = some u → h'.get? b = some u) (heo : ∃ u, h'.get? e = some u)
    (new : ObjOk P w (upd H x o') h' x o') : HOk P w (upd H x o') h' := fun b u q => by
  have nown : ∀ c y, H c = some (.own y) → c ≠ x := fun c y r z => by subst z; rw [r] at mu; exact mu
  have ntup : ∀ c xs, H c = some (.tup xs) → c ≠ x := fun c xs r z => by subst z; rw [r] at mu; exact mu
  by_cases hb : b = x
  · subst hb; rw [upd_same] at q; cases q; exact new
  · rw [upd_ne hb] at q
    by_cases hbe : b = e
    · have q' : H b = some (.own x) := by
        rcases he with z | z
        · exact absurd (hbe.trans z) hb
        · rw [hbe]; exact z
      rw [q] at q'; cases q'
      obtain ⟨v, hv⟩ := heo
      exact ⟨v, by rw [hbe]; exact hv⟩
    · refine (ok b u q).stay (fun c v hc r => k c v ?_ r) (fun c r => by rw [upd_ne (nown c b r)]; exact r) fun c xs r => by rw [upd_ne (ntup c xs r)]; exact r
      rcases hc with rfl | hc
      · exact hbe
      · rintro rfl
        rcases he with z | z
        · exact nown c b hc z
        · rw [hc] at z; cases z; exact hb rfl
end

/-! ### kept unless tracked; of the frames at fs (the callers') the slots may change (an exception that passes writes there); of the records at ex (iterators) nothing is said -/
structure Un (fs ex : List Addr) (H H' : Hp) (h h' : Heap) : Prop where
  keep : ∀ b o, h.get? b = some o → H b = none → b ∉ fs → b ∉ ex → h'.get? b = some o
  slot : ∀ b o, h.get? b = some o → H b = none → b ∈ fs → b ∉ ex → ∃ sl, h'.get? b = some { o with slots := sl }
  free : ∀ b o, h.get? b = some o → H b = none → b ∉ ex → H' b = none
  there : ∀ b o, h.get? b = some o → b ∉ ex → ∃ o', h'.get? b = some o'
  tups : ∀ b xs, H b = some (.tup xs) → H' b = some (.tup xs)
  frzs : ∀ b o u, H b = some (.frz o u) → H' b = some (.frz o u)
  tbls : ∀ b ps, H b = some (.tbl ps) → ∃ more, H' b = some (.tbl (ps ++ more))
section
variable {fs fs' ex ex' : List Addr} {H H1 H2 : Hp} {h h1 h2 h' : Heap} {a x e : Addr} {o : HO}
theorem Un.any (u : Un fs ex H H1 h h1) {b : Addr} {ob : Obj} (q : h.get? b = some ob) (n : H b = none) (hx : b ∉ ex) : ∃ sl, h1.get? b = some { ob with slots := sl } := by
  by_cases hb : b ∈ fs
  · exact u.slot b ob q n hb hx
  · exact ⟨ob.slots, u.keep b ob q n hb hx⟩
theorem Un.trans (a : Un fs ex H H1 h h1) (b : Un fs ex H1 H2 h1 h2) : Un fs ex H H2 h h2 where
  keep := fun c ob q n hc hx => b.keep c ob (a.keep c ob q n hc hx) (a.free c ob q n hx) hc hx
  slot := fun c ob q n hc hx => by
    obtain ⟨sl, e1⟩ := a.slot c ob q n hc hx
    obtain ⟨sl', e2⟩ := b.slot c _ e1 (a.free c ob q n hx) hc hx
    exact ⟨sl', e2⟩
  free := fun c ob q n hx => by
    obtain ⟨o', e1⟩ := a.there c ob q hx
    exact b.free c o' e1 (a.free c ob q n hx) hx
  there := fun c ob q hx => by
    obtain ⟨o', e1⟩ := a.there c ob q hx
    exact b.there c o' e1 hx
  tups := fun c xs q => b.tups c xs (a.tups c xs q)
  frzs := fun c ob xs q => b.frzs c ob xs (a.frzs c ob xs q)
  tbls := fun c ps q => by
    obtain ⟨m1, e1⟩ := a.tbls c ps q
    obtain ⟨m2, e2⟩ := b.tbls c _ e1
    exact ⟨m1 ++ m2, by rw [e2, Array.append_assoc]⟩
theorem Un.kept (k : ∀ b u, h.get? b = some u → h'.get? b = some u) : Un fs ex H H h h' :=
  ⟨fun b ob q _ _ _ => k b ob q, fun b ob q _ _ _ => ⟨ob.slots, k b ob q⟩, fun _ _ _ n _ => n, fun b ob q _ => ⟨ob, k b ob q⟩, fun _ _ q => q, fun _ _ _ q => q, fun _ ps q => ⟨#[], by rw [q]; simp⟩⟩
theorem Un.refl : Un fs ex H H h h := Un.kept fun _ _ q => q
theorem Un.laid (k : ∀ b u, h.get? b = some u → h'.get? b = some u) (hp : h.objs.size ≤ a) (hn : H a = none) : Un fs ex H (upd H a o) h h' where
  keep := fun b u q _ _ _ => k b u q
  slot := fun b u q _ _ _ => ⟨u.slots, k b u q⟩
  free := fun b u q n _ => by rw [upd_ne (Nat.ne_of_lt (Nat.lt_of_lt_of_le (Heap.lt_size q) hp))]; exact n
  there := fun b u q _ => ⟨u, k b u q⟩
  tups := fun b xs q => by rw [upd_ne (ne_of_none q hn)]; exact q
  frzs := fun b u xs q => by rw [upd_ne (ne_of_none q hn)]; exact q
  tbls := fun b ps q => ⟨#[], by rw [upd_ne (ne_of_none q hn), q]; simp⟩
theorem Un.write (mu : Mut (H x)) (he : e = x ∨ H e = some (.own x)) (k : ∀ b u, b ≠ e → h.get? b = some u → h'.get? b = some u) (heo : ∃ u, h'.get? e = some u) : Un fs ex H (upd H x o) h h' := by
  have hx : ∀ b, H b = none → b ≠ x := fun b n z => by subst z; rw [n] at mu; exact mu
  have hb : ∀ b, H b = none → b ≠ e := fun b n z => by
    subst z
    rcases he with r | r
    · exact hx b n r
    · rw [n] at r; cases r
  have hm : ∀ b u, H b = some u → ¬ Mut (some u) → b ≠ x := fun b u q nm z => by subst z; rw [q] at mu; exact nm mu
  refine ⟨fun b u q n _ _ => k b u (hb b n) q, fun b u q n _ _ => ⟨u.slots, k b u (hb b n) q⟩, fun b u q n _ => by rw [upd_ne (hx b n)]; exact n, fun b u q _ => ?_,
    fun b xs q => by rw [upd_ne (hm b _ q fun z => z)]; exact q, fun b u xs q => by rw [upd_ne (hm b _ q fun z => z)]; exact q, fun b ps q => ⟨#[], by rw [upd_ne (hm b _ q fun z => z), q]; simp⟩⟩
  by_cases hbe : b = e
  · subst hbe; exact heo
  · exact ⟨u, k b u hbe q⟩
end

/-! ### the heap without what is tracked -/
def trk (h : Heap) (H : Hp) : List Addr := (List.range h.objs.size).filter fun a => (H a).isSome
def hidT (h : Heap) (H : Hp) : Heap := PySem.W.hideAll h (trk h H)
theorem hidT_size (h : Heap) (H : Hp) : (hidT h H).objs.size = h.objs.size := PySem.W.hideAll_size _ _
theorem hidT_get {h : Heap} {H : Hp} {b : Addr} {o : Obj} (e : h.get? b = some o) (n : H b = none) : (hidT h H).get? b = some o :=
  PySem.W.hideAll_get _ e fun hm => by
    have q : (H b).isSome = true := (List.mem_filter.mp hm).2
    rw [n] at q; simp at q
theorem of_hidT {h : Heap} {H : Hp} {b : Addr} {o : Obj} (e : (hidT h H).get? b = some o) : h.get? b = some o ∧ H b = none := by
  have e' : h.get? b = some o := PySem.W.of_hideAll (trk h H) e
  refine ⟨e', ?_⟩
  cases q : H b with
  | none => rfl
  | some x =>
    have hm : b ∈ trk h H := List.mem_filter.mpr ⟨List.mem_range.mpr (Heap.lt_size e'), by simp [q]⟩
    have z : (hidT h H).get? b = none := PySem.W.hideAll_none (trk h H) hm
    rw [z] at e; cases e

/-! ### OpenK's ledger, filled with every new object but one -/
def allNews (g h : Heap) (L : Addr) : List (Addr × Obj) := (List.range h.objs.size).filterMap fun a => if a = L ∨ (g.get? a).isSome = true then none else (h.get? a).map fun o => (a, o)
theorem mem_allNews {g h : Heap} {L a : Addr} {o : Obj} (h1 : a ≠ L) (h2 : g.get? a = none) (h3 : h.get? a = some o) : (a, o) ∈ allNews g h L :=
  List.mem_filterMap.mpr ⟨a, List.mem_range.mpr (Heap.lt_size h3), by simp [h1, h2, h3]⟩
theorem of_mem_allNews {g h : Heap} {L : Addr} {p : Addr × Obj} (hp : p ∈ allNews g h L) : p.1 ≠ L ∧ g.get? p.1 = none ∧ h.get? p.1 = some p.2 := by
  obtain ⟨b, _, e⟩ := List.mem_filterMap.mp hp
  split at e
  · cases e
  · rename_i hn
    cases q : h.get? b with
    | none => rw [q] at e; simp at e
    | some u =>
      rw [q] at e
      simp only [Option.map_some, Option.some.injEq] at e
      subst e
      refine ⟨fun z => hn (.inl z), ?_, q⟩
      show g.get? b = none
      cases r : g.get? b with
      | none => rfl
      | some v => exact (hn (.inr (by simp [r]))).elim
def rest (g h : Heap) (L d : Addr) : List (Addr × Obj) := (allNews g h L).filter fun p => decide (p.1 ≠ d)
theorem news_all {g h : Heap} {L : Addr} : News g L h (allNews g h L) := fun p hp => let ⟨a, b, c⟩ := of_mem_allNews hp; ⟨c, a, b⟩
end L2

namespace L2
open PySem PySem.Spec PyProof.Rows

/-- the module's facts, over the base: the heap at the law's entry without what is tracked there -/
structure Mod (K : PySem.W.Frag) (mg : Str → Option Value) (base : Heap) : Prop where
  kin : K.In base
  glob : base.Ns mainGlobals mg
  blt : ∃ mb, base.Ns builtinsNs mb ∧ ∀ x : Str, x ≠ "__name__" → mb x = bootBuiltins x
  nolimit : base.NoLimit

/-- the context: a def's body (or a comprehension's block) running. base: fixed through the whole law; s₀, H₀: the entry; outer: the frames whose slots others may change (a def's callers); stack: all frames that run;
   ex: iterators that were made ahead of the entry and are walked here (a comprehension's); fn: the names whose cells were made at the entry (a def: all; a comprehension's block: its own); calm: not within an except suite; pn: pins that every state bears; xe: what is wanted of an exception that leaves the code -/
structure Cx where
  prog : Program
  w : World
  K : PySem.W.Frag
  mg : Str → Option Value
  base : Heap
  A : Around
  N : List Str
  s₀ : Shared
  H₀ : Hp
  env : Env
  outer : List Env
  stack : List Env
  ex : List Addr
  fn : Str → Bool
  calm : Bool
  pn : List (Addr × Obj)
  xe : Value → Shared → Prop
/-- the callers' frames -/
def frs (l : List Env) : List Addr := l.filterMap (·.frame)
abbrev Cx.fs (X : Cx) : List Addr := frs X.outer

def Vis (sc : Scope) (x : Str) : Prop := sc.names.lookup x = some .local ∨ sc.names.lookup x = some .cell ∨ sc.names.lookup x = some .free
def Loc (sc : Scope) (x : Str) : Prop := sc.names.lookup x = some .local ∨ sc.names.lookup x = some .cell
def Look (env : Env) (h : Heap) (m : Str → Option Value) (x : Str) (u : Value) : Prop :=
  (env.kindOf x = some .local ∧ m x = some u) ∨ ((env.kindOf x = some .cell ∨ env.kindOf x = some .free) ∧ ∃ c, env.cells.lookup x = some c ∧ h.IsCell c (some u))

structure Cx.Ok (X : Cx) : Prop where
  mod : Mod X.K X.mg X.base
  kind : X.env.scope.kind = .function
  glob : X.env.globals = mainGlobals
  blt : X.env.builtins = builtinsNs
  above : X.s₀.heap.objs.size ≤ X.env.locals
  inj : ∀ x y c, X.env.cells.lookup x = some c → X.env.cells.lookup y = some c → x = y
  has : ∀ x, (X.env.kindOf x = some .cell ∨ X.env.kindOf x = some .free) → ∃ c, X.env.cells.lookup x = some c
  cab : ∀ x c, X.fn x = true → X.env.cells.lookup x = some c → X.s₀.heap.objs.size ≤ c
  hd : X.calm = true → X.A.handled = none
  frames : X.A.frames = some X.stack
  stk : X.stack = X.outer ∨ (X.stack = X.env :: X.outer ∧ X.env.frame = some X.env.locals)
  exf : ∀ b ∈ X.ex, b ≠ X.env.locals ∧ ∀ x c, X.env.cells.lookup x = some c → c ≠ b
  bs : ∀ b o, X.base.get? b = some o → X.s₀.heap.get? b = some o ∧ X.H₀ b = none
  bsz : X.base.objs.size ≤ X.s₀.heap.objs.size
  noex : ∀ b o, X.base.get? b = some o → b ∉ X.ex
  exfs : ∀ b ∈ X.ex, b ∉ X.fs
  funs : X.s₀.heap.FunFrames X.base X.outer
  frf : ∀ b ∈ X.fs, X.H₀ b = none

structure Inv (X : Cx) (pins : List (Addr × Obj)) (σ : List (Option V)) (H : Hp) (s : Shared) : Prop where
  ok : X.Ok
  os : s.os = X.s₀.os
  bare : AllBare s.gens
  base : Un X.fs X.ex X.H₀ H X.s₀.heap s.heap
  loc : ∃ m, s.heap.Ns X.env.locals m ∧ ∀ (i : Nat) (x : Str) (v : V), X.N[i]? = some x → σ[i]? = some (some v) → Vis X.env.scope x → ∃ u, RelV v u ∧ Look X.env s.heap m x u
  cell : ∀ x c, X.env.cells.lookup x = some c → ∃ v, s.heap.IsCell c v
  free : H X.env.locals = none
  freeC : ∀ x c, X.env.cells.lookup x = some c → H c = none
  pin : ∀ p ∈ X.pn ++ pins, s.heap.get? p.1 = some p.2 ∧ H p.1 = none ∧ p.1 ≠ X.env.locals ∧ p.1 ∉ X.fs ∧ ∀ v, p.2.data ≠ .cell v
  hok : HOk X.prog X.w H s.heap
  len : σ.length = X.N.length

section
variable {X : Cx} {pins : List (Addr × Obj)} {σ : List (Option V)} {H H' : Hp} {s : Shared} {h' : Heap}

theorem Cx.Ok.nofr (ok : X.Ok) {b : Addr} {o : Obj} (e : X.base.get? b = some o) : b ∉ X.fs := fun hb => by
  have := (ok.funs.mem hb).1
  rw [e] at this; cases this
theorem Inv.bs (I : Inv X pins σ H s) : ∀ b o, X.base.get? b = some o → s.heap.get? b = some o ∧ H b = none := fun b o e =>
  ⟨I.base.keep b o (I.ok.bs b o e).1 (I.ok.bs b o e).2 (I.ok.nofr e) (I.ok.noex b o e), I.base.free b o (I.ok.bs b o e).1 (I.ok.bs b o e).2 (I.ok.noex b o e)⟩
theorem Inv.bk (I : Inv X pins σ H s) : ∀ b o, X.base.get? b = some o → s.heap.get? b = some o := fun b o e => (I.bs b o e).1
theorem Inv.mod (I : Inv X pins σ H s) : Mod X.K X.mg X.base := I.ok.mod
theorem Inv.kIn (I : Inv X pins σ H s) : X.K.In s.heap := I.ok.mod.kin.keeps I.bk
/-- the frame over the base: for OpenK's rules (K.In X.base is I.mod.kin) -/
theorem Inv.fr (I : Inv X pins σ H s) : ∃ m, Fr X.base X.env.locals s.heap m :=
  let ⟨m, hn, _⟩ := I.loc
  ⟨m, hn, I.bk, Nat.le_trans I.ok.bsz I.ok.above⟩
theorem Inv.lt (I : Inv X pins σ H s) : X.env.locals < s.heap.objs.size := let ⟨_, hn, _⟩ := I.loc; hn.lt
theorem Inv.sz (I : Inv X pins σ H s) : X.s₀.heap.objs.size ≤ s.heap.objs.size := Nat.le_trans I.ok.above (Nat.le_of_lt I.lt)
theorem Inv.nofs (I : Inv X pins σ H s) {a : Addr} (h : s.heap.objs.size ≤ a) : a ∉ X.fs := fun hb => by
  obtain ⟨_, o, ho, _⟩ := I.ok.funs.mem hb
  exact absurd (Nat.lt_of_lt_of_le (Heap.lt_size ho) (Nat.le_trans I.sz h)) (Nat.lt_irrefl _)
theorem Inv.cne (I : Inv X pins σ H s) : ∀ x c, X.env.cells.lookup x = some c → c ≠ X.env.locals := fun x c e z => by
  obtain ⟨v, o, ho, hd⟩ := I.cell x c e
  obtain ⟨m, ⟨o', es, ep, ho', hd', _⟩, _⟩ := I.loc
  rw [z, ho'] at ho; cases ho; rw [hd'] at hd; cases hd
theorem Inv.funs (I : Inv X pins σ H s) : s.heap.FunFrames X.base X.outer := by
  have all : ∀ (l : List Env), (∀ b ∈ frs l, b ∈ X.fs) → X.s₀.heap.FunFrames X.base l → s.heap.FunFrames X.base l := by
    intro l
    induction l with
    | nil => intro _ _; trivial
    | cons env r ih =>
      intro hs hl
      obtain ⟨hk, ⟨L, o, hf, hn, ho, hd⟩, hr⟩ := hl
      have hL : L ∈ X.fs := hs L (by unfold frs; rw [List.filterMap_cons, hf]; exact List.mem_cons_self)
      obtain ⟨sl, e⟩ := I.base.slot L o ho (I.ok.frf L hL) hL fun z => I.ok.exfs L z hL
      exact ⟨hk, ⟨L, _, hf, hn, e, hd⟩, ih (fun b hb => hs b (by unfold frs; rw [List.filterMap_cons, hf]; exact List.mem_cons_of_mem _ hb)) hr⟩
  exact all X.outer (fun _ hb => hb) I.ok.funs

/-- the frames that run, for a call -/
theorem Inv.stack (I : Inv X pins σ H s) : s.heap.FunFrames X.base X.stack := by
  rcases I.ok.stk with e | ⟨e, hf⟩
  · rw [e]; exact I.funs
  · rw [e]
    obtain ⟨m, hn, _⟩ := I.loc
    refine .cons (by rw [I.ok.kind]; decide) hf hn ?_ I.funs
    exact Heap.get?_none_of_le (Nat.le_trans I.ok.bsz I.ok.above)
theorem Inv.stkSub (I : Inv X pins σ H s) : ∀ b ∈ frs X.stack, b ∈ X.env.locals :: X.fs := fun b hb => by
  rcases I.ok.stk with e | ⟨e, hf⟩
  · rw [e] at hb; exact List.mem_cons_of_mem _ hb
  · rw [e] at hb
    unfold frs at hb
    rw [List.filterMap_cons, hf] at hb
    exact hb
theorem Inv.stkFree (I : Inv X pins σ H s) : ∀ b ∈ frs X.stack, H b = none := fun b hb => by
  rcases List.mem_cons.mp (I.stkSub b hb) with e | hb
  · rw [e]; exact I.free
  · obtain ⟨_, o, ho, _⟩ := I.ok.funs.mem hb
    exact I.base.free b o ho (I.ok.frf b hb) fun z => I.ok.exfs b z hb

/-- THE STEP: the untracked objects but the frame and the records at ch are kept (the callers' frames up to slots), the frame's map is kept, the new abstract heap is held -/
theorem Inv.step {g' : Array GenState} {t' : Nat} {d' : Drawn} {ch : List Addr} (I : Inv X pins σ H s)
    (hch : ∀ b ∈ ch, (b ∈ X.ex ∨ X.s₀.heap.objs.size ≤ b) ∧ b ≠ X.env.locals ∧ (∀ x c, X.env.cells.lookup x = some c → c ≠ b) ∧ ∀ p ∈ X.pn ++ pins, p.1 ≠ b)
    (keep : ∀ b o, b ≠ X.env.locals → b ∉ X.fs → b ∉ ch → s.heap.get? b = some o → H b = none → h'.get? b = some o)
    (slot : ∀ b o, b ≠ X.env.locals → b ∈ X.fs → b ∉ ch → s.heap.get? b = some o → H b = none → ∃ sl, h'.get? b = some { o with slots := sl }) (free : ∀ b o, b ∉ ch → s.heap.get? b = some o → H b = none → H' b = none)
    (there : ∀ b o, b ∉ ch → s.heap.get? b = some o → ∃ o', h'.get? b = some o')
    (tups : ∀ b xs, H b = some (.tup xs) → H' b = some (.tup xs)) (frzs : ∀ b o u, H b = some (.frz o u) → H' b = some (.frz o u)) (tbls : ∀ b ps, H b = some (.tbl ps) → ∃ more, H' b = some (.tbl (ps ++ more)))
    (ns : ∀ m, s.heap.Ns X.env.locals m → h'.Ns X.env.locals m) (hok : HOk X.prog X.w H' h') (hg : AllBare g') :
    Inv X pins σ H' { s with heap := h', gens := g', drawn := d', toks := t' } := by
  have neL : ∀ b o, X.s₀.heap.get? b = some o → b ≠ X.env.locals := fun b o e => Nat.ne_of_lt (Nat.lt_of_lt_of_le (Heap.lt_size e) I.ok.above)
  have neC : ∀ b o, X.s₀.heap.get? b = some o → b ∉ X.ex → b ∉ ch := fun b o e hx hb => by
    rcases (hch b hb).1 with z | z
    · exact hx z
    · exact absurd (Nat.lt_of_lt_of_le (Heap.lt_size e) z) (Nat.lt_irrefl _)
  have cellK : ∀ x c, X.env.cells.lookup x = some c → ∀ v, s.heap.IsCell c v → h'.IsCell c v := fun x c e v ⟨o, ho, hd⟩ => by
    have nch : c ∉ ch := fun z => (hch c z).2.2.1 x c e rfl
    by_cases hc : c ∈ X.fs
    · obtain ⟨sl, q⟩ := slot c o (I.cne x c e) hc nch ho (I.freeC x c e)
      exact ⟨_, q, hd⟩
    · exact ⟨o, keep c o (I.cne x c e) hc nch ho (I.freeC x c e), hd⟩
  refine ⟨I.ok, I.os, hg, ⟨fun b o e n hb hx => ?_, fun b o e n hb hx => ?_, fun b o e n hx => ?_, fun b o e hx => ?_, fun b xs e => tups b xs (I.base.tups b xs e), fun b o xs e => frzs b o xs (I.base.frzs b o xs e), fun b ps e => ?_⟩, ?_, fun x c e => ?_, ?_, fun x c e => ?_, fun p hp => ?_, hok, I.len⟩
  · exact keep b o (neL b o e) hb (neC b o e hx) (I.base.keep b o e n hb hx) (I.base.free b o e n hx)
  · obtain ⟨sl, e1⟩ := I.base.slot b o e n hb hx
    obtain ⟨sl', e2⟩ := slot b _ (neL b o e) hb (neC b o e hx) e1 (I.base.free b o e n hx)
    exact ⟨sl', e2⟩
  · obtain ⟨o', e1⟩ := I.base.there b o e hx
    exact free b o' (neC b o e hx) e1 (I.base.free b o e n hx)
  · obtain ⟨o', e1⟩ := I.base.there b o e hx
    exact there b o' (neC b o e hx) e1
  · obtain ⟨m1, e1⟩ := I.base.tbls b ps e
    obtain ⟨m2, e2⟩ := tbls b _ e1
    exact ⟨m1 ++ m2, by rw [e2, Array.append_assoc]⟩
  · obtain ⟨m, hn, hl⟩ := I.loc
    refine ⟨m, ns m hn, fun i x v e1 e2 e3 => ?_⟩
    obtain ⟨u, r, l⟩ := hl i x v e1 e2 e3
    refine ⟨u, r, ?_⟩
    rcases l with l | ⟨k, c, e, z⟩
    · exact .inl l
    · exact .inr ⟨k, c, e, cellK x c e _ z⟩
  · obtain ⟨v, z⟩ := I.cell x c e
    exact ⟨v, cellK x c e v z⟩
  · obtain ⟨m, ⟨o, _, _, ho, _⟩, _⟩ := I.loc
    exact free _ o (fun z => (hch _ z).2.1 rfl) ho I.free
  · obtain ⟨v, o, ho, hd⟩ := I.cell x c e
    exact free c o (fun z => (hch c z).2.2.1 x c e rfl) ho (I.freeC x c e)
  · obtain ⟨e, n, ne, nf, d⟩ := I.pin p hp
    have nch : p.1 ∉ ch := fun z => (hch p.1 z).2.2.2 p hp rfl
    exact ⟨keep p.1 p.2 ne nf nch e n, free p.1 p.2 nch e n, ne, nf, d⟩
/-- .. where the frame's own object is kept too -/
theorem Inv.un {t' : Nat} (I : Inv X pins σ H s) (u : Un X.fs [] H H' s.heap h') (hok : HOk X.prog X.w H' h') : Inv X pins σ H' { s with heap := h', toks := t' } := by
  obtain ⟨m, ⟨o, es, ep, ho, r⟩, _⟩ := id I.loc
  obtain ⟨sl, hL⟩ := u.any ho I.free (by simp)
  exact I.step (g' := s.gens) (d' := s.drawn) (ch := []) (fun _ z => nomatch z) (fun b o _ hb _ e n => u.keep b o e n hb (by simp)) (fun b o _ hb _ e n => u.slot b o e n hb (by simp)) (fun b o _ e n => u.free b o e n (by simp)) (fun b o _ e => u.there b o e (by simp)) u.tups u.frzs u.tbls (fun m' hm => by
    obtain ⟨o', es', ep', ho', r'⟩ := hm
    rw [ho] at ho'; cases ho'
    exact ⟨_, es', ep', hL, r'⟩) hok I.bare
/-- behind a call (or a comprehension's block): the slots of this frame may have changed too, the records at ch may have turned -/
theorem Inv.call {g' : Array GenState} {t' : Nat} {d' : Drawn} {ch : List Addr} (I : Inv X pins σ H s) (u : Un (frs X.stack) ch H H' s.heap h') (hok : HOk X.prog X.w H' h') (hg : AllBare g')
    (hch : ∀ b ∈ ch, (b ∈ X.ex ∨ X.s₀.heap.objs.size ≤ b) ∧ b ≠ X.env.locals ∧ (∀ x c, X.env.cells.lookup x = some c → c ≠ b) ∧ ∀ p ∈ X.pn ++ pins, p.1 ≠ b) :
    Inv X pins σ H' { s with heap := h', gens := g', drawn := d', toks := t' } := by
  obtain ⟨m, ⟨o, es, ep, ho, r⟩, _⟩ := id I.loc
  obtain ⟨sl, hL⟩ := u.any ho I.free fun z => (hch _ z).2.1 rfl
  exact I.step (ch := ch) hch (fun b o hL hb hc e n => u.keep b o e n (fun z => (List.mem_cons.mp (I.stkSub b z)).elim hL hb) hc) (fun b o _ _ hc e n => u.any e n hc) (fun b o hc e n => u.free b o e n hc) (fun b o hc e => u.there b o e hc) u.tups u.frzs u.tbls (fun m' hm => by
    obtain ⟨o', es', ep', ho', r'⟩ := hm
    rw [ho] at ho'; cases ho'
    exact ⟨_, es', ep', hL, r'⟩) hok hg
/-- an untracked record of ours (an iterator) has turned -/
theorem Inv.turned {t' : Nat} {it : Addr} (I : Inv X pins σ H s) (k : ∀ b o, b ≠ it → s.heap.get? b = some o → h'.get? b = some o) (hn : H it = none) (hL : it ≠ X.env.locals)
    (h1 : it ∈ X.ex ∨ X.s₀.heap.objs.size ≤ it) (h2 : ∀ x c, X.env.cells.lookup x = some c → c ≠ it) (h3 : ∀ p ∈ X.pn ++ pins, p.1 ≠ it) : Inv X pins σ H { s with heap := h', toks := t' } := by
  have nit : ∀ b u, H b = some u → b ≠ it := fun b u e z => by rw [z, hn] at e; cases e
  refine I.step (g' := s.gens) (d' := s.drawn) (ch := [it]) (fun b hb => ?_) (fun b o _ _ hc e _ => k b o (fun z => hc (by simp [z])) e) (fun b o _ _ hc e _ => ⟨o.slots, k b o (fun z => hc (by simp [z])) e⟩) (fun _ _ _ _ n => n)
    (fun b o hc e => ⟨o, k b o (fun z => hc (by simp [z])) e⟩) (fun _ _ e => e) (fun _ _ _ e => e) (fun b ps e => ⟨#[], by rw [e]; simp⟩) (fun m hm => ?_) (fun b u e => ?_) I.bare
  · have e : b = it := by simpa using hb
    subst e
    exact ⟨h1, hL, h2, h3⟩
  · obtain ⟨o, es, ep, ho, r⟩ := hm
    exact ⟨o, es, ep, k _ o (Ne.symm hL) ho, r⟩
  · refine (I.hok b u e).stay (fun c v hc q => k c v ?_ q) (fun _ q => q) fun _ _ q => q
    rcases hc with z | z
    · rw [z]; exact nit b u e
    · exact nit c _ z
theorem Inv.tok (I : Inv X pins σ H s) (t : Nat) : Inv X pins σ H { s with toks := t } := I.un (h' := s.heap) (t' := t) Un.refl I.hok
/-- all objects kept -/
theorem Inv.kept {t' : Nat} (I : Inv X pins σ H s) (k : ∀ b u, s.heap.get? b = some u → h'.get? b = some u) : Inv X pins σ H { s with heap := h', toks := t' } := I.un (Un.kept k) (I.hok.kept k)
/-- a new object laid and tracked -/
theorem Inv.laid {a : Addr} {o : HO} {t' : Nat} (I : Inv X pins σ H s) (k : ∀ b u, s.heap.get? b = some u → h'.get? b = some u) (hp : s.heap.objs.size ≤ a) (new : ObjOk X.prog X.w (upd H a o) h' a o) :
    Inv X pins σ (upd H a o) { s with heap := h', toks := t' } := I.un (Un.laid k hp (I.hok.fresh hp)) (I.hok.laid k hp new)
/-- an object written -/
theorem Inv.write {x e : Addr} {o : HO} {t' : Nat} (I : Inv X pins σ H s) (mu : Mut (H x)) (he : e = x ∨ H e = some (.own x)) (k : ∀ b u, b ≠ e → s.heap.get? b = some u → h'.get? b = some u) (heo : ∃ u, h'.get? e = some u)
    (new : ObjOk X.prog X.w (upd H x o) h' x o) : Inv X pins σ (upd H x o) { s with heap := h', toks := t' } := I.un (Un.write mu he k heo) (I.hok.write mu he k heo new)
theorem Inv.pins_of {pins' : List (Addr × Obj)} (I : Inv X pins σ H s) (h : ∀ p ∈ pins', s.heap.get? p.1 = some p.2 ∧ H p.1 = none ∧ p.1 ≠ X.env.locals ∧ p.1 ∉ X.fs ∧ ∀ v, p.2.data ≠ .cell v) : Inv X pins' σ H s :=
  ⟨I.ok, I.os, I.bare, I.base, I.loc, I.cell, I.free, I.freeC, fun p hp => (List.mem_append.mp hp).elim (fun z => I.pin p (List.mem_append_left _ z)) (h p), I.hok, I.len⟩

theorem nodup_ix {N : List Str} (hN : N.Nodup) {i j : Nat} {x : Str} (a : N[i]? = some x) (b : N[j]? = some x) : i = j := by
  obtain ⟨h1, e1⟩ := List.getElem?_eq_some_iff.mp a
  obtain ⟨h2, e2⟩ := List.getElem?_eq_some_iff.mp b
  exact (List.getElem_inj hN).mp (e1.trans e2.symm)

/-- a name is stored; what changed -/
theorem store_ok2 {M : Model} {A : Around} {E : Value → Shared → Prop} {i : Nat} {x : Str} {v : V} {u : Value} {Q : Unit → Shared → Prop} (I : Inv X pins σ H s) (hN : X.N.Nodup) (hi : X.N[i]? = some x) (hx : Loc X.env.scope x) (r : RelV v u)
    (h : ∀ s', Inv X pins (σ.set i (some v)) H s' → (∃ a, Heap.SameBut a s.heap s'.heap ∧ (a = X.env.locals ∨ X.env.cells.lookup x = some a)) → Q () s') (hf : X.fn x = true ∨ X.env.scope.names.lookup x = some .local := by first | exact .inl rfl | exact .inr rfl | assumption) : wpAny M A (storeName X.env x u) Q E s := by
  obtain ⟨m, hn, hl⟩ := id I.loc
  have hcls : (X.env.scope.kind == .class || (X.env.scope.kind == .module && X.env.locals != X.env.globals)) = false := by rw [I.ok.kind]; rfl
  have hiσ : i < σ.length := by rw [I.len]; exact (List.getElem?_eq_some_iff.mp hi).1
  have cne := I.cne
  have tracked : ∀ {a : Addr} {h' : Heap}, (∃ o, s.heap.get? a = some o ∧ H a = none) → Heap.SameBut a s.heap h' → HOk X.prog X.w H h' := fun {a h'} ha hs b ob e => by
    obtain ⟨_, _, hfree⟩ := ha
    refine (I.hok b ob e).stay (fun c w' hc q => (hs.2 c ?_).trans q) (fun _ q => q) fun _ _ q => q
    rintro rfl
    rcases hc with rfl | hc
    · rw [hfree] at e; cases e
    · rw [hfree] at hc; cases hc
  rcases hx with hk | hk
  · refine wpAny_storeName_local hk hn (fun h' hn' hs => ?_) hcls
    obtain ⟨oL, _, _, hoL, _⟩ := id hn
    refine h _ ⟨I.ok, I.os, I.bare, ⟨fun b o e n hb hx => ?_, fun b o e n hb hx => ?_, I.base.free, fun b o e hx => ?_, I.base.tups, I.base.frzs, I.base.tbls⟩, ⟨_, hn', fun j y v' e1 e2 e3 => ?_⟩, fun y c e => ?_, I.free, I.freeC, fun p hp => ?_, tracked ⟨oL, hoL, I.free⟩ hs, by simpa using I.len⟩ ⟨_, hs, .inl rfl⟩
    · exact (hs.2 b (Nat.ne_of_lt (Nat.lt_of_lt_of_le (Heap.lt_size e) I.ok.above))).trans (I.base.keep b o e n hb hx)
    · obtain ⟨sl, e1⟩ := I.base.slot b o e n hb hx
      exact ⟨sl, (hs.2 b (Nat.ne_of_lt (Nat.lt_of_lt_of_le (Heap.lt_size e) I.ok.above))).trans e1⟩
    · obtain ⟨o', e1⟩ := I.base.there b o e hx
      exact ⟨o', (hs.2 b (Nat.ne_of_lt (Nat.lt_of_lt_of_le (Heap.lt_size e) I.ok.above))).trans e1⟩
    · by_cases hj : j = i
      · subst hj
        rw [hi] at e1; cases e1
        rw [List.getElem?_set_self hiσ] at e2
        cases e2
        exact ⟨u, r, .inl ⟨hk, by simp⟩⟩
      · rw [List.getElem?_set_ne (Ne.symm hj)] at e2
        obtain ⟨u', r', q⟩ := hl j y v' e1 e2 e3
        refine ⟨u', r', ?_⟩
        rcases q with ⟨k, e⟩ | ⟨k, c, e, z⟩
        · refine .inl ⟨k, ?_⟩
          have : y ≠ x := fun e => hj (nodup_ix hN e1 (e ▸ hi))
          simp [this, e]
        · exact .inr ⟨k, c, e, z.sameBut hs (cne y c e)⟩
    · obtain ⟨w', z⟩ := I.cell y c e
      exact ⟨w', z.sameBut hs (cne y c e)⟩
    · obtain ⟨e, n, ne, nf, d⟩ := I.pin p hp
      exact ⟨(hs.2 p.1 ne).trans e, n, ne, nf, d⟩
  · have hfn : X.fn x = true := by
      rcases hf with z | z
      · exact z
      · rw [z] at hk; cases hk
    obtain ⟨c, hc⟩ := I.ok.has x (.inl hk)
    obtain ⟨w', z⟩ := I.cell x c hc
    refine wpAny_storeName_cell I.ok.kind hk hc z (fun h' hc' hs => ?_)
    obtain ⟨oc, hoc, hocd⟩ := id z
    refine h { s with heap := h' } ⟨I.ok, I.os, I.bare, ⟨fun b o e n hb hx => ?_, fun b o e n hb hx => ?_, I.base.free, fun b o e hx => ?_, I.base.tups, I.base.frzs, I.base.tbls⟩, ⟨m, hn.sameBut hs (Ne.symm (cne x c hc)), fun j y v' e1 e2 e3 => ?_⟩, fun y c' e => ?_, I.free, I.freeC, fun p hp => ?_, tracked ⟨oc, hoc, I.freeC x c hc⟩ hs, by simpa using I.len⟩ ⟨c, hs, .inr hc⟩
    · exact (hs.2 b (Nat.ne_of_lt (Nat.lt_of_lt_of_le (Heap.lt_size e) (I.ok.cab x c hfn hc)))).trans (I.base.keep b o e n hb hx)
    · obtain ⟨sl, e1⟩ := I.base.slot b o e n hb hx
      exact ⟨sl, (hs.2 b (Nat.ne_of_lt (Nat.lt_of_lt_of_le (Heap.lt_size e) (I.ok.cab x c hfn hc)))).trans e1⟩
    · obtain ⟨o', e1⟩ := I.base.there b o e hx
      exact ⟨o', (hs.2 b (Nat.ne_of_lt (Nat.lt_of_lt_of_le (Heap.lt_size e) (I.ok.cab x c hfn hc)))).trans e1⟩
    · by_cases hj : j = i
      · subst hj
        rw [hi] at e1; cases e1
        rw [List.getElem?_set_self hiσ] at e2
        cases e2
        exact ⟨u, r, .inr ⟨.inl hk, c, hc, hc'⟩⟩
      · rw [List.getElem?_set_ne (Ne.symm hj)] at e2
        obtain ⟨u', r', q⟩ := hl j y v' e1 e2 e3
        refine ⟨u', r', ?_⟩
        rcases q with q | ⟨k, c', e, z'⟩
        · exact .inl q
        · refine .inr ⟨k, c', e, z'.sameBut hs ?_⟩
          rintro rfl
          exact hj (nodup_ix hN e1 (I.ok.inj _ _ _ e hc ▸ hi))
    · by_cases hcc : c' = c
      · subst hcc; exact ⟨_, hc'⟩
      · obtain ⟨w2, z2⟩ := I.cell y c' e
        exact ⟨w2, z2.sameBut hs hcc⟩
    · obtain ⟨e, n, ne, nf, d⟩ := I.pin p hp
      refine ⟨(hs.2 p.1 ?_).trans e, n, ne, nf, d⟩
      intro q
      rw [q, hoc] at e
      have q' : oc = p.2 := Option.some.inj e
      exact d w' (by rw [← q']; exact hocd)
theorem store_ok {M : Model} {A : Around} {E : Value → Shared → Prop} {i : Nat} {x : Str} {v : V} {u : Value} {Q : Unit → Shared → Prop} (I : Inv X pins σ H s) (hN : X.N.Nodup) (hi : X.N[i]? = some x) (hx : Loc X.env.scope x) (r : RelV v u)
    (h : ∀ s', Inv X pins (σ.set i (some v)) H s' → Q () s') (hf : X.fn x = true ∨ X.env.scope.names.lookup x = some .local := by first | exact .inl rfl | exact .inr rfl | assumption) : wpAny M A (storeName X.env x u) Q E s :=
  store_ok2 I hN hi hx r (fun s' I' _ => h s' I') hf
/-- behind a call or a block, the state as it is -/
theorem Inv.call' {s' : Shared} {ch : List Addr} (I : Inv X pins σ H s) (ho : s'.os = s.os) (u : Un (frs X.stack) ch H H' s.heap s'.heap) (hok : HOk X.prog X.w H' s'.heap) (hg : AllBare s'.gens)
    (hch : ∀ b ∈ ch, (b ∈ X.ex ∨ X.s₀.heap.objs.size ≤ b) ∧ b ≠ X.env.locals ∧ (∀ x c, X.env.cells.lookup x = some c → c ≠ b) ∧ ∀ p ∈ X.pn ++ pins, p.1 ≠ b) : Inv X pins σ H' s' := by
  obtain ⟨h', g', d', t', o'⟩ := s'
  have e : o' = s.os := ho
  subst e
  exact I.call (g' := g') (t' := t') (d' := d') u hok hg hch
end

/-! ### the judgements -/
/-- an exception: its class, its own dict's address (where it has one), the abstract heap behind it -/
abbrev XK := Value → Option Addr → Hp → Prop
abbrev St := List (Option V)
abbrev VK := V → Hp → Prop
/-- an expression's reading; a test's; an argument list's -/
abbrev TE := St → Hp → VK → Prop
abbrev TT := St → Hp → (Bool → Hp → Prop) → Prop
abbrev TA := St → Hp → (List V → Hp → Prop) → Prop
/-- what is wanted behind a statement -/
structure Ends where
  nx : St → Hp → Prop
  rt : VK
  bk : St → Hp → Prop := fun _ _ => False
  ct : St → Hp → Prop := fun _ _ => False
abbrev TS := Ends → St → Hp → Prop

def EP (X : Cx) (pins : List (Addr × Obj)) (σ : St) (Q : VK) (u : Value) (s' : Shared) : Prop := ∃ v H', Inv X pins σ H' s' ∧ RelV v u ∧ Q v H'
def TP (X : Cx) (pins : List (Addr × Obj)) (σ : St) (Q : Bool → Hp → Prop) (b : Bool) (s' : Shared) : Prop := ∃ H', Inv X pins σ H' s' ∧ Q b H'
def AP (X : Cx) (pins : List (Addr × Obj)) (σ : St) (Q : List V → Hp → Prop) (us : List Value) (s' : Shared) : Prop := ∃ vs H', Inv X pins σ H' s' ∧ Vals vs us ∧ Q vs H'
def SP (X : Cx) (pins : List (Addr × Obj)) (D : Ends) (f : Flow) (s' : Shared) : Prop :=
  match f with
  | .next => ∃ σ' H', Inv X pins σ' H' s' ∧ D.nx σ' H'
  | .brk => ∃ σ' H', Inv X pins σ' H' s' ∧ D.bk σ' H'
  | .cont => ∃ σ' H', Inv X pins σ' H' s' ∧ D.ct σ' H'
  | .ret u => ∃ v σ' H', Inv X pins σ' H' s' ∧ RelV v u ∧ D.rt v H'

def PE (X : Cx) (e : Expr) (t : TE) : Prop :=
  ∀ (pins : List (Addr × Obj)) (s : Shared) (σ : St) (H : Hp) (Q : VK), Inv X pins σ H s → t σ H Q → wpAny (model X.prog X.w) X.A (eval e X.env) (EP X pins σ Q) X.xe s
def PT (X : Cx) (e : Expr) (t : TT) : Prop :=
  ∀ (pins : List (Addr × Obj)) (s : Shared) (σ : St) (H : Hp) (Q : Bool → Hp → Prop), Inv X pins σ H s → t σ H Q → wpAny (model X.prog X.w) X.A (isTrue e X.env (eval e X.env)) (TP X pins σ Q) X.xe s
/-- a test whatever its 'whole' is (and, or) -/
def PW (X : Cx) (e : Expr) (t : TT) : Prop :=
  ∀ (whole : Sem Value) (pins : List (Addr × Obj)) (s : Shared) (σ : St) (H : Hp) (Q : Bool → Hp → Prop), Inv X pins σ H s → t σ H Q → wpAny (model X.prog X.w) X.A (isTrue e X.env whole) (TP X pins σ Q) X.xe s
theorem PW.pt {X : Cx} {e : Expr} {t : TT} (h : PW X e t) : PT X e t := h _
/-- an argument list (no star), from the left -/
def PA (X : Cx) (es : List Expr) (t : TA) : Prop :=
  ∀ (pos : Pos) (pins : List (Addr × Obj)) (s : Shared) (σ : St) (H : Hp) (Q : List V → Hp → Prop), Inv X pins σ H s → t σ H Q → wpAny (model X.prog X.w) X.A (spliced (backTo pos (starEach es X.env))) (AP X pins σ Q) X.xe s
def PS (X : Cx) (st : Stmt) (t : TS) : Prop :=
  ∀ (pins : List (Addr × Obj)) (s : Shared) (σ : St) (H : Hp) (D : Ends), Inv X pins σ H s → t D σ H → wpAny (model X.prog X.w) X.A (exec st X.env) (SP X pins D) X.xe s
def PSs (X : Cx) (st : List Stmt) (t : TS) : Prop :=
  ∀ (pins : List (Addr × Obj)) (s : Shared) (σ : St) (H : Hp) (D : Ends), Inv X pins σ H s → t D σ H → wpAny (model X.prog X.w) X.A (execs st X.env) (SP X pins D) X.xe s
/-- weaken the end -/
theorem thn {α : Type} {t : Sem α} {Q Q' : α → Shared → Prop} {M : Model} {A : Around} {E : Value → Shared → Prop} {s : Shared} (h : wpAny M A t Q E s) (hQ : ∀ a s, Q a s → Q' a s) : wpAny M A t Q' E s := wpAny_mono h hQ fun _ _ x => x
end L2

namespace L2
open PySem PySem.Spec PyProof.Rows
section
variable {X : Cx}

/-! ### names and constants -/
def tVar (i : Nat) : TE := fun σ H Q => ∃ v, σ[i]? = some (some v) ∧ Q v H
def tC (v : V) : TE := fun _ H Q => Q v H
theorem pe_var {i : Nat} {x : Str} {pos : Pos} (hN : X.N[i]? = some x) (hv : Vis X.env.scope x) (hd : (x == ("__debug__" : Str)) = false := by decide) (hcd : (x == ("__classdict__" : Str)) = false := by decide) : PE X (.Name x pos) (tVar i) := by
  intro pins s σ H Q I h
  obtain ⟨v, e, h⟩ := h
  obtain ⟨m, hn, hl⟩ := I.loc
  obtain ⟨u, r, l⟩ := hl i x v hN e hv
  have fin : EP X pins σ Q u s := ⟨v, H, I, r, h⟩
  rcases l with ⟨hk, hm⟩ | ⟨hk, c, hc, hcell⟩
  · exact wpAny_Name (wpAny_loadName_local I.ok.kind hk hn hm fin) hd
  · rcases hk with hk | hk
    · exact wpAny_Name (wpAny_loadName_cell I.ok.kind hk hc hcell fin) hd
    · exact wpAny_Name (wpAny_loadName_free I.ok.kind hk hc hcell fin hcd) hd
theorem pe_int {i j pos} : PE X (.Constant (.int i) j pos) (tC (.int i)) := fun _ _ _ H _ I h => wpAny_Constant_int ⟨.int i, H, I.tok _, ⟨_, rfl⟩, h⟩
theorem pe_bl {b j pos} : PE X (.Constant (.bool b) j pos) (tC (.bl b)) := fun _ _ _ H _ I h => Constant_bool ⟨.bl b, H, I, rfl, h⟩
theorem pe_non {j pos} : PE X (.Constant .none j pos) (tC .non) := fun _ _ _ H _ I h => Constant_none ⟨.non, H, I, rfl, h⟩
/-- a global name of the def -/
def Gl (X : Cx) (x : Str) : Prop := X.env.kindOf x = some .globalImplicit
theorem ld_glob {E : Value → Shared → Prop} {pins : List (Addr × Obj)} {s : Shared} {σ : St} {H : Hp} {x : Str} {u : Value} {pos : Pos} {Q : Value → Shared → Prop} (I : Inv X pins σ H s) (hg : Gl X x) (hm : X.mg x = some u) (h : Q u s)
    (hd : (x == ("__debug__" : Str)) = false := by decide) : wpAny (model X.prog X.w) X.A (eval (.Name x pos) X.env) Q E s :=
  Calls.Name_function_global I.ok.kind hg (Calls.loadGlobal_global (by rw [I.ok.glob]; exact I.mod.glob.keeps I.bk) hm h) hd
theorem ld_blt {E : Value → Shared → Prop} {pins : List (Addr × Obj)} {s : Shared} {σ : St} {H : Hp} {x : Str} {u : Value} {pos : Pos} {Q : Value → Shared → Prop} (I : Inv X pins σ H s) (hg : Gl X x) (hm : X.mg x = none) (hv : bootBuiltins x = some u) (h : Q u s)
    (hn : x ≠ "__name__" := by decide) (hd : (x == ("__debug__" : Str)) = false := by decide) : wpAny (model X.prog X.w) X.A (eval (.Name x pos) X.env) Q E s := by
  obtain ⟨mb, h1, h2⟩ := I.mod.blt
  exact Calls.Name_function_global I.ok.kind hg (Calls.loadGlobal_builtin (by rw [I.ok.glob]; exact I.mod.glob.keeps I.bk) hm (by rw [I.ok.blt]; exact h1.keeps I.bk) ((h2 x hn).trans hv) h) hd
/-- a module's constant, a class, a function, as a value -/
theorem pe_glob {x : Str} {v : V} {u : Value} {pos : Pos} (hg : Gl X x) (hm : X.mg x = some u) (r : RelV v u) (hd : (x == ("__debug__" : Str)) = false := by decide) : PE X (.Name x pos) (tC v) :=
  fun _ _ _ H _ I h => ld_glob I hg hm ⟨v, H, I, r, h⟩ hd
theorem pe_bltn {x : Str} {v : V} {u : Value} {pos : Pos} (hg : Gl X x) (hm : X.mg x = none) (hv : bootBuiltins x = some u) (r : RelV v u) (hn : x ≠ "__name__" := by decide) (hd : (x == ("__debug__" : Str)) = false := by decide) : PE X (.Name x pos) (tC v) :=
  fun _ _ _ H _ I h => ld_blt I hg hm hv ⟨v, H, I, r, h⟩ hn hd

/-! ### arithmetic -/
variable {a b : Expr} {ta tb : TE} {pos : Pos}
/-! ### comparisons -/
def PC (X : Cx) (op : CmpOp) (a b : Expr) (t : TE) : Prop :=
  ∀ (pins : List (Addr × Obj)) (s : Shared) (σ : St) (H : Hp) (Q : VK), Inv X pins σ H s → t σ H Q →
    wpAny (model X.prog X.w) X.A (eval a X.env) (fun v s₁ => wpAny (model X.prog X.w) X.A (eval b X.env) (fun u s₂ => wpAny (model X.prog X.w) X.A (compareOp op v u) (EP X pins σ Q) X.xe s₂) X.xe s₁) X.xe s
/-- a comparison as a value, as a test -/
def tB (t : TE) : TT := fun σ H Q => t σ H fun x H1 => ∃ c, x = .bl c ∧ Q c H1
theorem pt_cmp {op : CmpOp} {t : TE} (h : PC X op a b t) (h1 : behindInMarks op b = false := by first | exact nobehind _ (by decide) (by decide) | rfl) : PT X (.Compare a [op] [b] pos) (tB t) := by
  intro pins s σ H Q I hw
  refine wpAny_isTrue_Compare1 (thn (h pins s σ H _ I hw) fun v s1 h1 => thn h1 fun u s2 h2 => thn h2 fun c s3 ⟨x, H1, I1, r1, q1⟩ => ?_) h1
  obtain ⟨d, rfl, q⟩ := q1
  cases r1
  exact wpAny_truthy_bool ⟨H1, I1, q⟩
/-- an expression whose value is a bool, as a test -/
theorem pt_val {e : Expr} {t : TE} (h : PE X e t) (he : ∀ whole, isTrue e X.env whole = (do let v ← whole; standAt e.pos; holding [v] (truthy v)) := by intro _; rfl) : PT X e (tB t) := by
  intro pins s σ H Q I hw
  refine isTrue_plain (thn (h pins s σ H _ I hw) fun v s1 ⟨x, H1, I1, r1, q1⟩ => ?_) (he _)
  obtain ⟨d, rfl, q⟩ := q1
  cases r1
  exact wpAny_truthy_bool ⟨H1, I1, q⟩

/-! ### and, or, not -/
variable {tA tB' : TT} {rest : List Expr}
def tAnd (t u : TT) : TT := fun σ H Q => t σ H fun c H1 => if c = true then u σ H1 Q else Q false H1
def tOr (t u : TT) : TT := fun σ H Q => t σ H fun c H1 => if c = true then Q true H1 else u σ H1 Q
def tNot (t : TT) : TT := fun σ H Q => t σ H fun c H1 => Q (!c) H1
theorem pw_and1 (ha : PT X a tA) : PW X (.BoolOp .And [a] pos) tA := by
  intro wh pins s σ H Q I h
  refine isTrue_and (thn (ha pins s σ H Q I h) fun c s1 e => ?_)
  cases c with
  | true => exact isTrue_and_nil e
  | false => exact e
theorem pw_or1 (ha : PT X a tA) : PW X (.BoolOp .Or [a] pos) tA := by
  intro wh pins s σ H Q I h
  refine isTrue_or (thn (ha pins s σ H Q I h) fun c s1 e => ?_)
  cases c with
  | false => exact isTrue_or_nil e
  | true => exact e
theorem pw_and (ha : PT X a tA) (hb : PW X (.BoolOp .And (b :: rest) pos) tB') : PW X (.BoolOp .And (a :: b :: rest) pos) (tAnd tA tB') := by
  intro wh pins s σ H Q I h
  refine isTrue_and (thn (ha pins s σ H _ I h) fun c s1 ⟨H1, I1, q1⟩ => ?_)
  cases c with
  | true => exact hb wh pins s1 σ H1 Q I1 q1
  | false => exact ⟨H1, I1, q1⟩
theorem pw_or (ha : PT X a tA) (hb : PW X (.BoolOp .Or (b :: rest) pos) tB') : PW X (.BoolOp .Or (a :: b :: rest) pos) (tOr tA tB') := by
  intro wh pins s σ H Q I h
  refine isTrue_or (thn (ha pins s σ H _ I h) fun c s1 ⟨H1, I1, q1⟩ => ?_)
  cases c with
  | true => exact ⟨H1, I1, q1⟩
  | false => exact hb wh pins s1 σ H1 Q I1 q1
theorem pt_not (ha : PT X a tA) : PT X (.UnaryOp .Not a pos) (tNot tA) := by
  intro pins s σ H Q I h
  exact isTrue_not (ha pins s σ H (fun c H1 => Q (!c) H1) I h)
/-- .. as values (bools) -/
def tAndV (ta tb : TE) : TE := fun σ H Q => ta σ H fun x H1 => ∃ c, x = .bl c ∧ if c = true then tb σ H1 Q else Q (.bl false) H1
def tNotV (ta : TE) : TE := fun σ H Q => ta σ H fun x H1 => ∃ c, x = .bl c ∧ Q (.bl (!c)) H1
theorem pe_one {op} {t : TE} (h : PE X a t) : PE X (.BoolOp op [a] pos) t := fun pins s σ H Q I hw => BoolOp_one (h pins s σ H Q I hw)
theorem pe_and (ha : PE X a ta) (hb : PE X (.BoolOp .And (b :: rest) pos) tb) : PE X (.BoolOp .And (a :: b :: rest) pos) (tAndV ta tb) := by
  intro pins s σ H Q I h
  refine BoolOp_and (thn (ha pins s σ H _ I h) fun v s1 ⟨x, H1, I1, r1, q1⟩ => ?_)
  obtain ⟨c, rfl, q1⟩ := q1
  cases r1
  refine wpAny_truthy_bool ?_
  cases c with
  | true => exact hb pins s1 σ H1 Q I1 q1
  | false => exact ⟨.bl false, H1, I1, rfl, q1⟩
theorem pe_not (ha : PE X a ta) : PE X (.UnaryOp .Not a pos) (tNotV ta) := by
  intro pins s σ H Q I h
  refine UnaryOp_ (thn (ha pins s σ H _ I h) fun v s1 ⟨x, H1, I1, r1, q1⟩ => ?_)
  obtain ⟨c, rfl, q1⟩ := q1
  cases r1
  exact not_of (wpAny_truthy_bool ⟨.bl (!c), H1, I1, rfl, q1⟩)
/-- a if t else b -/
def tIf (t : TT) (ta tb : TE) : TE := fun σ H Q => t σ H fun c H1 => if c = true then ta σ H1 Q else tb σ H1 Q
theorem pe_ifExp {c : Expr} (hc : PT X c tA) (ha : PE X a ta) (hb : PE X b tb) : PE X (.IfExp c a b pos) (tIf tA ta tb) := by
  intro pins s σ H Q I h
  refine wpAny_IfExp (thn (hc pins s σ H _ I h) fun d s1 ⟨H1, I1, q1⟩ => ?_)
  cases d with
  | true => exact ha pins s1 σ H1 Q I1 q1
  | false => exact hb pins s1 σ H1 Q I1 q1
end
end L2

namespace L2
open PySem PySem.Spec PyProof.Rows

/-! ### a list, a tuple that is read: tracked, frozen, or an object of the module -/
def SqL (K : PySem.W.Frag) (H : Hp) (a : Addr) (xs : List V) : Prop :=
  Rd H a (.lst xs) ∨
    ∃ (o : Obj) (its : Array Value) (n : Nat), K.lookup a = some o ∧ o.cls = .type "list" ∧ o.dict = none ∧ o.data = .seq its n ∧ its.size ≤ sizeLine ∧ Vals xs its.toList
def SqT (K : PySem.W.Frag) (H : Hp) (a : Addr) (xs : List V) : Prop :=
  Rd H a (.tup xs) ∨
    ∃ (o : Obj) (its : Array Value) (n : Nat), K.lookup a = some o ∧ o.cls = .type "tuple" ∧ o.data = .seq its n ∧ its.size ≤ sizeLine ∧ Vals xs its.toList
def absV : Value → Option V
  | .none => some .non
  | .bool b => some (.bl b)
  | .int i _ => some (.int i)
  | .str x _ => some (.str x)
  | .bytes b _ => some (.byt b)
  | .float b _ => some (.flt b)
  | .ref a => some (.ref a)
  | .type n => some (.ty n)
  | _ => none
theorem RelV.abs {x : V} {u : Value} (r : RelV x u) : absV u = some x := by
  cases x with
  | non => cases r; rfl
  | bl _ => cases r; rfl
  | int _ => obtain ⟨t, rfl⟩ := r; rfl
  | str _ => obtain ⟨t, rfl⟩ := r; rfl
  | byt _ => obtain ⟨t, rfl⟩ := r; rfl
  | flt _ => obtain ⟨t, rfl⟩ := r; rfl
  | ref _ => cases r; rfl
  | ty _ => cases r; rfl
theorem RelV.inj {x y : V} {u : Value} (r : RelV x u) (q : RelV y u) : x = y := Option.some.inj (r.abs.symm.trans q.abs)
theorem Vals.inj : ∀ {xs ys : List V} {us : List Value}, Vals xs us → Vals ys us → xs = ys
  | _, _, _, .nil, .nil => rfl
  | _, _, _, .cons r t, .cons r' t' => by rw [r.inj r', Vals.inj t t']
section
variable {X : Cx} {pins : List (Addr × Obj)} {σ : St} {H : Hp} {s : Shared} {a : Addr} {xs ys : List V}
theorem SqL.of {K : PySem.W.Frag} (h : H a = some (.lst xs)) : SqL K H a xs := .inl (.inl h)
theorem SqT.of {K : PySem.W.Frag} (h : H a = some (.tup xs)) : SqT K H a xs := .inl (.inl h)
theorem Inv.list (I : Inv X pins σ H s) (h : SqL X.K H a xs) : ∃ its : List Value, Vals xs its ∧ PlainL s.heap a its.toArray ∧ xs.length ≤ sizeLine := by
  rcases h with h | ⟨o, its, n, hk, hc, hd, hs, hz, r⟩
  · obtain ⟨z, its, n, r, e⟩ := h.ok I.hok
    exact ⟨its, r, ⟨_, n, e, rfl, rfl, rfl⟩, z⟩
  · refine ⟨its.toList, r, ⟨o, n, I.kIn a o hk, hc, hd, by simpa using hs⟩, ?_⟩
    have e := r.length
    simp only [Array.length_toList] at e
    omega
theorem Inv.tuple (I : Inv X pins σ H s) (h : SqT X.K H a xs) : ∃ its : List Value, Vals xs its ∧ IsTup s.heap a its.toArray ∧ xs.length ≤ sizeLine := by
  rcases h with h | ⟨o, its, n, hk, hc, hs, hz, r⟩
  · obtain ⟨z, its, r, p⟩ := h.ok I.hok
    exact ⟨its, r, p, z⟩
  · refine ⟨its.toList, r, ⟨o, I.kIn a o hk, hc, n, by simpa using hs⟩, ?_⟩
    have e := r.length
    simp only [Array.length_toList] at e
    omega
theorem Inv.list_inj (I : Inv X pins σ H s) (h : SqL X.K H a xs) (h' : SqL X.K H a ys) : xs = ys := by
  obtain ⟨its, r, ⟨o, n, e, _, _, d⟩, _⟩ := I.list h
  obtain ⟨its', r', ⟨o', n', e', _, _, d'⟩, _⟩ := I.list h'
  rw [e] at e'; cases e'
  rw [d] at d'
  injection d' with d1 _
  have : its = its' := by simpa using congrArg Array.toList d1
  subst this
  exact r.inj r'
end

/-! ### another wish about exceptions -/
abbrev Cx.wish (X : Cx) (E : Value → Shared → Prop) : Cx := { X with xe := E }
/-- no exception leaves -/
abbrev Cx.nox (X : Cx) : Cx := X.wish fun _ _ => False
theorem Cx.Ok.wish {X : Cx} (ok : X.Ok) (E : Value → Shared → Prop) : (X.wish E).Ok :=
  ⟨ok.mod, ok.kind, ok.glob, ok.blt, ok.above, ok.inj, ok.has, ok.cab, ok.hd, ok.frames, ok.stk, ok.exf, ok.bs, ok.bsz, ok.noex, ok.exfs, ok.funs, ok.frf⟩
theorem Cx.Ok.unwish {X : Cx} {E : Value → Shared → Prop} (ok : (X.wish E).Ok) : X.Ok :=
  ⟨ok.mod, ok.kind, ok.glob, ok.blt, ok.above, ok.inj, ok.has, ok.cab, ok.hd, ok.frames, ok.stk, ok.exf, ok.bs, ok.bsz, ok.noex, ok.exfs, ok.funs, ok.frf⟩
section
variable {X : Cx} {pins : List (Addr × Obj)} {σ : St} {H : Hp} {s : Shared} {E : Value → Shared → Prop}
theorem Inv.wish (I : Inv X pins σ H s) (E : Value → Shared → Prop) : Inv (X.wish E) pins σ H s := ⟨I.ok.wish E, I.os, I.bare, I.base, I.loc, I.cell, I.free, I.freeC, I.pin, I.hok, I.len⟩
theorem Inv.unwish (I : Inv (X.wish E) pins σ H s) : Inv X pins σ H s := ⟨I.ok.unwish, I.os, I.bare, I.base, I.loc, I.cell, I.free, I.freeC, I.pin, I.hok, I.len⟩
theorem SP.unwish {D : Ends} {f : Flow} {s' : Shared} (h : SP (X.wish E) pins D f s') : SP X pins D f s' := by
  cases f with
  | next => obtain ⟨σ', H', I, q⟩ := h; exact ⟨σ', H', I.unwish, q⟩
  | brk => obtain ⟨σ', H', I, q⟩ := h; exact ⟨σ', H', I.unwish, q⟩
  | cont => obtain ⟨σ', H', I, q⟩ := h; exact ⟨σ', H', I.unwish, q⟩
  | ret u => obtain ⟨v, σ', H', I, r, q⟩ := h; exact ⟨v, σ', H', I.unwish, r, q⟩
theorem PSs.nox {st : List Stmt} {t : TS} (h : PSs X.nox st t) : PSs X st t := fun pins s σ H D I hw =>
  wpAny_mono (h pins s σ H D (I.wish _) hw) (fun _ _ q => q.unwish) fun _ _ z => False.elim z
end

/-! ### blocks and small statements -/
section
variable {X : Cx} {st : Stmt} {rest : List Stmt} {t u : TS} {e : Expr} {te : TE} {pos : Pos}
def tNext : TS := fun D σ H => D.nx σ H
def tSeq (t u : TS) : TS := fun D σ H => t { D with nx := u D } σ H
theorem pss_nil : PSs X [] tNext := fun _ _ σ H _ I h => wpAny_execs_nil ⟨σ, H, I, h⟩
theorem pss_cons (h1 : PS X st t) (h2 : PSs X rest u) : PSs X (st :: rest) (tSeq t u) := by
  intro pins s σ H D I h
  refine wpAny_execs_cons (thn (h1 pins s σ H { D with nx := u D } I h) fun f s1 q => ?_)
  cases f with
  | next =>
    obtain ⟨σ', H', I', q⟩ := q
    exact h2 pins s1 σ' H' D I' q
  | ret v => exact q
  | brk => exact q
  | cont => exact q
theorem pss_one (h1 : PS X st t) : PSs X [st] t := by
  intro pins s σ H D I h
  refine wpAny_execs_cons (thn (h1 pins s σ H D I h) fun f s1 q => ?_)
  cases f with
  | next => exact wpAny_execs_nil q
  | ret v => exact q
  | brk => exact q
  | cont => exact q
/-- in a def's body nothing is shown -/
theorem Inv.quiet {pins : List (Addr × Obj)} {σ : St} {H : Hp} {s : Shared} (I : Inv X pins σ H s) : interactive X.env = false := by simp [interactive, I.ok.kind]
/-- an expression whose value is dropped -/
def tDrop (te : TE) : TS := fun D σ H => te σ H fun _ H1 => D.nx σ H1
theorem ps_expr (he : PE X e te) (hs : swapsWith e none pos.line X.env = pure false := by rfl) : PS X (.Expr e pos) (tDrop te) := by
  intro pins s σ H D I h
  exact wpAny_Expr_any (thn (he pins s σ H _ I h) fun v s1 ⟨x, H1, I1, r1, q1⟩ => ⟨σ, H1, I1, q1⟩) I.quiet hs
def tRet (te : TE) : TS := fun D σ H => te σ H D.rt
theorem ps_ret (he : PE X e te) : PS X (.Return (some e) pos) (tRet te) := by
  intro pins s σ H D I h
  exact wpAny_Return_some (thn (he pins s σ H _ I h) fun v s1 ⟨x, H1, I1, r1, q1⟩ => ⟨x, σ, H1, I1, r1, q1⟩)
def tIfS (c : TT) (t u : TS) : TS := fun D σ H => c σ H fun b H1 => if b = true then t D σ H1 else u D σ H1
theorem ps_if {c : Expr} {a b : List Stmt} {tc : TT} (hc : PT X c tc) (ha : PSs X a t) (hb : PSs X b u) : PS X (.If c a b pos) (tIfS tc t u) := by
  intro pins s σ H D I h
  refine wpAny_If (thn (hc pins s σ H _ I h) fun d s1 ⟨H1, I1, q1⟩ => ?_)
  cases d with
  | true => exact ha pins s1 σ H1 D I1 q1
  | false => exact hb pins s1 σ H1 D I1 q1
end

/-! ### targets -/
abbrev TG := V → St → Hp → (St → Hp → Prop) → Prop
abbrev TGs := List V → St → Hp → (St → Hp → Prop) → Prop
def PG (X : Cx) (target : Expr) (t : TG) : Prop :=
  ∀ (pins : List (Addr × Obj)) (s : Shared) (σ : St) (H : Hp) (v : V) (u : Value) (Q : St → Hp → Prop), Inv X pins σ H s → RelV v u → t v σ H Q →
    wpAny (model X.prog X.w) X.A (assign target X.env u) (fun _ s' => ∃ σ' H', Inv X pins σ' H' s' ∧ Q σ' H') X.xe s
/-- several targets, one after another -/
def PGs (X : Cx) (ts : List Expr) (t : TGs) : Prop :=
  ∀ (pins : List (Addr × Obj)) (s : Shared) (σ : St) (H : Hp) (vs : List V) (us : List Value) (Q : St → Hp → Prop), Inv X pins σ H s → Vals vs us → t vs σ H Q →
    wpAny (model X.prog X.w) X.A (assignInOrder ((assignEach ts X.env).map (·.2)) us) (fun _ s' => ∃ σ' H', Inv X pins σ' H' s' ∧ Q σ' H') X.xe s
section
variable {X : Cx} {pos : Pos}
def gName (i : Nat) : TG := fun v σ H Q => Q (σ.set i (some v)) H
theorem pg_name {i : Nat} {x : Str} (hN : X.N.Nodup) (hi : X.N[i]? = some x) (hx : Loc X.env.scope x) (hf : X.fn x = true ∨ X.env.scope.names.lookup x = some .local := by first | exact .inl rfl | exact .inr rfl | assumption) : PG X (.Name x pos) (gName i) := by
  intro pins s σ H v u Q I r h
  exact wpAny_assign_Name (store_ok I hN hi hx r (fun s' I' => ⟨_, H, I', h⟩) hf)
def gNil : TGs := fun vs σ H Q => vs = [] ∧ Q σ H
def gCons (t : TG) (u : TGs) : TGs := fun vs σ H Q => ∃ v r, vs = v :: r ∧ t v σ H fun σ' H' => u r σ' H' Q
theorem pgs_nil : PGs X [] gNil := by
  intro pins s σ H vs us Q I r h
  obtain ⟨e, h⟩ := h
  subst e
  cases r
  exact assignInOrder_nil ⟨σ, H, I, h⟩
theorem pgs_cons {e : Expr} {es : List Expr} {t : TG} {u : TGs} (h1 : PG X e t) (h2 : PGs X es u)
    (hs : (assignEach (e :: es) X.env).map (·.2) = assign e X.env :: (assignEach es X.env).map (·.2) := by rfl) : PGs X (e :: es) (gCons t u) := by
  intro pins s σ H vs us Q I r h
  obtain ⟨v, vr, e1, h⟩ := h
  subst e1
  cases r with
  | cons r rr =>
    rw [hs]
    refine assignInOrder_cons (thn (h1 pins s σ H _ _ _ I r h) fun _ s1 ⟨σ1, H1, I1, q1⟩ => ?_)
    exact h2 pins s1 σ1 H1 _ _ Q I1 rr q1
/-- (a, b, ..) = a tuple of that length -/
def gTup (K : PySem.W.Frag) (n : Nat) (t : TGs) : TG := fun v σ H Q => ∃ a xs, v = .ref a ∧ SqT K H a xs ∧ xs.length = n ∧ t xs σ H Q
theorem pg_tup {es : List Expr} {k : Nat} {t : TGs} {n : Nat} (hc : X.calm = true) (h : PGs X es t)
    (hn : (assignEach es X.env).length = n := by rfl) (hst : (assignEach es X.env).findIdx? (·.1) = none := by rfl) : PG X (.Tuple es k pos) (gTup X.K n t) := by
  intro pins s σ H v u Q I r hw
  obtain ⟨a, xs, e1, hq, hl, hw⟩ := hw
  subst e1
  cases r
  obtain ⟨its, rv, ht, hz⟩ := I.tuple hq
  refine assign_Tuple_tuple (I.ok.hd hc) ht (by simp [hn, ← hl, rv.length]) hst fun h' hx => ?_
  have I1 : Inv X pins σ H { s with heap := h' } := I.kept (t' := s.toks) fun b o e => hx b o (Nat.ne_of_lt (Heap.lt_size e)) e
  exact h pins _ σ H xs _ Q I1 (by simpa using rv) hw
/-- target = value -/
def tAsg (te : TE) (g : TG) : TS := fun D σ H => te σ H fun x H1 => g x σ H1 D.nx
/-- name = value -/
theorem ps_set {i : Nat} {x : Str} {e : Expr} {te : TE} {pos' : Pos} (hN : X.N.Nodup) (hi : X.N[i]? = some x) (hx : Loc X.env.scope x) (he : PE X e te) (hs : swapsWith e (some (.Name x pos')) pos.line X.env = pure false := by rfl) (hf : X.fn x = true ∨ X.env.scope.names.lookup x = some .local := by first | exact .inl rfl | exact .inr rfl | assumption) :
    PS X (.Assign [.Name x pos'] e pos) (tAsg te (gName i)) := by
  intro pins s σ H D I h
  refine wpAny_Assign_Name (thn (he pins s σ H _ I h) fun v s1 ⟨y, H1, I1, r1, q1⟩ => ?_) hs
  exact store_ok I1 hN hi hx r1 (fun s2 I2 => ⟨_, H1, I2, q1⟩) hf
end

/-! ### while -/

/-! ### what a loop or a comprehension walks -/
/-- at turn i: it yields x (the heap may grow), or it stops -/
structure It where
  go : Nat → Hp → Prop
  yld : Nat → Hp → V → Hp → Prop
  stop : Nat → Hp → Prop
/-- the iterator's own objects may turn: they are not the frame's, not pinned, younger than the entry (or a comprehension's own) -/
def FpOk (X : Cx) (pins : List (Addr × Obj)) (H : Hp) (b : Addr) : Prop :=
  H b = none ∧ b ≠ X.env.locals ∧ b ∉ X.fs ∧ (b ∈ X.ex ∨ X.s₀.heap.objs.size ≤ b) ∧ (∀ x c, X.env.cells.lookup x = some c → c ≠ b) ∧ ∀ p ∈ X.pn ++ pins, p.1 ≠ b
theorem Inv.fpOk {X : Cx} {pins : List (Addr × Obj)} {σ : St} {H H' : Hp} {s : Shared} {b : Addr} (I : Inv X pins σ H s) (hb : s.heap.objs.size ≤ b) (hn : H' b = none) : FpOk X pins H' b := by
  refine ⟨hn, Nat.ne_of_gt (Nat.lt_of_lt_of_le I.lt hb), I.nofs hb, .inr (Nat.le_trans I.sz hb), fun x c e z => ?_, fun p hp z => ?_⟩
  · obtain ⟨v, q⟩ := I.cell x c e
    exact absurd (Nat.lt_of_lt_of_le q.lt (by rw [z]; exact hb)) (Nat.lt_irrefl _)
  · exact absurd (Nat.lt_of_lt_of_le (Heap.lt_size (I.pin p hp).1) (by rw [z]; exact hb)) (Nat.lt_irrefl _)
structure Turn (P : Program) (w : World) (K : PySem.W.Frag) (tg : Expr) (J : It) (fp : List Addr) (it : Addr) (tn : Nat → Heap → Prop) : Prop where
  mem : it ∈ fp
  obj : ∀ i h, tn i h → ∀ b ∈ fp, ∃ o, h.get? b = some o ∧ ∀ v, o.data ≠ .cell v
  keep : ∀ i h h', tn i h → (∀ b ∈ fp, ∀ o, h.get? b = some o → h'.get? b = some o) → tn i h'
  item : ∀ (X : Cx), X.prog = P → X.w = w → X.K = K → X.calm = true → ∀ (i : Nat) (pins : List (Addr × Obj)) (s : Shared) (σ : St) (H : Hp) (E : Value → Shared → Prop), Inv X pins σ H s → (∀ b ∈ fp, FpOk X pins H b) → tn i s.heap → J.go i H →
    wpAny (model P w) X.A (pyNext (.ref it)) (fun r s1 => ∃ u, r = some u ∧
      wpAny (model P w) X.A (letOwnedTupleGo tg (.ref it) u) (fun _ s2 => ∃ x H', Inv X pins σ H' s2 ∧ RelV x u ∧ J.yld i H x H' ∧ tn (i + 1) s2.heap ∧ ∀ b ∈ fp, H' b = none) E s1) E s
  done : ∀ (X : Cx), X.prog = P → X.w = w → X.K = K → X.calm = true → ∀ (i : Nat) (pins : List (Addr × Obj)) (s : Shared) (σ : St) (H : Hp) (E : Value → Shared → Prop), Inv X pins σ H s → (∀ b ∈ fp, FpOk X pins H b) → tn i s.heap → J.stop i H →
    wpAny (model P w) X.A (pyNext (.ref it)) (fun r s1 => r = none ∧ Inv X pins σ H s1) E s
  self : ∀ (A : Around) (i : Nat) (s : Shared) (Q : Value → Shared → Prop) (E : Value → Shared → Prop), tn i s.heap → Q (.ref it) s → wpAny (model P w) A (pyIter (.ref it)) Q E s
abbrev TI := St → Hp → (It → Hp → Prop) → Prop
/-- an iterator has come -/
def PIE (X : Cx) (pins : List (Addr × Obj)) (σ : St) (tg : Expr) (R : It → Hp → Prop) (itv : Value) (s2 : Shared) : Prop :=
  ∃ (it : Addr) (fp : List Addr) (tn : Nat → Heap → Prop) (J : It) (H' : Hp), itv = .ref it ∧ Inv X pins σ H' s2 ∧ Turn X.prog X.w X.K tg J fp it tn ∧ tn 0 s2.heap ∧ (∀ b ∈ fp, FpOk X pins H' b) ∧ R J H'
def PI (X : Cx) (tg iter : Expr) (wi : TI) : Prop :=
  ∀ (pins : List (Addr × Obj)) (s : Shared) (σ : St) (H : Hp) (R : It → Hp → Prop), Inv X pins σ H s → wi σ H R →
    wpAny (model X.prog X.w) X.A (eval iter X.env) (fun v s1 => wpAny (model X.prog X.w) X.A (pyIter v) (PIE X pins σ tg R) X.xe s1) X.xe s

/-- the step ahead of the store is nothing for an iterator that keeps no tuple -/
theorem go_of {M : Model} {A : Around} {E : Value → Shared → Prop} {s : Shared} {tg : Expr} {it : Addr} {u : Value} {o : Obj} {n : String} {vs : Array Value} {Q : Unit → Shared → Prop} (ho : s.heap.get? it = some o) (hc : o.cls = .type n) (hd : o.data = .fields vs)
    (hn : ["enumerate", "zip", "dict_itemiterator", "dict_reverseitemiterator", "odict_iterator", "itertools.zip_longest", "itertools.pairwise"].contains n = false) (hQ : Q () s) : wpAny M A (letOwnedTupleGo tg (.ref it) u) Q E s := by
  unfold letOwnedTupleGo
  cases tg <;> first
    | exact wpAny_pure hQ
    | (cases u <;> first
        | exact wpAny_pure hQ
        | (refine wpAny_bind (wpAny_load ho ?_)
           rw [hc, hd]
           show wpAny M A (if (["enumerate", "zip", "dict_itemiterator", "dict_reverseitemiterator", "odict_iterator", "itertools.zip_longest", "itertools.pairwise"].contains n && vs[0]? == some (rawInt _)) = true then _ else _) Q E s
           rw [if_neg (by intro h; rw [hn, Bool.false_and] at h; cases h)]
           exact wpAny_pure hQ))

/-- the list at a, as it stands at each turn (a loop may append to it) -/
def Itl (K : PySem.W.Frag) (a : Addr) : It :=
  ⟨fun i H => ∃ xs x, SqL K H a xs ∧ xs[i]? = some x, fun i H x H' => H' = H ∧ ∀ xs, SqL K H a xs → xs[i]? = some x, fun i H => ∃ xs, SqL K H a xs ∧ xs.length ≤ i⟩
/-- lo, lo + 1, .. (n of them) -/
def Itr (lo : Int) (n : Nat) : It := ⟨fun i _ => i < n, fun i H x H' => H' = H ∧ x = .int (lo + i), fun i _ => n ≤ i⟩
theorem turn_list {P : Program} {w : World} {K : PySem.W.Frag} {tg : Expr} (a it : Addr) : Turn P w K tg (Itl K a) [it] it (fun i h => h.IsListIter it a i) where
  mem := by simp
  obj := fun i h st b hb => by
    have e : b = it := by simpa using hb
    subst e
    obtain ⟨o, e, c, d⟩ := st
    exact ⟨o, e, fun v z => by rw [d] at z; cases z⟩
  keep := fun i h h' st k => st.at fun o e => k it (by simp) o e
  item := by
    intro X hP hw hK hc i pins s σ H E I hf st hg
    subst hP hw hK
    obtain ⟨xs, x, hq, hx⟩ := hg
    obtain ⟨its, rv, p, hz⟩ := I.list hq
    obtain ⟨u, hu, ru⟩ := rv.get hx
    obtain ⟨f0, f1, f2, f3, f4, f5⟩ := hf it (by simp)
    refine wpAny_pyNext_list_item st p.isList (x := u) (by simpa using hu) fun h' st' sb => ?_
    have I1 : Inv X pins σ H { s with heap := h' } := I.turned (t' := s.toks) (fun b o hb e => (sb.2 b hb).trans e) f0 f1 f3 f4 f5
    obtain ⟨o, e, c, d⟩ := id st'
    exact ⟨u, rfl, go_of (s := { s with heap := h' }) e c d (by decide) ⟨x, H, I1, ru, ⟨rfl, fun ys hy => by rw [I.list_inj hy hq]; exact hx⟩, st', fun b hb => (hf b hb).1⟩⟩
  done := by
    intro X hP hw hK hc i pins s σ H E I hf st hg
    subst hP hw hK
    obtain ⟨xs, hq, hx⟩ := hg
    obtain ⟨its, rv, p, hz⟩ := I.list hq
    obtain ⟨f0, f1, f2, f3, f4, f5⟩ := hf it (by simp)
    have hl := rv.length
    exact wpAny_pyNext_list_end (I.ok.hd hc) st p.isList (by simp; omega) fun h' eb => ⟨rfl, I.turned (t' := s.toks) (fun b o hb e => eb b o hb e) f0 f1 f3 f4 f5⟩
  self := fun _ _ _ _ _ st h => wpAny_pyIter_listiter st h
theorem turn_range {P : Program} {w : World} {K : PySem.W.Frag} {tg : Expr} (it : Addr) (lo : Int) (n : Nat) : Turn P w K tg (Itr lo n) [it] it (fun i h => IsRangeIter h it (lo + (i : Nat) * 1) ((n : Int) - (i : Nat)) 1) where
  mem := by simp
  obj := fun i h st b hb => by
    have e : b = it := by simpa using hb
    subst e
    exact ⟨_, st, fun v z => by
      have z' : Data.fields _ = Data.cell v := z
      cases z'⟩
  keep := fun i h h' st k => k it (by simp) _ st
  item := by
    intro X hP hw hK hc i pins s σ H E I hf st hg
    subst hP hw hK
    obtain ⟨f0, f1, f2, f3, f4, f5⟩ := hf it (by simp)
    have W := Walks.range (prog := X.prog) (w := X.w) (I.ok.hd hc) it lo 1 n
    refine W.item i s _ _ hg st fun v h' tk hv st' kk => ?_
    obtain ⟨t, rfl⟩ := hv
    have I1 : Inv X pins σ H { s with heap := h', toks := tk } := I.turned (fun b o hb e => kk b o (by simpa using hb) e) f0 f1 f3 f4 f5
    refine ⟨_, rfl, go_of (s := { s with heap := h', toks := tk }) (n := "range_iterator") st' rfl rfl (by decide) ⟨.int (lo + i), H, I1, ⟨t, ?_⟩, ⟨rfl, rfl⟩, st', fun b hb => (hf b hb).1⟩⟩
    rw [Int.mul_one]
  done := by
    intro X hP hw hK hc i pins s σ H E I hf st hg
    subst hP hw hK
    obtain ⟨f0, f1, f2, f3, f4, f5⟩ := hf it (by simp)
    exact wpAny_pyNext_range_end (I.ok.hd hc) st (by have : n ≤ i := hg; omega) fun h' eb => ⟨rfl, I.turned (t' := s.toks) (fun b o hb e => eb b o hb e) f0 f1 f3 f4 f5⟩
  self := fun _ _ _ _ _ st h => wpAny_pyIter_rangeiter st h
end L2

namespace L2
open PySem PySem.Spec PyProof.Rows
section
variable {X : Cx} {tg : Expr}
def iList (K : PySem.W.Frag) (tl : TE) : TI := fun σ H R => tl σ H fun x H1 => ∃ a, x = .ref a ∧ (∃ xs, SqL K H1 a xs) ∧ R (Itl K a) H1
theorem pi_list {l : Expr} {tl : TE} (hl : PE X l tl) : PI X tg l (iList X.K tl) := by
  intro pins s σ H R I h
  refine thn (hl pins s σ H _ I h) fun v s1 ⟨x, H1, I1, r1, q1⟩ => ?_
  obtain ⟨a, e, ⟨xs, hq⟩, q⟩ := q1
  subst e
  cases r1
  obtain ⟨its, rv, p, hz⟩ := I1.list hq
  refine wpAny_pyIter_list p.isList ?_
  refine ⟨s1.heap.objs.size, [s1.heap.objs.size], _, _, H1, rfl, I1.kept (t' := s1.toks) fun b o e => Heap.get?_push_of_some _ e, turn_list a _, ⟨_, Heap.get?_push_size _ rfl, rfl, rfl⟩, fun b hb => ?_, q⟩
  have e : b = s1.heap.objs.size := by simpa using hb
  subst e
  exact I1.fpOk (Nat.le_refl _) (I1.hok.fresh (Nat.le_refl _))
/-- a range object just made, walked -/
theorem range_it {pins : List (Addr × Obj)} {σ : St} {H : Hp} {s : Shared} {R : It → Hp → Prop} {E : Value → Shared → Prop} {lo hi : Int} {t u v : Tok} {tk : Nat} (I : Inv X pins σ H s) (h1 : -(2 ^ 62) ≤ lo) (h2 : lo < 2 ^ 62) (h3 : -(2 ^ 62) ≤ hi) (h4 : hi < 2 ^ 62)
    (q : R (Itr lo (hi - lo).toNat) H) : wpAny (model X.prog X.w) X.A (pyIter (.ref s.heap.objs.size)) (PIE X pins σ tg R) E { s with heap := s.heap.push { cls := .type "range", data := .fields #[.int lo t, .int hi u, .int 1 v] }, toks := tk } := by
  refine wpAny_pyIter_range (IsRange.new ..) (small_one h1 h2 h3 h4) ?_
  have I1 : Inv X pins σ H { s with heap := s.heap.push { cls := .type "range", data := .fields #[.int lo t, .int hi u, .int 1 v] }, toks := tk } := I.kept fun b o e => Heap.get?_push_of_some _ e
  refine ⟨(s.heap.push { cls := .type "range", data := .fields #[.int lo t, .int hi u, .int 1 v] }).objs.size, [(s.heap.push { cls := .type "range", data := .fields #[.int lo t, .int hi u, .int 1 v] }).objs.size], _, _, H, rfl,
    I1.kept (t' := tk) fun b o e => Heap.get?_push_of_some _ e, turn_range _ lo (hi - lo).toNat, ?_, fun b hb => ?_, q⟩
  · have e1 : lo + ((0 : Nat) : Int) * 1 = lo := by simp
    have e2 : (((hi - lo).toNat : Nat) : Int) - ((0 : Nat) : Int) = Builtin.Range.rangeSize lo hi 1 := by rw [rangeSize_one]; split <;> omega
    show IsRangeIter _ _ (lo + ((0 : Nat) : Int) * 1) ((((hi - lo).toNat : Nat) : Int) - ((0 : Nat) : Int)) 1
    rw [e1, e2]
    exact Heap.get?_push_size _ rfl
  · have e : b = (s.heap.push { cls := .type "range", data := .fields #[.int lo t, .int hi u, .int 1 v] }).objs.size := by simpa using hb
    subst e
    exact I1.fpOk (Nat.le_refl _) (I1.hok.fresh (Nat.le_refl _))
def iRng1 (ta : TA) : TI := fun σ H R => ta σ H fun vs H1 => ∃ j : Int, vs = [.int j] ∧ -(2 ^ 62) ≤ j ∧ j < 2 ^ 62 ∧ R (Itr 0 j.toNat) H1
theorem pi_range1 {a : Expr} {ta : TA} {p pos : Pos} (hg : Gl X "range") (hm : X.mg "range" = none) (ha : PA X [a] ta) (hs : starEach [a] X.env = [(false, eval a X.env)] := by rfl) : PI X tg (.Call (.Name "range" p) [a] [] pos) (iRng1 ta) := by
  intro pins s σ H R I h
  refine Call_ (ld_blt I hg hm boot_range (PyProof.Rows.callWith_type1 (thn (ha pos pins s σ H _ I h) fun us s1 ⟨vs, H1, I1, r1, q1⟩ => ?_) hs rfl))
  obtain ⟨j, e, q1, q2, q⟩ := q1
  subst e
  cases r1 with
  | cons r rr =>
    cases rr
    obtain ⟨t, rfl⟩ := r
    exact call_range_1 (range_it I1 (by omega) (by omega) q1 q2 (by simpa using q))
/-! ### for -/
/-- W: the invariant by the turn and a measure; N: what the body is to reach -/
def tFor (wi : TI) (g : TG) (tb : TS) : TS := fun D σ H => wi σ H fun J H1 => ∃ W : Nat → Nat → St → Hp → Prop, (∃ m, W 0 m σ H1) ∧ ∀ i m σ H, W i m σ H →
  (J.stop i H ∧ D.nx σ H) ∨ (J.go i H ∧ ∃ N : St → Hp → Prop, (∀ σ' H', N σ' H' → ∃ m', m' < m ∧ W (i + 1) m' σ' H') ∧ ∀ x H', J.yld i H x H' → g x σ H' fun σ2 H2 => tb { D with nx := N, ct := N, bk := D.nx } σ2 H2)
/-- the records at fp as they stand -/
def pinsAt (fp : List Addr) (h : Heap) : List (Addr × Obj) := fp.filterMap fun b => (h.get? b).map fun o => (b, o)
theorem mem_pinsAt {fp : List Addr} {h : Heap} {b : Addr} {o : Obj} (hb : b ∈ fp) (e : h.get? b = some o) : (b, o) ∈ pinsAt fp h := List.mem_filterMap.mpr ⟨b, hb, by rw [e]; rfl⟩
theorem of_pinsAt {fp : List Addr} {h : Heap} {p : Addr × Obj} (hp : p ∈ pinsAt fp h) : p.1 ∈ fp ∧ h.get? p.1 = some p.2 := by
  obtain ⟨b, hb, e⟩ := List.mem_filterMap.mp hp
  cases q : h.get? b with
  | none => rw [q] at e; cases e
  | some o =>
    rw [q] at e
    have e' : (b, o) = p := Option.some.inj e
    subst e'
    exact ⟨hb, q⟩
theorem Inv.pinned {pins : List (Addr × Obj)} {σ : St} {H : Hp} {s : Shared} {fp : List Addr} (I : Inv X pins σ H s) (hf : ∀ b ∈ fp, FpOk X pins H b) (ho : ∀ b ∈ fp, ∃ o, s.heap.get? b = some o ∧ ∀ v, o.data ≠ .cell v) : Inv X (pins ++ pinsAt fp s.heap) σ H s :=
  I.pins_of fun p hp => (List.mem_append.mp hp).elim (fun z => I.pin p (List.mem_append_right _ z)) fun z => by
    obtain ⟨hb, e⟩ := of_pinsAt z
    obtain ⟨f0, f1, f2, _⟩ := hf p.1 hb
    obtain ⟨o, e', d⟩ := ho p.1 hb
    rw [e] at e'; cases e'
    exact ⟨e, f0, f1, f2, d⟩
theorem Inv.unpinned {pins pl : List (Addr × Obj)} {σ : St} {H : Hp} {s : Shared} (I : Inv X (pins ++ pl) σ H s) : Inv X pins σ H s := I.pins_of fun p hp => I.pin p (List.mem_append_right _ (List.mem_append_left _ hp))
theorem ps_for {iter : Expr} {body : List Stmt} {wi : TI} {g : TG} {tb : TS} {pos : Pos} (hp : PassesOwn (model X.prog X.w) X.A X.env X.xe) (hc : X.calm = true) (hi : PI X tg iter wi) (hg : PG X tg g) (hb : PSs X body tb)
    (hs : ∀ x, foldedSetIterable iter X.env x = pure x := by intro _; rfl) : PS X (.For tg iter body [] pos) (tFor wi g tb) := by
  intro pins s σ H D I h
  refine wpAny_For (thn (hi pins s σ H _ I h) fun v s1 h1 => thn h1 fun itv s2 h2 => ?_) hs
  obtain ⟨it, fp, tn, J, H2, e, I2, T, st2, f2, W, ⟨m0, w0⟩, turn⟩ := h2
  subst e
  -- what stays true of the iterator's objects through the loop
  have stat : ∀ {H' : Hp}, (∀ b ∈ fp, H' b = none) → ∀ b ∈ fp, FpOk X pins H' b := fun hn b hb => ⟨hn b hb, (f2 b hb).2⟩
  refine codeAny_forLoop_any (fun n s' => ∃ i σ' H', Inv X pins σ' H' s' ∧ tn i s'.heap ∧ (∀ b ∈ fp, H' b = none) ∧ W i n σ' H') ?_ m0 ⟨0, σ, H2, I2, st2, fun b hb => (f2 b hb).1, w0⟩
  rintro n s3 ⟨i, σ3, H3, I3, st3, fr3, w3⟩
  rcases turn i n σ3 H3 w3 with ⟨stop, qn⟩ | ⟨go, N, hN, step⟩
  · refine wpAny_passesOwn hp (thn (T.done X rfl rfl rfl hc i pins s3 σ3 H3 X.xe I3 (stat fr3) st3 stop) fun r s4 ⟨hr, I4⟩ => ?_)
    subst hr
    exact wpAny_execs_nil ⟨σ3, H3, I4, qn⟩
  · refine wpAny_passesOwn hp (thn (T.item X rfl rfl rfl hc i pins s3 σ3 H3 X.xe I3 (stat fr3) st3 go) fun r s4 ⟨u, hr, h4⟩ => ?_)
    subst hr
    refine wpAny_passesOwn hp (thn h4 fun _ s5 ⟨x, H5, I5, r5, y5, st5, fr5⟩ => ?_)
    have I5' := I5.pinned (stat fr5) (T.obj _ _ st5)
    refine wpAny_passesOwn hp (thn (hg _ s5 σ3 H5 x u _ I5' r5 (step x H5 y5)) fun _ s6 ⟨σ6, H6, I6, q6⟩ => ?_)
    refine wpAny_passesOwn hp (thn (hb _ s6 σ6 H6 _ I6 q6) fun f s7 q7 => ?_)
    have again : ∀ {σ7 : St} {H7 : Hp}, Inv X (pins ++ pinsAt fp s5.heap) σ7 H7 s7 → N σ7 H7 → ∃ m, m < n ∧ ∃ i σ' H', Inv X pins σ' H' s7 ∧ tn i s7.heap ∧ (∀ b ∈ fp, H' b = none) ∧ W i m σ' H' := fun {σ7 H7} I7 n7 => by
      obtain ⟨m', hm, w7⟩ := hN σ7 H7 n7
      refine ⟨m', hm, i + 1, σ7, H7, I7.unpinned, T.keep _ _ _ st5 fun b hb o e => (I7.pin (b, o) (List.mem_append_right _ (List.mem_append_right _ (mem_pinsAt hb e)))).1, fun b hb => ?_, w7⟩
      obtain ⟨o, e, d⟩ := T.obj _ _ st5 b hb
      exact (I7.pin (b, o) (List.mem_append_right _ (List.mem_append_right _ (mem_pinsAt hb e)))).2.1
    cases f with
    | next => obtain ⟨σ7, H7, I7, n7⟩ := q7; exact again I7 n7
    | cont => obtain ⟨σ7, H7, I7, n7⟩ := q7; exact again I7 n7
    | brk => obtain ⟨σ7, H7, I7, q7⟩ := q7; exact ⟨σ7, H7, I7.unpinned, q7⟩
    | ret v => obtain ⟨x7, σ7, H7, I7, r7, q7⟩ := q7; exact ⟨x7, σ7, H7, I7.unpinned, r7, q7⟩
end

/-! ### the forms one uses -/
theorem for_range {lo : Int} {n : Nat} {g : TG} {tb : TS} {D : Ends} {σ : St} {H : Hp} (Pv : Nat → St → Hp → Prop) (h0 : Pv 0 σ H)
    (hs : ∀ i σ H, i < n → Pv i σ H → g (.int (lo + i)) σ H fun σ2 H2 => tb { D with nx := Pv (i + 1), ct := Pv (i + 1), bk := D.nx } σ2 H2) (hd : ∀ σ H, Pv n σ H → D.nx σ H) :
    ∃ W : Nat → Nat → St → Hp → Prop, (∃ m, W 0 m σ H) ∧ ∀ i m σ H, W i m σ H →
      ((Itr lo n).stop i H ∧ D.nx σ H) ∨ ((Itr lo n).go i H ∧ ∃ N : St → Hp → Prop, (∀ σ' H', N σ' H' → ∃ m', m' < m ∧ W (i + 1) m' σ' H') ∧ ∀ x H', (Itr lo n).yld i H x H' → g x σ H' fun σ2 H2 => tb { D with nx := N, ct := N, bk := D.nx } σ2 H2) := by
  refine ⟨fun i m σ H => m = n - i ∧ i ≤ n ∧ Pv i σ H, ⟨n, by simp, Nat.zero_le _, h0⟩, ?_⟩
  rintro i m σ H ⟨rfl, hi, p⟩
  by_cases hlt : i < n
  · refine .inr ⟨hlt, Pv (i + 1), fun σ' H' p' => ⟨n - (i + 1), by omega, rfl, hlt, p'⟩, fun x H' y => ?_⟩
    obtain ⟨e, y⟩ := y
    subst e y
    exact hs i σ _ hlt p
  · have e : i = n := by omega
    subst e
    exact .inl ⟨Nat.le_refl _, hd σ H p⟩
end L2

namespace L2
open PySem PySem.Spec PyProof.Rows

abbrev R2 := V → V → Hp → VK → Prop
/-- a two-place operation on values: f is binaryOp op, inplaceOp op or compareOp op -/
def OpR (X : Cx) (f : Value → Value → Sem Value) (r : R2) : Prop :=
  ∀ (pins : List (Addr × Obj)) (s : Shared) (σ : St) (H : Hp) (x y : V) (v u : Value) (Q : VK), Inv X pins σ H s → RelV x v → RelV y u → r x y H Q →
    wpAny (model X.prog X.w) X.A (f v u) (EP X pins σ Q) X.xe s
/-- a call of a value that is known (a builtin, a type) with values -/
def CallR (X : Cx) (f : Value) (r : List V → Hp → VK → Prop) : Prop :=
  ∀ (pins : List (Addr × Obj)) (s : Shared) (σ : St) (H : Hp) (xs : List V) (us : List Value) (Q : VK), Inv X pins σ H s → Vals xs us → r xs H Q →
    wpAny (model X.prog X.w) X.A (call f us) (EP X pins σ Q) X.xe s
def tOp (r : R2) (ta tb : TE) : TE := fun σ H Q => ta σ H fun x H1 => tb σ H1 fun y H2 => r x y H2 Q
/-- ints in, under C, and a value out -/
def rI (C : Int → Int → Prop) (g : Int → Int → V) : R2 := fun x y H Q => ∃ i j, x = .int i ∧ y = .int j ∧ C i j ∧ Q (g i j) H
def rI0 (g : Int → Int → V) : R2 := fun x y H Q => ∃ i j, x = .int i ∧ y = .int j ∧ Q (g i j) H
section
variable {X : Cx} {a b c : Expr} {ta tb tc : TE} {pos : Pos}

theorem binT (ha : PE X a ta) (hb : PE X b tb) {pins : List (Addr × Obj)} {s : Shared} {σ : St} {H : Hp} {R : V → V → Hp → Prop} (I : Inv X pins σ H s)
    (h : ta σ H fun x H1 => tb σ H1 fun y H2 => R x y H2) {Q : Value → Shared → Prop} {f : Value → Value → Sem Value}
    (hf : ∀ v u s2 x y H2, Inv X pins σ H2 s2 → RelV x v → RelV y u → R x y H2 → wpAny (model X.prog X.w) X.A (f v u) Q X.xe s2) :
    wpAny (model X.prog X.w) X.A (eval a X.env) (fun v s₁ => wpAny (model X.prog X.w) X.A (eval b X.env) (fun u s₂ => wpAny (model X.prog X.w) X.A (f v u) Q X.xe s₂) X.xe s₁) X.xe s := by
  refine thn (ha pins s σ H _ I h) fun v s1 ⟨x, H1, I1, r1, q1⟩ => ?_
  refine thn (hb pins s1 σ H1 _ I1 q1) fun u s2 ⟨y, H2, I2, r2, q2⟩ => ?_
  exact hf v u s2 x y H2 I2 r1 r2 q2

theorem pe_op {op : Operator} {r : R2} (ho : OpR X (binaryOp op) r) (ha : PE X a ta) (hb : PE X b tb) : PE X (.BinOp a op b pos) (tOp r ta tb) := by
  intro pins s σ H Q I h
  exact wpAny_BinOp (binT ha hb I h fun v u s2 x y H2 I2 rx ry q => ho pins s2 σ H2 x y v u Q I2 rx ry q)
/-! ### ints -/
theorem opI {f : Value → Value → Sem Value} {C : Int → Int → Prop} {g : Int → Int → Int}
    (rule : ∀ (i j : Int) (t u : Tok) (s : Shared) (Q : Value → Shared → Prop) (E : Value → Shared → Prop), C i j → Q (.int (g i j) s.toks) { s with toks := s.toks + 1 } → wpAny (model X.prog X.w) X.A (f (.int i t) (.int j u)) Q E s) :
    OpR X f (rI C fun i j => .int (g i j)) := by
  intro pins s σ H x y v u Q I rx ry h
  obtain ⟨i, j, rfl, rfl, hc, q⟩ := h
  obtain ⟨t, rfl⟩ := rx
  obtain ⟨t', rfl⟩ := ry
  exact rule i j t t' s _ _ hc ⟨.int (g i j), H, I.tok _, ⟨_, rfl⟩, q⟩
theorem opI0 {f : Value → Value → Sem Value} {g : Int → Int → Int}
    (rule : ∀ (i j : Int) (t u : Tok) (s : Shared) (Q : Value → Shared → Prop) (E : Value → Shared → Prop), Q (.int (g i j) s.toks) { s with toks := s.toks + 1 } → wpAny (model X.prog X.w) X.A (f (.int i t) (.int j u)) Q E s) :
    OpR X f (rI0 fun i j => .int (g i j)) := by
  intro pins s σ H x y v u Q I rx ry h
  obtain ⟨i, j, rfl, rfl, q⟩ := h
  obtain ⟨t, rfl⟩ := rx
  obtain ⟨t', rfl⟩ := ry
  exact rule i j t t' s _ _ ⟨.int (g i j), H, I.tok _, ⟨_, rfl⟩, q⟩
theorem opB0 {f : Value → Value → Sem Value} {g : Int → Int → Bool}
    (rule : ∀ (i j : Int) (t u : Tok) (s : Shared) (Q : Value → Shared → Prop) (E : Value → Shared → Prop), Q (.bool (g i j)) s → wpAny (model X.prog X.w) X.A (f (.int i t) (.int j u)) Q E s) :
    OpR X f (rI0 fun i j => .bl (g i j)) := by
  intro pins s σ H x y v u Q I rx ry h
  obtain ⟨i, j, rfl, rfl, q⟩ := h
  obtain ⟨t, rfl⟩ := rx
  obtain ⟨t', rfl⟩ := ry
  exact rule i j t t' s _ _ ⟨.bl (g i j), H, I, rfl, q⟩

def CDiv (i j : Int) : Prop := 0 < j ∧ j < 1073741824
def CPow (i j : Int) : Prop := 0 ≤ j ∧ j ≤ 1000000 ∧ i.natAbs < 2 ^ 64
theorem two_pow_nn (k : Nat) : (0 : Int) ≤ 2 ^ k := by
  rw [two_pow_cast]
  exact Int.natCast_nonneg _

theorem op_add : OpR X (binaryOp .Add) (rI0 fun i j => .int (i + j)) := opI0 fun _ _ _ _ _ _ _ q => add_int q
/-- // by a positive divisor -/
theorem op_fdiv : OpR X (binaryOp .FloorDiv) (rI CDiv fun i j => .int (i / j)) := opI fun i j _ _ _ _ _ hc q => by
  have h1 : (0 : Int) < j := hc.1
  have h2 : j < 1073741824 := hc.2
  exact floordiv_int (by omega) (by rw [Int.fdiv_eq_ediv_of_nonneg i (by omega)]; exact q) (.inl (PyProof.noPylong_small (by omega)))
/-- % by a positive divisor of any size -/
theorem op_mod : OpR X (binaryOp .Mod) (rI (fun _ j => 0 < j) fun i j => .int (i % j)) := opI fun i j _ _ _ _ _ hc q => by
  have h1 : (0 : Int) < j := hc
  exact mod_int' (by omega) (by rw [Int.fmod_eq_emod_of_nonneg i (by omega)]; exact q)
theorem op_pow : OpR X (binaryOp .Pow) (rI CPow fun i j => .int (i ^ j.toNat)) := opI fun _ _ _ _ _ _ _ hc q => pow_int_small hc.1 hc.2.1 hc.2.2 q
theorem op_shr : OpR X (binaryOp .RShift) (rI (fun _ j => 0 ≤ j) fun i j => .int (i / 2 ^ j.toNat)) := opI fun i j _ _ _ _ _ hc q =>
  rshift_int hc (by rw [Int.fdiv_eq_ediv_of_nonneg i (two_pow_nn _)]; exact q)
theorem op_and : OpR X (binaryOp .BitAnd) (rI0 fun i j => .int (Builtin.bitAnd i j)) := opI0 fun _ _ _ _ _ _ _ q => and_int q
/-! ### bools among ints: n += (a < b) -/
end

/-! ### comparisons -/
/-- the scalars that == tells apart as data does -/
def scal : V → V → Bool
  | .non, .non => true | .non, .int _ => true | .int _, .non => true | .non, .bl _ => true | .bl _, .non => true | .non, .str _ => true | .str _, .non => true
  | .int _, .int _ => true | .bl _, .bl _ => true | .str _, .str _ => true | .byt _, .byt _ => true
  | .int _, .str _ => true | .str _, .int _ => true | .bl _, .str _ => true | .str _, .bl _ => true
  | _, _ => false
def rEq : R2 := fun x y H Q => scal x y = true ∧ Q (.bl (decide (x = y))) H
def rNe : R2 := fun x y H Q => scal x y = true ∧ Q (.bl (!decide (x = y))) H

theorem dec_int {i j : Int} : decide (V.int i = V.int j) = (i == j) := by
  rw [Bool.eq_iff_iff]
  simp
theorem dec_bl {i j : Bool} : decide (V.bl i = V.bl j) = (i == j) := by
  rw [Bool.eq_iff_iff]
  simp
theorem dec_str {i j : Str} : decide (V.str i = V.str j) = (i == j) := by
  rw [Bool.eq_iff_iff]
  simp
theorem dec_byt {i j : Array UInt8} : decide (V.byt i = V.byt j) = (i.toList == j.toList) := by
  rw [Bool.eq_iff_iff]
  cases i
  cases j
  simp

section
variable {X : Cx} {a b c : Expr} {ta tb tc : TE} {pos : Pos}
theorem fin_bl {pins : List (Addr × Obj)} {σ : St} {H : Hp} {s : Shared} {Q : VK} {k k' : Bool} (I : Inv X pins σ H s) (q : Q (.bl k) H) (e : k = k') : EP X pins σ Q (.bool k') s := by
  subst e
  exact ⟨.bl k, H, I, rfl, q⟩
theorem op_eq : OpR X (compareOp .Eq) rEq := by
  intro pins s σ H x y v u Q I rx ry h
  obtain ⟨hs, q⟩ := h
  cases x with
  | non =>
    cases rx
    cases y with
    | non => cases ry; exact PySem.EqNone.eq_none_none (fin_bl I q (by simp))
    | bl j => cases ry; exact PySem.EqNone.eq_none_bool (fin_bl I q (by simp))
    | int j => obtain ⟨t', rfl⟩ := ry; exact PySem.EqNone.eq_none_int (fin_bl I q (by simp))
    | str j => obtain ⟨t', rfl⟩ := ry; exact PySem.EqNone.eq_none_str (fin_bl I q (by simp))
    | _ => exact absurd (show false = true from hs) Bool.false_ne_true
  | bl i =>
    cases rx
    cases y with
    | non => cases ry; exact PySem.EqNone.eq_bool_none (fin_bl I q (by simp))
    | bl j => cases ry; exact eq_bool (fin_bl I q dec_bl)
    | str j => obtain ⟨t', rfl⟩ := ry; exact PySem.EqMixed.eq_bool_str (fin_bl I q (by simp))
    | _ => exact absurd (show false = true from hs) Bool.false_ne_true
  | int i =>
    obtain ⟨t, rfl⟩ := rx
    cases y with
    | non => cases ry; exact PySem.EqNone.eq_int_none (fin_bl I q (by simp))
    | int j => obtain ⟨t', rfl⟩ := ry; exact eq_int (fin_bl I q dec_int)
    | str j => obtain ⟨t', rfl⟩ := ry; exact PySem.EqMixed.eq_int_str (fin_bl I q (by simp))
    | _ => exact absurd (show false = true from hs) Bool.false_ne_true
  | str i =>
    obtain ⟨t, rfl⟩ := rx
    cases y with
    | non => cases ry; exact PySem.EqNone.eq_str_none (fin_bl I q (by simp))
    | bl j => cases ry; exact PySem.EqMixed.eq_str_bool (fin_bl I q (by simp))
    | int j => obtain ⟨t', rfl⟩ := ry; exact PySem.EqMixed.eq_str_int (fin_bl I q (by simp))
    | str j => obtain ⟨t', rfl⟩ := ry; exact eq_str (fin_bl I q dec_str)
    | _ => exact absurd (show false = true from hs) Bool.false_ne_true
  | byt i =>
    obtain ⟨t, rfl⟩ := rx
    cases y with
    | byt j => obtain ⟨t', rfl⟩ := ry; exact PySem.W.eq_bytes (fin_bl I q dec_byt)
    | _ => exact absurd (show false = true from hs) Bool.false_ne_true
  | _ => cases y <;> exact absurd (show false = true from hs) Bool.false_ne_true
theorem op_ne : OpR X (compareOp .NotEq) rNe := by
  intro pins s σ H x y v u Q I rx ry h
  obtain ⟨hs, q⟩ := h
  cases x with
  | non =>
    cases rx
    cases y with
    | non => cases ry; exact PySem.EqNone.ne_none_none (fin_bl I q (by simp))
    | bl j => cases ry; exact PySem.EqNone.ne_none_bool (fin_bl I q (by simp))
    | int j => obtain ⟨t', rfl⟩ := ry; exact PySem.EqNone.ne_none_int (fin_bl I q (by simp))
    | str j => obtain ⟨t', rfl⟩ := ry; exact PySem.EqNone.ne_none_str (fin_bl I q (by simp))
    | _ => exact absurd (show false = true from hs) Bool.false_ne_true
  | bl i =>
    cases rx
    cases y with
    | non => cases ry; exact PySem.EqNone.ne_bool_none (fin_bl I q (by simp))
    | bl j => cases ry; exact ne_bool (fin_bl I q (congrArg not dec_bl))
    | str j => obtain ⟨t', rfl⟩ := ry; exact PySem.EqMixed.ne_bool_str (fin_bl I q (by simp))
    | _ => exact absurd (show false = true from hs) Bool.false_ne_true
  | int i =>
    obtain ⟨t, rfl⟩ := rx
    cases y with
    | non => cases ry; exact PySem.EqNone.ne_int_none (fin_bl I q (by simp))
    | int j => obtain ⟨t', rfl⟩ := ry; exact ne_int (fin_bl I q (congrArg not dec_int))
    | str j => obtain ⟨t', rfl⟩ := ry; exact PySem.EqMixed.ne_int_str (fin_bl I q (by simp))
    | _ => exact absurd (show false = true from hs) Bool.false_ne_true
  | str i =>
    obtain ⟨t, rfl⟩ := rx
    cases y with
    | non => cases ry; exact PySem.EqNone.ne_str_none (fin_bl I q (by simp))
    | bl j => cases ry; exact PySem.EqMixed.ne_str_bool (fin_bl I q (by simp))
    | int j => obtain ⟨t', rfl⟩ := ry; exact PySem.EqMixed.ne_str_int (fin_bl I q (by simp))
    | str j => obtain ⟨t', rfl⟩ := ry; exact ne_str (fin_bl I q (congrArg not dec_str))
    | _ => exact absurd (show false = true from hs) Bool.false_ne_true
  | byt i =>
    obtain ⟨t, rfl⟩ := rx
    cases y with
    | byt j => obtain ⟨t', rfl⟩ := ry; exact PySem.W.ne_bytes (fin_bl I q (congrArg not dec_byt))
    | _ => exact absurd (show false = true from hs) Bool.false_ne_true
  | _ => cases y <;> exact absurd (show false = true from hs) Bool.false_ne_true

theorem op_lt : OpR X (compareOp .Lt) (rI0 fun i j => .bl (decide (i < j))) := opB0 fun _ _ _ _ _ _ _ q => lt_int q
/-- is None, is not None: the right side a value none -/
theorem op_isN : OpR X (compareOp .Is) (fun x y H Q => y = .non ∧ Q (.bl (decide (x = .non))) H) := by
  intro pins s σ H x y v u Q I rx ry h
  obtain ⟨rfl, q⟩ := h
  cases ry
  refine is_none_gen (fin_bl I q ?_)
  cases x <;> first
    | (cases rx; rfl)
    | (obtain ⟨t, rfl⟩ := rx; rfl)
theorem nomark (b : Expr) {op : CmpOp} (h : op ≠ .In := by decide) (h2 : op ≠ .NotIn := by decide) : behindInMarks op b = false := by
  have e1 : (op == CmpOp.In) = false := by cases op <;> first | rfl | exact absurd rfl h
  have e2 : (op == CmpOp.NotIn) = false := by cases op <;> first | rfl | exact absurd rfl h2
  cases b <;> simp [behindInMarks, e1, e2]
/-- a comparison as a value; hm: nomark b, or (for in, not in) by with_unfolding_all rfl -/
theorem pe_cmpR {op : CmpOp} {r : R2} (ho : OpR X (compareOp op) r) (ha : PE X a ta) (hb : PE X b tb) (hm : behindInMarks op b = false) : PE X (.Compare a [op] [b] pos) (tOp r ta tb) := by
  intro pins s σ H Q I h
  exact wpAny_Compare1 (binT ha hb I h fun v u s2 x y H2 I2 rx ry q => ho pins s2 σ H2 x y v u Q I2 rx ry q) hm
/-- a reading of a value as a test -/
def tTest (t : TE) : TT := fun σ H Q => t σ H fun x H' => ∃ k, x = .bl k ∧ Q k H'
theorem pt_cmpR {op : CmpOp} {r : R2} (ho : OpR X (compareOp op) r) (ha : PE X a ta) (hb : PE X b tb) (hm : behindInMarks op b = false) : PT X (.Compare a [op] [b] pos) (tTest (tOp r ta tb)) := by
  intro pins s σ H Q I h
  refine wpAny_isTrue_Compare1 (thn (ha pins s σ H _ I h) fun v s1 ⟨x, H1, I1, r1, q1⟩ => thn (hb pins s1 σ H1 _ I1 q1) fun u s2 ⟨y, H2, I2, r2, q2⟩ =>
    thn (ho pins s2 σ H2 x y v u _ I2 r1 r2 q2) fun c s3 ⟨z, H3, I3, r3, k, e, q3⟩ => ?_) hm
  subst e
  cases r3
  exact wpAny_truthy_bool ⟨H3, I3, q3⟩
/-! ### truth -/
theorem line63 : (sizeLine : Nat) < 2 ^ 63 := by rw [sizeLine_eq]; decide
/-! ### strs and bytes -/
/-! ### scalar builtins, by CallR -/
theorem vals1 {x : V} {us : List Value} (r : Vals [x] us) : ∃ u, us = [u] ∧ RelV x u := by
  cases r with
  | cons r1 r2 => cases r2; exact ⟨_, rfl, r1⟩
theorem vals2 {x y : V} {us : List Value} (r : Vals [x, y] us) : ∃ u w', us = [u, w'] ∧ RelV x u ∧ RelV y w' := by
  cases r with
  | cons r1 r2 =>
    cases r2 with
    | cons r3 r4 => cases r4; exact ⟨_, _, rfl, r1, r3⟩
theorem call_min2 (hc : X.calm = true) : CallR X (.builtin "min") (fun xs H Q => ∃ i j, xs = [.int i, .int j] ∧ Q (.int (if j < i then j else i)) H) := by
  intro pins s σ H xs us Q I r h
  obtain ⟨i, j, rfl, q⟩ := h
  obtain ⟨u, w', rfl, ⟨t, rfl⟩, ⟨t', rfl⟩⟩ := vals2 r
  refine min_two_ints (I.ok.hd hc) fun h' tk k => ⟨_, H, I.kept k, ?_, q⟩
  by_cases hj : j < i
  · rw [if_pos hj, if_pos hj]; exact ⟨_, rfl⟩
  · rw [if_neg hj, if_neg hj]; exact ⟨_, rfl⟩
end
end L2

namespace L2
open PySem PySem.Spec PyProof.Rows

/-! ### an instance, its attributes a map -/
structure ObjM (h : Heap) (x dx C : Addr) (mA : Str → Option Value) : Prop where
  obj : h.get? x = some (PySem.W.instObj C dx)
  ns : h.Ns1 dx mA
  ne : dx ≠ x

theorem lookIn_ns {h : Heap} {dx : Addr} {mA : Str → Option Value} (n : h.Ns1 dx mA) : ∃ od, h.get? dx = some od ∧ ∀ name, PySem.W.lookIn name od = some (mA name) := by
  obtain ⟨o, es, ep, ho, hd, hk, _, hm⟩ := n
  refine ⟨o, ho, fun name => ?_⟩
  have e := hm name
  unfold nsFind findBy at e
  rw [← Array.find?_toList] at e
  unfold PySem.W.lookIn
  rw [hd]
  dsimp only
  split
  · rename_i y q
    rw [q] at e
    exact congrArg some e
  · rename_i q
    rw [q] at e
    have a : es.toList.any (·.refKey) = false := by
      rw [List.any_eq_false]
      intro y hy
      obtain ⟨z, t, hkey⟩ := hk y (Array.mem_toList_iff.mp hy)
      simp [DictEntry.refKey, hkey]
    have a' : ¬ es.toList.any (·.refKey) = true := by rw [a]; exact Bool.false_ne_true
    rw [if_neg a']
    exact congrArg some e

theorem ObjM.look {h : Heap} {x dx C : Addr} {mA : Str → Option Value} (I : ObjM h x dx C mA) : ∃ od, PySem.W.InstAt h x (PySem.W.instObj C dx) C (some od) ∧ ∀ name, PySem.W.lookIn name od = some (mA name) :=
  let ⟨od, ho, hl⟩ := lookIn_ns I.ns
  ⟨od, ⟨I.obj, rfl, rfl, ho⟩, hl⟩

section
variable {prog : Program} {w : World} {A : Around} {E : Value → Shared → Prop} {s : Shared} {K : PySem.W.Frag} {x dx C f : Addr} {mA : Str → Option Value} {name : Str} {v : Value}

theorem get_map {expr : Bool} {Q : Value → Shared → Prop} (X : K.In s.heap) (I : ObjM s.heap x dx C mA) (hg : PySem.W.plainGet K C name = true) (hh : PySem.W.hasDictIn K C = true)
    (ha : PySem.W.findIn K (.ref C) name = some none) (hv : mA name = some v) (hv' : PySem.W.handedIn v = true) (h : Q v { s with toks := s.toks + 1 }) :
    wpAny (model prog w) A (getAttr (.ref x) name expr) Q E s := by
  obtain ⟨od, J, hl⟩ := I.look
  exact PySem.W.get_value X J (PySem.W.plainGet_of hg).1 (PySem.W.findObj_own hh ha rfl (by rw [hl, hv])) hv' h

theorem get_meth {pl : Sem Bool} {Q : Value × List Value → Shared → Prop} (X : K.In s.heap) (I : ObjM s.heap x dx C mA) (hg : PySem.W.plainGet K C name = true)
    (hf : PySem.W.findIn K (.ref C) name = some (some (.ref f))) (ht : PySem.W.isFn K (.ref f) = true) (hv : mA name = none) (h : Q (.ref f, [.ref x]) s) :
    wpAny (model prog w) A (getMethod (.ref x) name pl) Q E s := by
  obtain ⟨od, J, hl⟩ := I.look
  exact PySem.W.method_fn X J (PySem.W.plainGet_of hg).1 (PySem.W.plainGet_of hg).2 hf (beq_iff_eq.mp ht) (by show (PySem.W.lookIn name od).map (·.isSome) = some false; rw [hl, hv]; rfl) h

theorem set_map {ns : List Str} {Q : Unit → Shared → Prop} (X : K.In s.heap) (I : ObjM s.heap x dx C mA)
    (hs : PySem.W.findIn K (.ref C) "__setattr__" = some (some (.builtin "object.__setattr__"))) (hp : PySem.W.plainOver K C = true) (ht : PySem.W.takerIn K C name = some none) (hh : PySem.W.hasDictIn K C = true)
    (hw : PySem.Within mA ns) (hsz : ns.length ≤ sizeLine)
    (h : ∀ h', ObjM h' x dx C (fun y => if y = name then some v else mA y) → Heap.SameBut dx s.heap h' → Q () { s with heap := h', toks := s.toks + 2 }) :
    wpAny (model prog w) A (setAttr (.ref x) name v) Q E s := by
  obtain ⟨od, J, hl⟩ := I.look
  refine PySem.W.set_plain X J hs (PySem.W.osa_open (s := { s with toks := s.toks + 1 }) (r := none) X J hp ht fun b => ?_)
  obtain ⟨cd, hc, hd'⟩ := PySem.W.any_some hh
  have hx : s.heap.get? x = some ⟨.ref C, some dx, .plain, #[]⟩ := I.obj
  refine wpAny_bind (wpAny_pure (wpAny_bind (wpAny_bind (wpAny_loadPart hx (wpAny_bind (PySem.W.Looks.here (s := { s with toks := s.toks + 1 }) (PySem.W.looks_clsIn X hc) ?_))))))
  rw [hd']
  refine wpAny_pure (a := some dx) (wpAny_bind (wpAny_pure (wpAny_bind ?_)))
  refine wpAny_nsSet1 (s := { s with toks := s.toks + 1 }) I.ns fun h' hn2 hs2 => ?_
  obtain ⟨oD, esD, epD, hoD, hdD, hcD⟩ := hn2.count (PySem.Within.cons name v hw)
  refine wpAny_bind (wpAny_lookBehind hoD (by rw [hdD]; exact pastItsLine_dict (Nat.le_trans hcD (by rw [List.length_cons]; omega))) ?_)
  exact wpAny_pure (h _ ⟨(hs2.2 _ (Ne.symm I.ne)).trans I.obj, hn2, I.ne⟩ hs2)

/-- C(..): the dict at the heap's end, the instance behind it; then its __init__ -/
theorem make_map {R : Result → Shared → Prop} {vs : List Value} {kw : List (Str × Value)} (X : K.In s.heap) (hm : PySem.W.makesIn K C = true)
    (hi : PySem.W.findIn K (.ref C) "__init__" = some (some (.ref f))) (hf : PySem.W.typeIn K (.ref f) = some (.type "function"))
    (h : codeAny (model prog w) (A.under (.builtin "type.__call__" ⟨.ref C :: vs, kw⟩)) (.call (.ref f) ⟨.ref (s.heap.objs.size + 1) :: vs, kw⟩) (PySem.W.InitBack (s.heap.objs.size + 1) R)
      { s with heap := (s.heap.push PySem.W.emptyDict).push (PySem.W.instObj C s.heap.objs.size) }) :
    codeAny (model prog w) A (.call (.ref C) ⟨vs, kw⟩) R s := by
  obtain ⟨hh, g, d, t, os⟩ := s
  exact PySem.W.make_core (PySem.W.makes_of X hm) (PySem.W.looks_findIn X hi) (fun self => PySem.W.bind_fn X self hf) (.inl rfl) h
end

/-! ### the attributes as a list of pairs -/
def putF (f : Str) (v : V) : List (Str × V) → List (Str × V)
  | [] => [(f, v)]
  | (g, x) :: r => if g = f then (g, v) :: r else (g, x) :: putF f v r
theorem lookup_putF (f g : Str) (v : V) : ∀ fs : List (Str × V), (putF f v fs).lookup g = if g = f then some v else fs.lookup g
  | [] => by
    show List.lookup g [(f, v)] = _
    by_cases h : g = f
    · have hb : (g == f) = true := beq_iff_eq.mpr h
      simp only [List.lookup, hb, if_pos h]
    · have hb : (g == f) = false := beq_eq_false_iff_ne.mpr h
      simp only [List.lookup, hb, if_neg h]
  | (k, x) :: r => by
    have ih := lookup_putF f g v r
    rw [show putF f v ((k, x) :: r) = (if k = f then (k, v) :: r else (k, x) :: putF f v r) from rfl]
    by_cases hk : k = f
    · rw [if_pos hk]
      by_cases h : g = k
      · have hb : (g == k) = true := beq_iff_eq.mpr h
        simp only [List.lookup, hb, if_pos (h.trans hk)]
      · have hb : (g == k) = false := beq_eq_false_iff_ne.mpr h
        simp only [List.lookup, hb, if_neg (fun e : g = f => h (e.trans hk.symm))]
    · rw [if_neg hk]
      by_cases h : g = k
      · have hb : (g == k) = true := beq_iff_eq.mpr h
        simp only [List.lookup, hb, if_neg (fun e : g = f => hk (h.symm.trans e))]
      · have hb : (g == k) = false := beq_eq_false_iff_ne.mpr h
        simp only [List.lookup, hb]
        exact ih
theorem keys_putF (f : Str) (v : V) : ∀ fs : List (Str × V), f ∈ (putF f v fs).map (·.1) ∧ ∀ g, g ∈ fs.map (·.1) → g ∈ (putF f v fs).map (·.1)
  | [] => ⟨by simp [putF], fun g h => by simp at h⟩
  | (k, x) :: r => by
    obtain ⟨i1, i2⟩ := keys_putF f v r
    rw [show putF f v ((k, x) :: r) = (if k = f then (k, v) :: r else (k, x) :: putF f v r) from rfl]
    by_cases hk : k = f
    · rw [if_pos hk]
      subst hk
      exact ⟨by simp, fun g h => by simpa using h⟩
    · rw [if_neg hk]
      refine ⟨?_, fun g h => ?_⟩
      · rw [List.map_cons]
        exact List.mem_cons_of_mem _ i1
      · rw [List.map_cons] at h ⊢
        rcases List.mem_cons.mp h with e | e
        · exact List.mem_cons.mpr (.inl e)
        · exact List.mem_cons_of_mem _ (i2 g e)
theorem length_putF (f : Str) (v : V) : ∀ fs : List (Str × V), (putF f v fs).length ≤ fs.length + 1
  | [] => by simp [putF]
  | (k, x) :: r => by
    have ih := length_putF f v r
    rw [show putF f v ((k, x) :: r) = (if k = f then (k, v) :: r else (k, x) :: putF f v r) from rfl]
    by_cases hk : k = f
    · rw [if_pos hk, List.length_cons, List.length_cons]; omega
    · rw [if_neg hk, List.length_cons, List.length_cons]; omega

theorem RelO.some_of {v : V} {o : Option Value} (r : RelO (some v) o) : ∃ u, o = some u ∧ RelV v u := by
  cases o with
  | none => exact (show False from r).elim
  | some u => exact ⟨u, rfl, r⟩
theorem RelO.none_of {o : Option Value} (r : RelO none o) : o = none := by
  cases o with
  | none => rfl
  | some u => exact (show False from r).elim
theorem handed_of {v : V} {u : Value} (r : RelV v u) : PySem.W.handedIn u = true := by
  cases v with
  | non => cases (show u = Value.none from r); rfl
  | bl b => cases (show u = Value.bool b from r); rfl
  | int i => obtain ⟨t, e⟩ := (show ∃ t, u = Value.int i t from r); cases e; rfl
  | str x => obtain ⟨t, e⟩ := (show ∃ t, u = Value.str x t from r); cases e; rfl
  | byt b => obtain ⟨t, e⟩ := (show ∃ t, u = Value.bytes b t from r); cases e; rfl
  | flt b => obtain ⟨t, e⟩ := (show ∃ t, u = Value.float b t from r); cases e; rfl
  | ref a => cases (show u = Value.ref a from r); rfl
  | ty n => cases (show u = Value.type n from r); rfl

section
variable {P : Program} {w : World} {H H' : Hp} {h h' : Heap} {a C dx : Addr} {fs fs' : List (Str × V)}
theorem ins_get (hok : HOk P w H h) (e : H a = some (.ins C dx fs)) : ∃ mA, ObjM h a dx C mA ∧ (∀ f, RelO (fs.lookup f) (mA f)) ∧ PySem.Within mA (fs.map (·.1)) ∧ fs.length ≤ 1000 ∧ H dx = some (.own a) := by
  obtain ⟨d, z, ne, ob, mA, n, r, q⟩ := (show ObjOk P w H h a (.ins C dx fs) from hok a _ e)
  exact ⟨mA, ⟨ob, n, ne⟩, r, q, z, d⟩
end

/-! ### what of the text a class must have -/
structure Cls (K : PySem.W.Frag) (C : Addr) : Prop where
  pg : PySem.W.plainGet K C Str.empty = true
  hd : PySem.W.hasDictIn K C = true
  po : PySem.W.plainOver K C = true
  sa : PySem.W.findIn K (.ref C) "__setattr__" = some (some (.builtin "object.__setattr__"))
theorem Cls.get {K : PySem.W.Frag} {C : Addr} (c : Cls K C) (f : Str) : PySem.W.plainGet K C f = true := c.pg
/-- no class of it has the name -/
def NoAttr (K : PySem.W.Frag) (C : Addr) (f : Str) : Prop := PySem.W.findIn K (.ref C) f = some none
theorem NoAttr.taker {K : PySem.W.Frag} {C : Addr} {f : Str} (n : NoAttr K C f) : PySem.W.takerIn K C f = some none := by
  unfold PySem.W.takerIn
  rw [show PySem.W.findIn K (.ref C) f = some none from n]
  rfl
/-- a method: a plain def of the class or of one above it -/
structure Meth (K : PySem.W.Frag) (C : Addr) (m : Str) (f : Addr) : Prop where
  at_ : PySem.W.findIn K (.ref C) m = some (some (.ref f))
  fn : PySem.W.isFn K (.ref f) = true
  kp : PySem.W.keepIn K (.ref f) = true

section
variable {X : Cx} {pins : List (Addr × Obj)} {σ : St} {H : Hp} {s : Shared} {a C dx : Addr} {fs : List (Str × V)} {f : Str} {v : V} {A : Around} {E : Value → Shared → Prop}

theorem getattr_ok {b : Bool} {Q : Value → Shared → Prop} (I : Inv X pins σ H s) (e : H a = some (.ins C dx fs)) (c : Cls X.K C) (n : NoAttr X.K C f) (l : fs.lookup f = some v)
    (h : ∀ u s', Inv X pins σ H s' → RelV v u → Q u s') : wpAny (model X.prog X.w) A (getAttr (.ref a) f b) Q E s := by
  obtain ⟨mA, O, r, _, _, _⟩ := ins_get I.hok e
  obtain ⟨u, hu, ru⟩ := RelO.some_of (v := v) (o := mA f) (by rw [← l]; exact r f)
  exact get_map I.kIn O (c.get f) c.hd n hu (handed_of ru) (h u _ (I.tok _) ru)

theorem getmeth_ok {m : Str} {g : Addr} {pl : Sem Bool} {Q : Value × List Value → Shared → Prop} (I : Inv X pins σ H s) (e : H a = some (.ins C dx fs)) (c : Cls X.K C) (k : Meth X.K C m g) (l : fs.lookup m = none)
    (h : Q (.ref g, [.ref a]) s) : wpAny (model X.prog X.w) A (getMethod (.ref a) m pl) Q E s := by
  obtain ⟨mA, O, r, _, _, _⟩ := ins_get I.hok e
  have hn : mA m = none := RelO.none_of (by rw [← l]; exact r m)
  exact get_meth I.kIn O (c.get m) k.at_ k.fn hn h

theorem setattr_ok {y : V} {u : Value} {Q : Unit → Shared → Prop} (I : Inv X pins σ H s) (e : H a = some (.ins C dx fs)) (c : Cls X.K C) (n : NoAttr X.K C f) (hl : fs.length < 1000) (ry : RelV y u)
    (h : ∀ s', Inv X pins σ (upd H a (.ins C dx (putF f y fs))) s' → Q () s') : wpAny (model X.prog X.w) A (setAttr (.ref a) f u) Q E s := by
  obtain ⟨mA, O, r, wi, _, ho⟩ := ins_get I.hok e
  have hz : (fs.map (·.1)).length ≤ sizeLine := by rw [List.length_map, sizeLine_eq]; omega
  refine set_map I.kIn O c.sa c.po n.taker c.hd wi hz fun h' O' sb => h _ ?_
  have hd : ∃ o, h'.get? dx = some o := let ⟨o, _, _, e', _⟩ := O'.ns; ⟨o, e'⟩
  refine I.write (x := a) (e := dx) (by rw [e]; exact True.intro) (.inr ho) (fun b q hb z => (sb.2 b hb).trans z) hd ?_
  refine ⟨by rw [upd_ne O.ne]; exact ho, ?_, O.ne, O'.obj, _, O'.ns, fun g => ?_, fun g hg => ?_⟩
  · have := length_putF f y fs; omega
  · show RelO ((putF f y fs).lookup g) (if g = f then some u else mA g)
    rw [lookup_putF]
    by_cases q : g = f
    · rw [if_pos q, if_pos q]; exact ry
    · rw [if_neg q, if_neg q]; exact r g
  · by_cases q : g = f
    · rw [q]; exact (keys_putF f y fs).1
    · refine (keys_putF f y fs).2 g (wi g fun z => hg ?_)
      show (if g = f then some u else mA g) = none
      rw [if_neg q]; exact z

/-- a new instance, tracked, without attributes -/
theorem Inv.made (I : Inv X pins σ H s) : Inv X pins σ (upd (upd H s.heap.objs.size (.own (s.heap.objs.size + 1))) (s.heap.objs.size + 1) (.ins C s.heap.objs.size []))
    { s with heap := (s.heap.push PySem.W.emptyDict).push (PySem.W.instObj C s.heap.objs.size) } := by
  have e1 : (s.heap.push PySem.W.emptyDict).get? s.heap.objs.size = some PySem.W.emptyDict := Heap.get?_push_size s.heap rfl
  have e2 : ((s.heap.push PySem.W.emptyDict).push (PySem.W.instObj C s.heap.objs.size)).get? (s.heap.objs.size + 1) = some (PySem.W.instObj C s.heap.objs.size) := by
    have := Heap.get?_push_size (s.heap.push PySem.W.emptyDict) (o := PySem.W.instObj C s.heap.objs.size) rfl
    rwa [Heap.size_push] at this
  have e3 : (s.heap.push PySem.W.emptyDict).Ns s.heap.objs.size (fun _ => none) := ⟨PySem.W.emptyDict, #[], _, e1, rfl, (fun e he => absurd he (by simp)), fun _ => rfl⟩
  have I1 := I.laid (a := s.heap.objs.size) (o := .own (s.heap.objs.size + 1)) (h' := s.heap.push PySem.W.emptyDict) (t' := s.toks) (fun b u q => Heap.get?_push_of_some _ q) (Nat.le_refl _) ⟨_, e1⟩
  refine I1.laid (a := s.heap.objs.size + 1) (o := .ins C s.heap.objs.size []) (t' := s.toks) (fun b u q => Heap.get?_push_of_some _ q) (Nat.le_of_eq (Heap.size_push _ _)) ?_
  have ne : s.heap.objs.size ≠ s.heap.objs.size + 1 := Nat.ne_of_lt (Nat.lt_succ_self _)
  refine ⟨by rw [upd_ne ne, upd_same], Nat.zero_le _, ne, e2, fun _ => none, (Heap.Ns1.of_empty e3).at fun o q => Heap.get?_push_of_some _ q, fun _ => True.intro, fun y hy => absurd rfl hy⟩

/-- e.f where nothing but the object is asked: through attributeBase (super) and the last hold -/
theorem attr_of {prog : Program} {w : World} {env : Env} {e : Expr} {f : Str} {pos : Pos} {s : Shared} {Q : Value → Shared → Prop} (hb : attributeBase e f env (eval e env) = eval e env)
    (h : wpAny (model prog w) A (eval e env) (fun o s₁ => wpAny (model prog w) A (getAttr o f true) Q E s₁) E s) : wpAny (model prog w) A (eval (.Attribute e f pos) env) Q E s :=
  Attribute_any_ h (by rw [arm_eval_Attribute, hb])
end

/-! ### readings and rules -/
/-- e.f, an attribute of the instance -/
def tFld (K : PySem.W.Frag) (ta : TE) (f : Str) : TE := fun σ H Q => ta σ H fun x H1 => ∃ a C dx fs v, x = .ref a ∧ H1 a = some (.ins C dx fs) ∧ Cls K C ∧ NoAttr K C f ∧ fs.lookup f = some v ∧ Q v H1
/-- e.f = value -/
def sFld (K : PySem.W.Frag) (ta tv : TE) (f : Str) : TS := fun D σ H => tv σ H fun y H1 => ta σ H1 fun x H2 => ∃ a C dx fs, x = .ref a ∧ H2 a = some (.ins C dx fs) ∧ Cls K C ∧ NoAttr K C f ∧ fs.length < 1000 ∧
  D.nx σ (upd H2 a (.ins C dx (putF f y fs)))
section
variable {X : Cx} {o e value : Expr} {f : Str} {pos pos' tpos : Pos} {ta tv : TE}
theorem pe_fld (he : PE X e ta) (hb : attributeBase e f X.env (eval e X.env) = eval e X.env) : PE X (.Attribute e f pos) (tFld X.K ta f) := by
  intro pins s σ H Q I h
  refine attr_of hb (thn (he pins s σ H _ I h) fun u s1 ⟨x, H1, I1, rx, a, C, dx, fs, v, ex, ea, c, n, l, q⟩ => ?_)
  subst ex
  obtain rfl : u = Value.ref a := rx
  exact getattr_ok I1 ea c n l fun u' s2 I2 ru => ⟨v, H1, I2, ru, q⟩
theorem ps_fld (ha : PE X o ta) (hv : PE X value tv) (hs : swapsWith value (some (.Attribute o f pos')) pos.line X.env = pure false) : PS X (.Assign [.Attribute o f pos'] value pos) (sFld X.K ta tv f) := by
  intro pins s σ H D I h
  refine plainObj_wpAny_Assign_Attribute (thn (hv pins s σ H _ I h) fun u s1 ⟨y, H1, I1, ry, q⟩ => thn (ha pins s1 σ H1 _ I1 q) fun ov s2 ⟨x, H2, I2, rx, a, C, dx, fs, ex, ea, c, n, l, q2⟩ => ?_) hs
  subst ex
  obtain rfl : ov = Value.ref a := rx
  exact setattr_ok I2 ea c n l ry fun s3 I3 => ⟨σ, _, I3, q2⟩
end

/-! ### isinstance -/
section
variable {X : Cx} {pins : List (Addr × Obj)} {σ : St} {H : Hp} {s : Shared} {A : Around} {E : Value → Shared → Prop} {Q : Value → Shared → Prop} {c : Value} {b : Bool}
/-- the type of a value, as the fragment's deciders take it; for an instance its class -/
inductive TyOf (K : PySem.W.Frag) (H : Hp) : V → Value → Prop where
  | non : TyOf K H .non (.type "NoneType")
  | bl (x : Bool) : TyOf K H (.bl x) (.type "bool")
  | int (i : Int) : TyOf K H (.int i) (.type "int")
  | str (x : Str) : TyOf K H (.str x) (.type "str")
  | flt (x : UInt64) : TyOf K H (.flt x) (.type "float")
  | lst {a : Addr} {xs : List V} (e : H a = some (.lst xs)) : TyOf K H (.ref a) (.type "list")
  | frz {a : Addr} {o : Obj} {xs : List V} (e : H a = some (.frz o (.lst xs))) : TyOf K H (.ref a) (.type "list")
  | tup {a : Addr} {xs : List V} (e : H a = some (.tup xs)) : TyOf K H (.ref a) (.type "tuple")
  | dK {a : Addr} {kvs : List (Key × V)} (e : H a = some (.dK kvs)) : TyOf K H (.ref a) (.type "dict")
  | dT {a : Addr} {kvs : List (List Key × V)} (e : H a = some (.dT kvs)) : TyOf K H (.ref a) (.type "dict")
  | ins {a C dx : Addr} {fs : List (Str × V)} (e : H a = some (.ins C dx fs)) (cl : Cls K C) (ha : PySem.W.findIn K (.ref C) "__class__" = some (some (.builtin "object.__class__")))
      (hn : PySem.W.specialIn K (.builtin "object.__class__") "__get__" = some (some (.builtin "getset_descriptor.__get__"))) (htk : PySem.W.takesIn K (.builtin "object.__class__") = some true)
      (hm : PySem.W.mroIn K C (.type "object") = some true) : TyOf K H (.ref a) (.ref C)
/-- isinstance(x, c) for one class c, a built-in or an own one: kitOne's answer -/
theorem isinst_ok {x : V} {u t : Value} (I : Inv X pins σ H s) (rx : RelV x u) (ty : TyOf X.K H x t) (e : PySem.W.kitOne X.K t c = some b) (h : ∀ tk, Q (.bool b) { s with toks := tk }) :
    wpAny (model X.prog X.w) A (call (.builtin "isinstance") [u, c]) Q E s := by
  cases ty with
  | non => cases (show u = Value.none from rx); exact PySem.W.kia_one PySem.W.kitx_none I.kIn True.intro e (fun z => nomatch z) h
  | bl y => cases (show u = Value.bool y from rx); exact PySem.W.kia_one PySem.W.kitx_bool I.kIn True.intro e (fun z => nomatch z) h
  | int i => obtain ⟨t, q⟩ := (show ∃ t, u = Value.int i t from rx); cases q; exact PySem.W.kia_one PySem.W.kitx_int I.kIn True.intro e (fun z => nomatch z) h
  | str y => obtain ⟨t, q⟩ := (show ∃ t, u = Value.str y t from rx); cases q; exact PySem.W.kia_one PySem.W.kitx_str I.kIn True.intro e (fun z => nomatch z) h
  | flt y => obtain ⟨t, q⟩ := (show ∃ t, u = Value.float y t from rx); cases q; exact PySem.W.kia_one PySem.W.kitx_float I.kIn True.intro e (fun z => nomatch z) h
  | @lst a xs ea =>
    cases (show u = Value.ref a from rx)
    obtain ⟨_, _, n, _, h1⟩ := (show ObjOk X.prog X.w H s.heap a (.lst xs) from I.hok a _ ea)
    exact PySem.W.kia_one PySem.W.kitx_list I.kIn ⟨_, h1, rfl⟩ e (fun z => nomatch z) h
  | @frz a ob xs ea =>
    cases (show u = Value.ref a from rx)
    obtain ⟨_, _, _, n, _, h1⟩ := (show ObjOk X.prog X.w H s.heap a (.frz ob (.lst xs)) from I.hok a _ ea)
    exact PySem.W.kia_one PySem.W.kitx_list I.kIn ⟨_, h1, rfl⟩ e (fun z => nomatch z) h
  | @tup a xs ea =>
    cases (show u = Value.ref a from rx)
    obtain ⟨_, _, _, p⟩ := (show ObjOk X.prog X.w H s.heap a (.tup xs) from I.hok a _ ea)
    obtain ⟨o, h1, h2, _⟩ := p
    exact PySem.W.kia_one PySem.W.kitx_tuple I.kIn ⟨o, h1, h2⟩ e (fun z => nomatch z) h
  | @dK a kvs ea =>
    cases (show u = Value.ref a from rx)
    obtain ⟨_, _, vs, _, p⟩ := (show ObjOk X.prog X.w H s.heap a (.dK kvs) from I.hok a _ ea)
    obtain ⟨o, es, ep, h1, h2, _⟩ := p
    exact PySem.W.kia_one PySem.W.kitx_dict I.kIn ⟨o, h1, h2.1⟩ e (fun z => nomatch z) h
  | @dT a kvs ea =>
    cases (show u = Value.ref a from rx)
    obtain ⟨_, _, xs, _, o, es, ep, h1, h2, _⟩ := (show ObjOk X.prog X.w H s.heap a (.dT kvs) from I.hok a _ ea)
    exact PySem.W.kia_one PySem.W.kitx_dict I.kIn ⟨o, h1, h2.1⟩ e (fun z => nomatch z) h
  | @ins a C dx fs ea cl ha hn htk hm =>
    cases (show u = Value.ref a from rx)
    obtain ⟨mA, O, _⟩ := ins_get I.hok ea
    obtain ⟨od, J, _⟩ := O.look
    exact PySem.W.kia_one (PySem.W.kitx_own (cl.get _) cl.hd ha hn htk hm) I.kIn J e (fun z => nomatch z) h
end
end L2

namespace L2
open PySem PySem.Spec PyProof.Rows

/-! ### room -/
structure Room (k : Nat) (A : Around) : Prop where
  hd : A.handled = none
  dp : A.depth + 3 * k + 5 < recursionLimit
  un : A.units + 16 * k + 200 < cLine
theorem Room.mono {j k : Nat} {A : Around} (r : Room k A) (h : j ≤ k) : Room j A := ⟨r.hd, by have := r.dp; omega, by have := r.un; omega⟩
theorem Room.deeper {k : Nat} {A : Around} (r : Room (k + 1) A) (env : Env) : Room k (A.deeper env) :=
  ⟨r.hd, by have := r.dp; show A.depth + 1 + 3 * k + 5 < _; omega, by have := r.un; show A.units + 3 + 16 * k + 200 < _; omega⟩
theorem make_depth {A : Around} {C : Addr} {us : List Value} {kw : List (Str × Value)} : (A.under (.builtin "type.__call__" ⟨.ref C :: us, kw⟩)).depth = A.depth + 1 := by
  first | rfl | simp [Around.under, Code.weight, Code.isCreation, Code.isGuard, Code.isCaller, Code.frames, Code.isFrame, guardIds]
theorem make_units {A : Around} {C : Addr} {us : List Value} {kw : List (Str × Value)} : (A.under (.builtin "type.__call__" ⟨.ref C :: us, kw⟩)).units = A.units + 1 := by
  first | rfl | simp [Around.under, Code.cUnits, Code.frames, Code.isFrame]
theorem Room.make {k : Nat} {A : Around} (r : Room (k + 1) A) (C : Addr) (us : List Value) (kw : List (Str × Value)) : Room k (A.under (.builtin "type.__call__" ⟨.ref C :: us, kw⟩)) :=
  ⟨r.hd, by have := r.dp; rw [make_depth]; omega, by have := r.un; rw [make_units]; omega⟩
theorem Room.depth {k : Nat} {A : Around} (r : Room k A) : A.depth < recursionLimit := by have := r.dp; omega
theorem Room.units {k : Nat} {A : Around} (r : Room k A) : A.units + 64 < cLine := by have := r.un; omega
/-! ### argument lists and displays -/
def tNil : TA := fun _ H Q => Q [] H
def tCons (ta : TE) (tr : TA) : TA := fun σ H Q => ta σ H fun x H1 => tr σ H1 fun xs H2 => Q (x :: xs) H2
section
variable {X : Cx} {e : Expr} {es : List Expr} {te : TE} {t : TA} {pos : Pos}
theorem pa_nil : PA X [] tNil := fun _ _ _ _ H Q I h => Calls.spliced_nil ⟨[], H, I, .nil, h⟩
theorem pa_cons (ha : PE X e te) (hr : PA X es t) (hs : starEach (e :: es) X.env = (false, eval e X.env) :: starEach es X.env := by rfl) : PA X (e :: es) (tCons te t) := by
  intro pos pins s σ H Q I h
  rw [hs]
  show wpAny _ _ (spliced ((false, eval e X.env) :: backTo pos (starEach es X.env))) _ _ s
  refine Calls.spliced_cons (thn (ha pins s σ H _ I h) fun u s1 ⟨x, H1, I1, r1, q1⟩ => ?_)
  exact thn (hr pos pins s1 σ H1 _ I1 q1) fun us s2 ⟨xs, H2, I2, r2, q2⟩ => ⟨x :: xs, H2, I2, .cons r1 r2, q2⟩

/-- a tuple, a list of written items -/
def tTup (t : TA) : TE := fun σ H Q => t σ H fun xs H1 => xs.length ≤ sizeLine ∧ ∀ p, H1 p = none → Q (.ref p) (upd H1 p (.tup xs))
def tLst (t : TA) : TE := fun σ H Q => t σ H fun xs H1 => xs.length ≤ sizeLine ∧ ∀ p, H1 p = none → Q (.ref p) (upd H1 p (.lst xs))
theorem pe_tup {x1} (h : PA X es t) : PE X (.Tuple es x1 pos) (tTup t) := by
  intro pins s σ H Q I hq
  refine wpAny_Tuple_spliced (thn (h pos pins s σ H _ I hq) fun us s1 ⟨xs, H1, I1, r, z, q⟩ => ⟨by rw [← r.length]; exact z, ?_⟩)
  have hf : H1 s1.heap.objs.size = none := I1.hok.fresh (Nat.le_refl _)
  refine ⟨.ref s1.heap.objs.size, upd H1 s1.heap.objs.size (.tup xs), I1.laid (t' := s1.toks) (fun b u e => Heap.get?_push_of_some _ e) (Nat.le_refl _) ?_, rfl, q _ hf⟩
  exact ⟨z, us, r, ⟨_, Heap.get?_push_size _ rfl, rfl, _, rfl⟩⟩
theorem pe_lst (h : PA X es t) : PE X (.List es pos) (tLst t) := by
  intro pins s σ H Q I hq
  refine wpAny_List_spliced (thn (h pos pins s σ H _ I hq) fun us s1 ⟨xs, H1, I1, r, z, q⟩ => ⟨by rw [← r.length]; exact z, ?_⟩)
  have hf : H1 s1.heap.objs.size = none := I1.hok.fresh (Nat.le_refl _)
  refine ⟨.ref s1.heap.objs.size, upd H1 s1.heap.objs.size (.lst xs), I1.laid (t' := s1.toks) (fun b u e => Heap.get?_push_of_some _ e) (Nat.le_refl _) ?_, rfl, q _ hf⟩
  exact ⟨z, us, 0, r, Heap.get?_push_size _ rfl⟩
end

/-! ### what a def promises -/
/-- a def's promise: the bound arguments in the parameters' order, the heap, the wanted end, the wanted exception -/
abbrev Sp := List V → Hp → VK → XK → Prop
/-- how an exception lies behind a call (file 08 gives it): the callers' frames, abstract heap and state ahead of the call, the wish, the exception, the state -/
abbrev CXT := List Env → Hp → Shared → XK → Value → Shared → Prop

/-- the state at a call -/
structure Env0 (P : Program) (w : World) (K : PySem.W.Frag) (mg : Str → Option Value) (base : Heap) (A : Around) (outer : List Env) (s : Shared) (H : Hp) : Prop where
  frames : A.frames = some outer
  mod : Mod K mg base
  bs : ∀ b o, base.get? b = some o → s.heap.get? b = some o ∧ H b = none
  bsz : base.objs.size ≤ s.heap.objs.size
  funs : s.heap.FunFrames base outer
  frf : ∀ b ∈ frs outer, H b = none
  hok : HOk P w H s.heap
  bare : AllBare s.gens
/-- a call's end -/
def CE (outer : List Env) (P : Program) (w : World) (H : Hp) (s : Shared) (Q : VK) (u : Value) (s' : Shared) : Prop :=
  ∃ v H', s'.os = s.os ∧ AllBare s'.gens ∧ Un (frs outer) [] H H' s.heap s'.heap ∧ HOk P w H' s'.heap ∧ RelV v u ∧ Q v H'
def CR (CX : CXT) (outer : List Env) (P : Program) (w : World) (H : Hp) (s : Shared) (Q : VK) (E : XK) (r : Result) (s' : Shared) : Prop :=
  match r with
  | .ok (.ret u) => CE outer P w H s Q u s'
  | .ok _ => False
  | .error e => CX outer H s E e s'
structure FnOk (P : Program) (w : World) (K : PySem.W.Frag) (mg : Str → Option Value) (base : Heap) (CX : CXT) (k : Nat) (f : Addr) (fd : FuncData) (ps : List Str) (sp : Sp) : Prop where
  len : ∀ vs H Q E, sp vs H Q E → vs.length = ps.length
  run : ∀ (A : Around) (outer : List Env) (s : Shared) (H : Hp) (args : Args) (us : List Value) (vs : List V) (Q : VK) (E : XK), Room k A → Env0 P w K mg base A outer s H → BindsTo s fd args (ps.zip us) → Vals vs us → sp vs H Q E →
    codeAny (model P w) A (.call (.ref f) args) (CR CX outer P w H s Q E) s
theorem Env0.make {P : Program} {w : World} {K : PySem.W.Frag} {mg : Str → Option Value} {base : Heap} {A : Around} {outer : List Env} {s : Shared} {H : Hp} (e : Env0 P w K mg base A outer s H) (C : Addr) (us : List Value) (kw : List (Str × Value)) :
    Env0 P w K mg base (A.under (.builtin "type.__call__" ⟨.ref C :: us, kw⟩)) outer s H := ⟨by first | exact e.frames | (simpa [Around.under, Code.envs, Code.isFrame, pushEnvs] using e.frames), e.mod, e.bs, e.bsz, e.funs, e.frf, e.hok, e.bare⟩
section
variable {X : Cx} {pins : List (Addr × Obj)} {σ : St} {H : Hp} {s s' : Shared}
/-- from a body: what a callee wants -/
theorem Inv.env0 (I : Inv X pins σ H s) : Env0 X.prog X.w X.K X.mg X.base X.A X.stack s H :=
  ⟨I.ok.frames, I.ok.mod, I.bs, Nat.le_trans I.ok.bsz I.sz, I.stack, I.stkFree, I.hok, I.bare⟩
/-- behind a call -/
theorem Inv.after {Q : VK} {u : Value} (I : Inv X pins σ H s) (h : CE X.stack X.prog X.w H s Q u s') : EP X pins σ Q u s' := by
  obtain ⟨v, H', os, bare, un, hok, r, q⟩ := h
  obtain ⟨hh, g, d, t, os'⟩ := s'
  obtain rfl : os' = s.os := os
  exact ⟨v, H', I.call (h' := hh) (g' := g) (d' := d) (t' := t) (ch := []) un hok bare (fun b z => absurd z (by simp)), r, q⟩
end

/-! ### calls -/
/-- f(..): the written arguments, then the defaults dvs; E: what is wanted of an exception -/
def tCall (sp : Sp) (dvs : List V) (E : XK) (t : TA) : TE := fun σ H Q => t σ H fun vs H1 => sp (vs ++ dvs) H1 Q E
/-- o.m(..) of an instance of the class at C -/
def tMeth (C : Addr) (m : Str) (sp : Sp) (dvs : List V) (E : XK) (ta : TE) (t : TA) : TE := fun σ H Q => ta σ H fun x H1 => ∃ a dx fs, x = .ref a ∧ H1 a = some (.ins C dx fs) ∧ fs.lookup m = none ∧
  t σ H1 fun vs H2 => sp (x :: (vs ++ dvs)) H2 Q E
/-- C(..): a new instance and its dict, then __init__ -/
def tMake (C : Addr) (sp : Sp) (dvs : List V) (E : XK) (t : TA) : TE := fun σ H Q => t σ H fun vs H1 => ∀ x dx, H1 x = none → H1 dx = none → dx ≠ x →
  sp (.ref x :: (vs ++ dvs)) (upd (upd H1 dx (.own x)) x (.ins C dx [])) (fun v H2 => v = .non ∧ Q (.ref x) H2) E

/-- how the parameters are bound: us the positional arguments, kw the keywords' values by name, ds the defaults that fill up -/
def Binds (K : PySem.W.Frag) (fd : FuncData) (ps : List Str) (ds : List Value) : Prop :=
  ∀ (s : Shared) (us : List Value), K.In s.heap → (us ++ ds).length = ps.length → BindsTo s fd ⟨us, []⟩ (ps.zip (us ++ ds))
/-- every parameter is given -/
theorem Binds.all {K : PySem.W.Frag} {fd : FuncData} {ps : List Str} (h : ∀ us : List Value, us.length = ps.length → bindArgs fd ⟨us, []⟩ = pure (ps.zip us)) : Binds K fd ps [] := fun s us _ hl => by
  rw [List.append_nil] at hl ⊢
  exact .of_eq (h us hl)

/-- an exception of a callee reaches what this body wants of exceptions -/
def Passes (CX : CXT) (X : Cx) (E : XK) : Prop := ∀ (pins : List (Addr × Obj)) (σ : St) (H : Hp) (s : Shared) (e : Value) (s' : Shared), Inv X pins σ H s → CX X.stack H s E e s' → X.xe e s'

section
variable {X : Cx} {CX : CXT} {k : Nat} {f C : Addr} {fd : FuncData} {ps : List Str} {sp : Sp} {dvs : List V} {ds : List Value} {E : XK} {x m : Str} {p pos apos : Pos} {e o : Expr} {es : List Expr} {ta : TE} {t : TA}

/-- the callee runs -/
theorem run_fn {pins : List (Addr × Obj)} {σ : St} {H : Hp} {s : Shared} {Q : VK} {us : List Value} {vs : List V} (F : FnOk X.prog X.w X.K X.mg X.base CX k f fd ps sp) (hr : Room k X.A) (hb : Binds X.K fd ps ds) (hd : Vals dvs ds) (hx : Passes CX X E)
    (I : Inv X pins σ H s) (r : Vals vs us) (h : sp (vs ++ dvs) H Q E) : wpAny (model X.prog X.w) X.A (call (.ref f) us) (EP X pins σ Q) X.xe s := by
  have r2 : Vals (vs ++ dvs) (us ++ ds) := r.append hd
  have hl : (us ++ ds).length = ps.length := by rw [← r2.length]; exact F.len _ _ _ _ h
  refine wpAny_call (codeAny_mono (F.run X.A X.stack s H ⟨us, []⟩ (us ++ ds) (vs ++ dvs) Q E hr I.env0 (hb s us I.kIn hl) r2 h) fun r s' hq => ?_)
  cases r with
  | error e => exact hx pins σ H s e s' I hq
  | ok fl =>
    cases fl with
    | ret u => exact I.after hq
    | next => exact False.elim hq
    | brk => exact False.elim hq
    | cont => exact False.elim hq

theorem pe_call (F : FnOk X.prog X.w X.K X.mg X.base CX k f fd ps sp) (hr : Room k X.A) (hg : Gl X x) (hm : X.mg x = some (.ref f)) (hk : PySem.W.keepIn X.K (.ref f) = true) (hb : Binds X.K fd ps ds) (hd : Vals dvs ds) (hx : Passes CX X E)
    (ha : PA X (e :: es) t) (hdb : (x == ("__debug__" : Str)) = false := by decide) (he : starEach (e :: es) X.env = (false, eval e X.env) :: starEach es X.env := by rfl) (hpl : (backTo pos (starEach es X.env)).any (·.1) = false := by rfl) :
    PE X (.Call (.Name x p) (e :: es) [] pos) (tCall sp dvs E t) := by
  intro pins s σ H Q I h
  refine wpAny_Call_Name_kw (ld_glob I hg hm ?_ hdb)
  refine PySem.W.callWith_K (h₀ := X.base) I.ok.mod.kin hk (thn (ha pos pins s σ H _ I h) fun us s1 ⟨vs, H1, I1, r, q⟩ => ⟨I1.kIn, ?_⟩) he hpl
  exact run_fn F hr hb hd hx I1 r q
/-- o.m(e, ..) -/
theorem pe_meth {pl : Sem Bool} (he : PE X o ta) (c : Cls X.K C) (hm : Meth X.K C m f) (F : FnOk X.prog X.w X.K X.mg X.base CX k f fd ps sp) (hr : Room k X.A) (hb : Binds X.K fd ps ds) (hd : Vals dvs ds) (hx : Passes CX X E) (ha : PA X (e :: es) t)
    (hst : starEach (e :: es) X.env = (false, eval e X.env) :: starEach es X.env := by rfl) (hpl : (backTo pos (starEach es X.env)).any (·.1) = false := by rfl)
    (ht : eval (.Call (.Attribute o m apos) (e :: es) [] pos) X.env = (do
      let ov ← eval o X.env
      standAt apos.atName
      let (f, first) ← holding [ov] (getMethod ov m pl)
      callWith pos f first (backTo pos (starEach (e :: es) X.env)) (backToKw pos (keywordEach [] X.env))) := by rfl) :
    PE X (.Call (.Attribute o m apos) (e :: es) [] pos) (tMeth C m sp dvs E ta t) := by
  intro pins s σ H Q I h
  refine PySem.W.methodCall_KW (pl := pl) (thn (he pins s σ H _ I h) fun u s1 ⟨x, H1, I1, rx, a, dx, fs, ex, ea, l, q⟩ => ?_) ht
  subst ex
  obtain rfl : u = Value.ref a := rx
  refine getmeth_ok I1 ea c hm l ?_
  refine PySem.W.callWith_K (first := [.ref a]) (h₀ := X.base) I.ok.mod.kin hm.kp (thn (ha pos pins s1 σ H1 _ I1 q) fun us s2 ⟨vs, H2, I2, r, q2⟩ => ⟨I2.kIn, ?_⟩) hst hpl
  exact run_fn (us := .ref a :: us) (vs := .ref a :: vs) F hr hb hd hx I2 (.cons rfl r) q2
/-- o.m() -/
theorem pe_meth0 {pl : Sem Bool} (he : PE X o ta) (c : Cls X.K C) (hm : Meth X.K C m f) (F : FnOk X.prog X.w X.K X.mg X.base CX k f fd ps sp) (hr : Room k X.A) (hb : Binds X.K fd ps ds) (hd : Vals dvs ds) (hx : Passes CX X E)
    (ht : eval (.Call (.Attribute o m apos) [] [] pos) X.env = (do
      let ov ← eval o X.env
      standAt apos.atName
      let (f, first) ← holding [ov] (getMethod ov m pl)
      callWith pos f first (backTo pos (starEach [] X.env)) (backToKw pos (keywordEach [] X.env))) := by rfl) :
    PE X (.Call (.Attribute o m apos) [] [] pos) (tMeth C m sp dvs E ta tNil) := by
  intro pins s σ H Q I h
  refine PySem.W.methodCall_KW (pl := pl) (thn (he pins s σ H _ I h) fun u s1 ⟨x, H1, I1, rx, a, dx, fs, ex, ea, l, q⟩ => ?_) ht
  subst ex
  obtain rfl : u = Value.ref a := rx
  refine getmeth_ok I1 ea c hm l ?_
  exact PySem.W.callWith_K0 (first := [.ref a]) I1.kIn hm.kp (run_fn (us := [.ref a]) (vs := [.ref a]) F hr hb hd hx I1 (.cons rfl .nil) q)

/-- what a class must have to be made -/
structure Mk (K : PySem.W.Frag) (C f : Addr) : Prop where
  makes : PySem.W.makesIn K C = true
  init : PySem.W.findIn K (.ref C) "__init__" = some (some (.ref f))
  fn : PySem.W.isFn K (.ref f) = true
  kp : PySem.W.keepIn K (.ref C) = true

theorem run_make {pins : List (Addr × Obj)} {σ : St} {H : Hp} {s : Shared} {Q : VK} {us : List Value} {vs : List V} (M : Mk X.K C f) (F : FnOk X.prog X.w X.K X.mg X.base CX k f fd ps sp) (hr : Room (k + 1) X.A) (hb : Binds X.K fd ps ds) (hd : Vals dvs ds)
    (hx : Passes CX X E) (I : Inv X pins σ H s) (r : Vals vs us)
    (h : ∀ x dx, H x = none → H dx = none → dx ≠ x → sp (.ref x :: (vs ++ dvs)) (upd (upd H dx (.own x)) x (.ins C dx [])) (fun v H2 => v = .non ∧ Q (.ref x) H2) E) :
    wpAny (model X.prog X.w) X.A (call (.ref C) us) (EP X pins σ Q) X.xe s := by
  have hq := h (s.heap.objs.size + 1) s.heap.objs.size (I.hok.fresh (Nat.le_succ _)) (I.hok.fresh (Nat.le_refl _)) (Nat.ne_of_lt (Nat.lt_succ_self _))
  have I2 := Inv.made (C := C) I
  have r2 : Vals (V.ref (s.heap.objs.size + 1) :: (vs ++ dvs)) (Value.ref (s.heap.objs.size + 1) :: (us ++ ds)) := .cons rfl (r.append hd)
  have hl : (Value.ref (s.heap.objs.size + 1) :: us ++ ds).length = ps.length := by
    have e := r2.length
    rw [F.len _ _ _ _ hq] at e
    exact e.symm
  refine wpAny_call (make_map (f := f) I.kIn M.makes M.init (beq_iff_eq.mp M.fn) (codeAny_mono (F.run _ X.stack _ _ ⟨Value.ref (s.heap.objs.size + 1) :: us, []⟩ (Value.ref (s.heap.objs.size + 1) :: (us ++ ds)) _ _ E (hr.make C us [])
    (I2.env0.make C us []) (hb _ (Value.ref (s.heap.objs.size + 1) :: us) I2.kIn hl) r2 hq) fun r s' hq' => ?_))
  cases r with
  | error e => exact hx pins σ _ _ e s' I2 hq'
  | ok fl =>
    cases fl with
    | ret u =>
      obtain ⟨v, H', I3, rv, ev, q3⟩ := I2.after hq'
      subst ev
      exact ⟨rv, ⟨V.ref (s.heap.objs.size + 1), H', I3, rfl, q3⟩⟩
    | next => exact False.elim hq'
    | brk => exact False.elim hq'
    | cont => exact False.elim hq'
theorem pe_make (M : Mk X.K C f) (F : FnOk X.prog X.w X.K X.mg X.base CX k f fd ps sp) (hr : Room (k + 1) X.A) (hg : Gl X x) (hm : X.mg x = some (.ref C)) (hb : Binds X.K fd ps ds) (hd : Vals dvs ds) (hx : Passes CX X E)
    (ha : PA X (e :: es) t) (hdb : (x == ("__debug__" : Str)) = false := by decide) (he : starEach (e :: es) X.env = (false, eval e X.env) :: starEach es X.env := by rfl) (hpl : (backTo pos (starEach es X.env)).any (·.1) = false := by rfl) :
    PE X (.Call (.Name x p) (e :: es) [] pos) (tMake C sp dvs E t) := by
  intro pins s σ H Q I h
  refine wpAny_Call_Name_kw (ld_glob I hg hm ?_ hdb)
  refine PySem.W.callWith_K (h₀ := X.base) I.ok.mod.kin M.kp (thn (ha pos pins s σ H _ I h) fun us s1 ⟨vs, H1, I1, r, q⟩ => ⟨I1.kIn, ?_⟩) he hpl
  exact run_make M F hr hb hd hx I1 r q
theorem pe_make0 (M : Mk X.K C f) (F : FnOk X.prog X.w X.K X.mg X.base CX k f fd ps sp) (hr : Room (k + 1) X.A) (hg : Gl X x) (hm : X.mg x = some (.ref C)) (hb : Binds X.K fd ps ds) (hd : Vals dvs ds) (hx : Passes CX X E)
    (hdb : (x == ("__debug__" : Str)) = false := by decide) : PE X (.Call (.Name x p) [] [] pos) (tMake C sp dvs E tNil) := by
  intro pins s σ H Q I h
  refine wpAny_Call_Name_kw (ld_glob I hg hm ?_ hdb)
  exact PySem.W.callWith_K0 I.kIn M.kp (run_make (us := []) M F hr hb hd hx I .nil h)
end

/-! ### keywords -/

/-! ### a def's body keeps its promise -/
/-- names: the parameters first -/
structure FnScope (N P : List Str) (sc : Scope) : Prop where
  kind : sc.kind = .function
  co : sc.isCoroutine = false
  gen : sc.isGenerator = false
  nd : N.Nodup
  pre : N.take P.length = P
  par : ∀ x ∈ P, sc.names.lookup x = some .local ∨ sc.names.lookup x = some .cell
  nofree : ∀ y ∈ sc.names, y.2 ≠ .free

theorem bindL_out {kindOf : Str → Option NameKind} {x : Str} : ∀ {binds : List (Str × Value)} {m : Str → Option Value}, (∀ v, (x, v) ∉ binds) → bindL kindOf binds m x = m x
  | [], _, _ => rfl
  | (n, v) :: r, m, h => by
    unfold bindL
    rw [bindL_out fun w hw => h w (List.mem_cons_of_mem _ hw)]
    split
    · have : x ≠ n := by rintro rfl; exact h v List.mem_cons_self
      simp [this]
    · rfl
theorem bindC_out {kindOf : Str → Option NameKind} {x : Str} : ∀ {binds : List (Str × Value)} {m : Str → Option Value}, (∀ v, (x, v) ∉ binds) → bindC kindOf binds m x = m x
  | [], _, _ => rfl
  | (n, v) :: r, m, h => by
    unfold bindC
    rw [bindC_out fun w hw => h w (List.mem_cons_of_mem _ hw)]
    split
    · rfl
    · have : x ≠ n := by rintro rfl; exact h v List.mem_cons_self
      simp [this]
theorem bindL_get {kindOf : Str → Option NameKind} {x : Str} {v : Value} : ∀ {P : List Str} {vs : List Value} {i : Nat} {m : Str → Option Value}, P.Nodup → P[i]? = some x → vs[i]? = some v → kindOf x = some .local →
    bindL kindOf (P.zip vs) m x = some v
  | [], _, _, _, _, h, _, _ => by simp at h
  | _ :: _, [], _, _, _, _, h, _ => by simp at h
  | p :: P, w :: vs, 0, m, nd, h1, h2, hk => by
    simp at h1 h2; subst h1; subst h2
    show bindL kindOf ((p, w) :: P.zip vs) m p = _
    unfold bindL
    rw [bindL_out fun v hv => (List.nodup_cons.mp nd).1 (List.of_mem_zip hv).1, if_pos hk]
    simp
  | p :: P, w :: vs, i + 1, m, nd, h1, h2, hk => by
    show bindL kindOf ((p, w) :: P.zip vs) m x = _
    unfold bindL
    exact bindL_get (i := i) (List.nodup_cons.mp nd).2 (by simpa using h1) (by simpa using h2) hk
theorem bindC_get {kindOf : Str → Option NameKind} {x : Str} {v : Value} : ∀ {P : List Str} {vs : List Value} {i : Nat} {m : Str → Option Value}, P.Nodup → P[i]? = some x → vs[i]? = some v → kindOf x ≠ some .local →
    bindC kindOf (P.zip vs) m x = some v
  | [], _, _, _, _, h, _, _ => by simp at h
  | _ :: _, [], _, _, _, _, h, _ => by simp at h
  | p :: P, w :: vs, 0, m, nd, h1, h2, hk => by
    simp at h1 h2; subst h1; subst h2
    show bindC kindOf ((p, w) :: P.zip vs) m p = _
    unfold bindC
    rw [bindC_out fun v hv => (List.nodup_cons.mp nd).1 (List.of_mem_zip hv).1, if_neg hk]
    simp
  | p :: P, w :: vs, i + 1, m, nd, h1, h2, hk => by
    show bindC kindOf ((p, w) :: P.zip vs) m x = _
    unfold bindC
    exact bindC_get (i := i) (List.nodup_cons.mp nd).2 (by simpa using h1) (by simpa using h2) hk

/-- the names' values at the entry -/
def start (N : List Str) (vs : List V) : St := vs.map some ++ List.replicate (N.length - vs.length) none

/-- the context of a def's body, at its entry; an exception leaves the frame, then lies as CX says -/
def cxOf (CX : CXT) (P : Program) (w : World) (K : PySem.W.Frag) (mg : Str → Option Value) (base : Heap) (N : List Str) (qual : Str) (scope : Scope) (f : Addr) (cd : Value) (A : Around) (outer : List Env) (s : Shared) (H : Hp) (E : XK) : Cx where
  prog := P
  w := w
  K := K
  mg := mg
  base := base
  A := A.deeper (envOfC qual scope s.heap.objs.size f cd)
  N := N
  s₀ := s
  H₀ := H
  env := envOfC qual scope s.heap.objs.size f cd
  outer := outer
  stack := envOfC qual scope s.heap.objs.size f cd :: outer
  ex := []
  calm := true
  fn := fun _ => true
  pn := []
  xe := fun e s' => wpAny (model P w) (A.deeper (envOfC qual scope s.heap.objs.size f cd)) (leaving (envOfC qual scope s.heap.objs.size f cd) e) (fun _ s'' => CX outer H s E e s'') (fun e' s'' => CX outer H s E e' s'') s'

theorem cell_has {sc : Scope} {n : Nat} {x : Str} (h : sc.names.lookup x = some .cell) : ∃ c, (cellsFrom n sc.names []).lookup x = some c := by
  have q := PySem.W.cellsFrom_some sc.names n [] (.inl h)
  exact Option.isSome_iff_exists.mp q

theorem inv_start {CX : CXT} {P : Program} {w : World} {K : PySem.W.Frag} {mg : Str → Option Value} {base : Heap} {N ps : List Str} {qual : Str} {scope : Scope} {f : Addr} {cd : Value} {A : Around} {outer : List Env} {s s1 : Shared} {H : Hp} {E : XK} {us : List Value} {vs : List V}
    (S : FnScope N ps scope) (hd : A.handled = none) (e0 : Env0 P w K mg base A outer s H) (hl : vs.length = ps.length) (r : Vals vs us)
    (x : InCallC s s.heap.objs.size (bindL (envOfC qual scope s.heap.objs.size f cd).kindOf (ps.zip us) fun _ => none) (cellsFrom (s.heap.objs.size + 1) scope.names []) (bindC (envOfC qual scope s.heap.objs.size f cd).kindOf (ps.zip us) fun _ => none) s1) :
    Inv (cxOf CX P w K mg base N qual scope f cd A outer s H E) [] (start N vs) H s1 := by
  have hpl : ps.length ≤ N.length := by have := congrArg List.length S.pre; rw [List.length_take] at this; omega
  obtain ⟨h1, tk, rfl, hk⟩ := x.done
  have noA : ∀ b : Addr, b ∉ (cxOf CX P w K mg base N qual scope f cd A outer s H E).ex := fun b z => absurd (show b ∈ ([] : List Addr) from z) (by simp)
  refine ⟨⟨e0.mod, S.kind, rfl, rfl, Nat.le_refl _, fun y z c h1 h2 => ?_, fun y hy => ?_, fun y c _ h => ?_, fun _ => hd, Around.frames_deeper e0.frames, .inr ⟨rfl, rfl⟩, fun b z => absurd z (noA b), e0.bs, e0.bsz, fun b _ _ => noA b, fun b z => absurd z (noA b), e0.funs, e0.frf⟩,
    rfl, e0.bare, Un.kept hk, ⟨_, x.toInCall.ns, fun i y v h1 h2 h3 => ?_⟩, fun y c h => ⟨_, x.cell y c h⟩, e0.hok.fresh (Nat.le_refl _), fun y c h => ?_, fun p hp => absurd (show p ∈ ([] : List (Addr × Obj)) from hp) (by simp), e0.hok.kept hk, ?_⟩
  · exact name_of_addr x.apart (PySem.mem_of_lookup h1) (PySem.mem_of_lookup h2)
  · have hy : scope.names.lookup y = some .cell ∨ scope.names.lookup y = some .free := hy
    rcases hy with hy | hy
    · exact cell_has hy
    · exact absurd rfl (S.nofree _ (PySem.mem_of_lookup hy))
  · exact Nat.le_of_lt (x.above y c (PySem.mem_of_lookup h))
  · have hi : i < vs.length := by
      unfold start at h2
      by_cases hi : i < vs.length
      · exact hi
      · rw [List.getElem?_append_right (by simpa using hi)] at h2
        rw [List.getElem?_replicate] at h2
        split at h2 <;> cases h2
    have ha : vs[i]? = some v := by
      unfold start at h2
      rw [List.getElem?_append_left (by simpa using hi), List.getElem?_map] at h2
      cases e : vs[i]? with
      | none => rw [e] at h2; cases h2
      | some a => rw [e] at h2; cases h2; rfl
    obtain ⟨u, hu, rv⟩ := r.get ha
    have hp : ps[i]? = some y := by
      rw [← S.pre, List.getElem?_take_of_lt (by omega)]; exact h1
    have ndP : ps.Nodup := by rw [← S.pre]; exact S.nd.sublist (List.take_sublist _ _)
    refine ⟨u, rv, ?_⟩
    rcases S.par y (List.mem_of_getElem? hp) with k | k
    · exact .inl ⟨k, bindL_get ndP hp hu k⟩
    · obtain ⟨c, e⟩ := cell_has (n := s.heap.objs.size + 1) k
      refine .inr ⟨.inl k, c, e, ?_⟩
      have q := x.cell y c e
      rw [bindC_get ndP hp hu (by show scope.names.lookup y ≠ _; rw [k]; decide)] at q
      exact q
  · exact e0.hok.fresh (Nat.le_of_lt (x.above y c (PySem.mem_of_lookup h)))
  · unfold start
    show _ = N.length
    rw [List.length_append, List.length_map, List.length_replicate]
    omega

/-- THE RULE: a def (or a method) of the text, by its body. The body's reading t is chosen for each entry; it is run at the parameters' values -/
theorem fn_of {CX : CXT} {P : Program} {w : World} {K : PySem.W.Frag} {mg : Str → Option Value} {base : Heap} {k : Nat} {f : Addr} {name qual : Str} {params : Arguments} {body : List Stmt} {scope : Scope} {dV kV doc pm cdv ct oc : Value} {an od : Option Addr}
    {osl : Array (Option Value)} {N ps : List Str} {sp : Sp} (lk : K.lookup f = some ⟨oc, od, .func (PySem.W.fnOf name qual params body scope dV kV doc pm an cdv ct), osl⟩) (hcd : PySem.W.codeIn K cdv qual = true) (S : FnScope N ps scope)
    (len : ∀ vs H Q E, sp vs H Q E → vs.length = ps.length)
    (hbody : ∀ (A : Around) (outer : List Env) (s : Shared) (H : Hp) (vs : List V) (Q : VK) (E : XK), Room k (A.deeper (envOfC qual scope s.heap.objs.size f cdv)) → sp vs H Q E →
      ∃ t, PSs (cxOf CX P w K mg base N qual scope f cdv A outer s H E) body t ∧ t { nx := fun _ H' => Q .non H', rt := Q } (start N vs) H) :
    FnOk P w K mg base CX (k + 1) f (PySem.W.fnOf name qual params body scope dV kV doc pm an cdv ct) ps sp := by
  refine ⟨len, fun A outer s H args us vs Q E hr e0 hb r hsp => ?_⟩
  have hl := len _ _ _ _ hsp
  have KX : K.In s.heap := e0.mod.kin.keeps fun b o e => (e0.bs b o e).1
  have lim : s.heap.NoLimit := e0.mod.nolimit.keeps fun b o e => (e0.bs b o e).1
  have hkind : ∀ y ∈ ps.zip us, scope.names.lookup y.1 = some .local ∨ (scope.names.lookup y.1 = some .cell ∧ ((cellsFrom (s.heap.objs.size + 1) scope.names []).lookup y.1).isSome = true) := fun ⟨n, v⟩ hy => by
    rcases S.par n (List.of_mem_zip hy).1 with q | q
    · exact .inl q
    · exact .inr ⟨q, PySem.W.cellsFrom_some _ _ _ (.inl q)⟩
  refine codeAny_call_function hr.depth (KX _ _ lk) rfl S.co S.gen rfl (PySem.W.codeRec_of KX hcd) (hb _ _ _ _ ?_)
  refine wpAny_newFunctionEnv_cells S.kind hkind fun env he s1 x => ?_
  subst he
  refine ⟨lim.keeps x.toInCall.keep, codeAny_func ?_⟩
  obtain ⟨t, ht, hq⟩ := hbody A outer s H vs Q E (hr.deeper _) hsp
  have I : Inv (cxOf CX P w K mg base N qual scope f cdv A outer s H E) [] (start N vs) H s1 := inv_start S hr.hd e0 hl r x
  refine wpAny_mono (ht [] s1 (start N vs) H _ I hq) (fun fl s' hs => ?_) fun e s' hs => hs
  have fin : ∀ {σ' : St} {H' : Hp} {v : V} {u : Value}, Inv (cxOf CX P w K mg base N qual scope f cdv A outer s H E) [] σ' H' s' → RelV v u → Q v H' → CE outer P w H s Q u s' :=
    fun {σ' H' v u} J rv q => ⟨v, H', J.os, J.bare, J.base, J.hok, rv, q⟩
  cases fl with
  | ret u =>
    obtain ⟨v, σ', H', J, rv, q⟩ := hs
    exact fin J rv q
  | next =>
    obtain ⟨σ', H', J, q⟩ := hs
    exact fin (v := V.non) (u := Value.none) J rfl q
  | brk =>
    obtain ⟨_, _, _, q⟩ := hs
    exact False.elim q
  | cont =>
    obtain ⟨_, _, _, q⟩ := hs
    exact False.elim q
end L2

namespace L2
open PySem PySem.Spec PyProof.Rows
section
variable {X : Cx} {x : Str} {p pos : Pos} {e : Expr} {es : List Expr} {t : TA} {id T : String} {r : List V → Hp → VK → Prop}

def tCB (r : List V → Hp → VK → Prop) (t : TA) : TE := fun σ H Q => t σ H fun vs H1 => r vs H1 Q
/-- f(e, ..), f a built-in function -/
theorem pe_callB (hc : CallR X (.builtin id) r) (hg : Gl X x) (hm : X.mg x = none) (hv : bootBuiltins x = some (.builtin id)) (ha : PA X (e :: es) t) (hn : x ≠ "__name__" := by decide) (hdb : (x == ("__debug__" : Str)) = false := by decide)
    (he : starEach (e :: es) X.env = (false, eval e X.env) :: starEach es X.env := by rfl) (hpl : (backTo pos (starEach es X.env)).any (·.1) = false := by rfl) : PE X (.Call (.Name x p) (e :: es) [] pos) (tCB r t) := by
  intro pins s σ H Q I h
  refine wpAny_Call_Name_kw (ld_blt I hg hm hv ?_ hn hdb)
  exact PyProof.Rows.callWith_builtin1 (thn (ha pos pins s σ H _ I h) fun us s1 ⟨vs, H1, I1, r1, q1⟩ => hc pins s1 σ H1 vs us Q I1 r1 q1) he hpl
/-- T(e, ..), T a built-in type -/
theorem pe_callTy (hc : CallR X (.type T) r) (hg : Gl X x) (hm : X.mg x = none) (hv : bootBuiltins x = some (.type T)) (ha : PA X (e :: es) t) (hn : x ≠ "__name__" := by decide) (hdb : (x == ("__debug__" : Str)) = false := by decide)
    (he : starEach (e :: es) X.env = (false, eval e X.env) :: starEach es X.env := by rfl) (hpl : (backTo pos (starEach es X.env)).any (·.1) = false := by rfl) : PE X (.Call (.Name x p) (e :: es) [] pos) (tCB r t) := by
  intro pins s σ H Q I h
  refine wpAny_Call_Name_kw (ld_blt I hg hm hv ?_ hn hdb)
  exact PyProof.Rows.callWith_type1 (thn (ha pos pins s σ H _ I h) fun us s1 ⟨vs, H1, I1, r1, q1⟩ => hc pins s1 σ H1 vs us Q I1 r1 q1) he hpl
end
end L2

namespace HT
open PySem PyProof.Rows

section
open PySem.SeqAt
open PySem.AutoSeq1 (wpAny_loadPart')
open PySem.MeetsSeq PySem.MeetsSeq2 PySem.MeetsSeq3

end

section
variable {prog : Program} {w : World} {A : Around} {E : Value → Shared → Prop} {s : Shared}

/-- t + u, t not empty -/
theorem cat_tup {t b : Addr} {vs ws : List Value} {Q : Value → Shared → Prop} (ht : IsTup s.heap t vs.toArray) (hb : IsTup s.heap b ws.toArray) (hv : vs ≠ [])
    (h1 : ws = [] → Q (.ref t) s) (h2 : ws ≠ [] → Q (.ref s.heap.objs.size) { s with heap := s.heap.push { cls := .type "tuple", data := .seq (vs ++ ws).toArray } })
    (hsz : vs.length + ws.length ≤ sizeLine) : wpAny (model prog w) A (binaryOp .Add (.ref t) (.ref b)) Q E s := by
  obtain ⟨⟨cls, dd, data, sl⟩, ho, hc, n, hd⟩ := id ht
  obtain ⟨⟨cls2, dd2, data2, sl2⟩, ho2, hc2, n2, hd2⟩ := id hb
  simp only at hc hd hc2 hd2
  subst hc hd hc2 hd2
  have e : vs.toArray ++ ws.toArray = (vs ++ ws).toArray := by simp
  by_cases hw : ws = []
  · exact concat_meets ⟨_, ho, rfl⟩ ⟨_, ho2, rfl⟩ noFill_tuple_add seq_tuple_add PySem.F.slot_tuple_add PySem.F.entry_tuple_add (PySem.F.args_tuple_add_2 _ _)
      (tuple_addW1 t b vs.toArray ws.toArray n n2 dd dd2 sl sl2 (by simpa using hv) (by simp [hw])) ⟨ho, ho2, h1 hw⟩
  · refine concat_meets ⟨_, ho, rfl⟩ ⟨_, ho2, rfl⟩ noFill_tuple_add seq_tuple_add PySem.F.slot_tuple_add PySem.F.entry_tuple_add (PySem.F.args_tuple_add_2 _ _)
      (tuple_addW2 t b vs.toArray ws.toArray n n2 dd dd2 sl sl2 (by simpa using hv) (by simpa using hw) (by rw [List.size_toArray, List.size_toArray]; exact hsz)) ⟨ho, ho2, ?_⟩
    rw [e]
    exact h2 hw

/-! ### t[a:b], not the whole -/
end
end HT

namespace L2
open PySem PySem.Spec PyProof.Rows

/-! ### the parts of a slice -/
theorem intsAre_of {ns : List Int} : ∀ {us : List Value}, Vals (ns.map V.int) us → IntsAre us ns := by
  induction ns with
  | nil => intro us r; rw [List.map_nil] at r; cases r; exact .nil
  | cons n ns ih =>
    intro us r
    rw [List.map_cons] at r
    cases r with
    | cons r1 r2 =>
      obtain ⟨t, e⟩ := r1
      subst e
      exact .cons n t (ih r2)

section
variable {X : Cx} {e : Expr} {te : TE} {lo hi : Option Expr} {tl th : TO} {pos p2 : Pos}

/-! ### t < u, t + u -/
/-- t + u, t not empty: u empty gives t itself -/
def rCatT (K : PySem.W.Frag) : R2 := fun x y H Q => ∃ a b xs ys, x = .ref a ∧ y = .ref b ∧ SqT K H a xs ∧ SqT K H b ys ∧ xs ≠ [] ∧ xs.length + ys.length ≤ sizeLine ∧
  (ys = [] → Q (.ref a) H) ∧ (ys ≠ [] → ∀ p, H p = none → Q (.ref p) (upd H p (.tup (xs ++ ys))))
theorem Vals.nil_iff {xs : List V} {us : List Value} (r : Vals xs us) : us = [] ↔ xs = [] := by
  cases r with
  | nil => simp
  | cons _ _ => simp
theorem op_catT : OpR X (binaryOp .Add) (rCatT X.K) := by
  intro pins s σ H x y v u Q I rx ry h
  obtain ⟨a, b, xs, ys, rfl, rfl, ha, hb, hx, hz, q1, q2⟩ := h
  cases rx
  cases ry
  obtain ⟨its, r1, p1, _⟩ := I.tuple ha
  obtain ⟨its2, r2, p2, _⟩ := I.tuple hb
  refine HT.cat_tup p1 p2 (fun z => hx (r1.nil_iff.mp z)) (fun z => ⟨.ref a, H, I, rfl, q1 (r2.nil_iff.mp z)⟩) (fun z => ?_) (by rw [← r1.length, ← r2.length]; exact hz)
  refine ⟨.ref s.heap.objs.size, _, I.laid (t' := s.toks) (o := .tup (xs ++ ys)) (fun b ob q => Heap.get?_push_of_some _ q) (Nat.le_refl _) ?_, rfl, q2 (fun w => z (r2.nil_iff.mpr w)) _ (I.hok.fresh (Nat.le_refl _))⟩
  exact ⟨by rw [List.length_append]; exact hz, _, r1.append r2, IsTup.new _ _⟩
end
end L2

namespace L2
open PySem PySem.Spec PyProof.Rows

/-! ### places -/
/-- the place that an index of any sign means -/
def ixN (n : Nat) (i : Int) : Option Nat := if 0 ≤ i then (if i < n then some i.toNat else none) else if -(n : Int) ≤ i then some (i + n).toNat else none
def atI {α : Type} (xs : List α) (i : Int) : Option α := (ixN xs.length i).bind fun j => xs[j]?
theorem ixN_seq {n : Nat} {i : Int} {j : Nat} (h : ixN n i = some j) : seqIndex? i n = some j ∧ j < n ∧ -(n : Int) ≤ i ∧ i < n := by
  unfold ixN at h
  by_cases h0 : 0 ≤ i
  · rw [if_pos h0] at h
    by_cases h1 : i < n
    · rw [if_pos h1] at h
      have e : i.toNat = j := Option.some.inj h
      exact ⟨by rw [seqIndex_of h0 h1, e], by omega, by omega, h1⟩
    · rw [if_neg h1] at h; cases h
  · rw [if_neg h0] at h
    by_cases h1 : -(n : Int) ≤ i
    · rw [if_pos h1] at h
      have e : (i + n).toNat = j := Option.some.inj h
      exact ⟨by rw [seqIndex_neg (by omega) h1, e], by omega, h1, by omega⟩
    · rw [if_neg h1] at h; cases h
theorem atI_get {α : Type} {xs : List α} {i : Int} {v : α} (h : atI xs i = some v) : ∃ j, seqIndex? i xs.length = some j ∧ xs[j]? = some v ∧ j < xs.length ∧ -(xs.length : Int) ≤ i ∧ i < xs.length := by
  unfold atI at h
  cases e : ixN xs.length i with
  | none => rw [e] at h; cases h
  | some j =>
    rw [e] at h
    obtain ⟨h1, h2, h3, h4⟩ := ixN_seq e
    exact ⟨j, h1, h, h2, h3, h4⟩
theorem atI_nat {α : Type} {xs : List α} {j : Nat} {v : α} (h : xs[j]? = some v) : atI xs (j : Int) = some v := by
  have hj : j < xs.length := (List.getElem?_eq_some_iff.mp h).1
  have e : ixN xs.length (j : Int) = some j := by
    unfold ixN
    rw [if_pos (by omega), if_pos (by omega)]; simp
  unfold atI; rw [e]; exact h
/-! ### what may be subscripted -/
/-- what stands as an index of a plain subscript -/
def PlainIx (b : Expr) : Prop := ∀ o i, subscripted b false o i = operate [o, i] (getItem o i)
/-- a subscript by values -/
def IxR (X : Cx) (r : R2) : Prop :=
  ∀ (value slice : Expr) (pins : List (Addr × Obj)) (s : Shared) (σ : St) (H : Hp) (x y : V) (v u : Value) (Q : VK), Inv X pins σ H s → RelV x v → RelV y u → r x y H Q →
    subscripted slice false v u = operate [v, u] (getItem v u) → wpAny (model X.prog X.w) X.A (subscriptTail value slice v u) (EP X pins σ Q) X.xe s
/-- a call of a builtin's method by values: the receiver, the arguments -/
def MtR (X : Cx) (id : String) (r : V → List V → Hp → VK → Prop) : Prop :=
  ∀ (pins : List (Addr × Obj)) (s : Shared) (σ : St) (H : Hp) (x : V) (xs : List V) (v : Value) (us : List Value) (Q : VK), Inv X pins σ H s → RelV x v → Vals xs us → r x xs H Q →
    wpAny (model X.prog X.w) X.A (call (.builtin id) (v :: us)) (EP X pins σ Q) X.xe s
section
variable {X : Cx} {a b : Expr} {ta tb : TE} {pos : Pos}
/-- a[b] -/
theorem pe_ix {r : R2} (hr : IxR X r) (ha : PE X a ta) (hb : PE X b tb) (hs : PlainIx b) : PE X (.Subscript a b pos) (tOp r ta tb) := by
  intro pins s σ H Q I h
  exact Subscript_ (binT ha hb I h fun v u s2 x y H2 I2 rx ry q => hr a b pins s2 σ H2 x y v u Q I2 rx ry q (hs _ _))

def rIxL (K : PySem.W.Frag) : R2 := fun x y H Q => ∃ p xs i v, x = .ref p ∧ y = .int i ∧ SqL K H p xs ∧ atI xs i = some v ∧ Q v H
def rIxT (K : PySem.W.Frag) : R2 := fun x y H Q => ∃ p xs i v, x = .ref p ∧ y = .int i ∧ SqT K H p xs ∧ atI xs i = some v ∧ Q v H
theorem ix_list : IxR X (rIxL X.K) := by
  intro value slice pins s σ H x y v u Q I rx ry h hs
  obtain ⟨p, xs, i, z, rfl, rfl, hq, he, q⟩ := h
  cases rx
  obtain ⟨t, rfl⟩ := ry
  obtain ⟨its, r, pl, hz⟩ := I.list hq
  obtain ⟨j, h1, h2, h3, h4, h5⟩ := atI_get he
  obtain ⟨w, ew, rw'⟩ := r.get h2
  have hl := r.length
  have hn := line63
  have fin : EP X pins σ Q w s := ⟨z, H, I, rw', q⟩
  by_cases h0 : 0 ≤ i
  · have hj : i.toNat = j := by
      rw [seqIndex_of h0 h5] at h1
      exact Option.some.inj h1
    exact item_listR pl.isList h0 (by omega) (by rw [hj]; simpa using ew) fin hs
  · have hj : (i + (its.toArray.size : Int)).toNat = j := by
      rw [seqIndex_neg (by omega) h4] at h1
      rw [List.size_toArray, ← hl]
      exact Option.some.inj h1
    exact subscriptTail_builtinR (x := w) pl.isList.typeIs slot_list_getitem.lookup
      (wpAny_getItem_list_neg (Q := fun r s' => r = w ∧ EP X pins σ Q r s') pl.isList (by omega) (by rw [List.size_toArray] <;> omega) (by omega) (by rw [hj]; simpa using ew) ⟨rfl, fin⟩) hs
theorem ix_tup : IxR X (rIxT X.K) := by
  intro value slice pins s σ H x y v u Q I rx ry h hs
  obtain ⟨p, xs, i, z, rfl, rfl, hq, he, q⟩ := h
  cases rx
  obtain ⟨t, rfl⟩ := ry
  obtain ⟨its, r, pl, hz⟩ := I.tuple hq
  obtain ⟨j, h1, h2, h3, h4, h5⟩ := atI_get he
  obtain ⟨w, ew, rw'⟩ := r.get h2
  have hl := r.length
  have hn := line63
  have fin : EP X pins σ Q w s := ⟨z, H, I, rw', q⟩
  exact subscriptTail_builtinR (x := w) pl.typeIs slot_tuple_getitem.lookup
    (getItem_tuple (j := j) (Q := fun r s' => r = w ∧ EP X pins σ Q r s') pl (by omega) (by omega) (by rw [List.size_toArray, ← hl]; exact h1) (by simpa using ew) ⟨rfl, fin⟩) hs
/-! ### xs[i] = v, any sign -/
/-! ### slices -/
/-! ### in, not in: flat items -/
def flatV : V → Bool
  | .non => true
  | .bl _ => true
  | .int _ => true
  | .str _ => true
  | _ => false
/-- == of flat values -/
def eqV : V → V → Bool
  | .non, .non => true
  | .bl a, .bl b => a == b
  | .bl a, .int b => (if a then 1 else 0) == b
  | .int a, .bl b => a == (if b then 1 else 0)
  | .int a, .int b => a == b
  | .str a, .str b => a == b
  | _, _ => false
theorem eqAt_V {A : Around} {s : Shared} {y x : V} {u v : Value} (ry : RelV y u) (rx : RelV x v) (fy : flatV y = true) (fx : flatV x = true) : SeqAt.EqAt A s u v (eqV y x) := by
  cases y with
  | non =>
    cases ry
    cases x with
    | non => cases rx; exact SeqAt.EqAt.same _
    | bl b => cases rx; exact SeqAt.EqAt.none_bool b
    | int b => obtain ⟨t, rfl⟩ := rx; exact SeqAt.EqAt.none_int b t
    | str b => obtain ⟨t, rfl⟩ := rx; exact SeqAt.EqAt.none_str b t
    | _ => exact absurd (show false = true from fx) Bool.false_ne_true
  | bl a =>
    cases ry
    cases x with
    | non => cases rx; exact SeqAt.EqAt.bool_none a
    | bl b => cases rx; exact SeqAt.EqAt.bool_bool a b
    | int b => obtain ⟨t, rfl⟩ := rx; exact SeqAt.EqAt.bool_int a b t
    | str b => obtain ⟨t, rfl⟩ := rx; exact SeqAt.EqAt.bool_str a b t
    | _ => exact absurd (show false = true from fx) Bool.false_ne_true
  | int a =>
    obtain ⟨t', rfl⟩ := ry
    cases x with
    | non => cases rx; exact SeqAt.EqAt.int_none a t'
    | bl b => cases rx; exact SeqAt.EqAt.int_bool a t' b
    | int b => obtain ⟨t, rfl⟩ := rx; exact SeqAt.EqAt.int_int a t' b t
    | str b => obtain ⟨t, rfl⟩ := rx; exact SeqAt.EqAt.int_str a t' b t
    | _ => exact absurd (show false = true from fx) Bool.false_ne_true
  | str a =>
    obtain ⟨t', rfl⟩ := ry
    cases x with
    | non => cases rx; exact SeqAt.EqAt.str_none a t'
    | bl b => cases rx; exact SeqAt.EqAt.str_bool a t' b
    | int b => obtain ⟨t, rfl⟩ := rx; exact SeqAt.EqAt.str_int a t' b t
    | str b => obtain ⟨t, rfl⟩ := rx; exact SeqAt.EqAt.str_str a t' b t
    | _ => exact absurd (show false = true from fx) Bool.false_ne_true
  | _ => exact absurd (show false = true from fy) Bool.false_ne_true
/-- the items' answers, read off the values (a value's own answer does not lean on its token) -/
def eqU (x : V) (u : Value) : Bool := match u with
  | .none => eqV .non x
  | .bool b => eqV (.bl b) x
  | .int i _ => eqV (.int i) x
  | .str z _ => eqV (.str z) x
  | _ => false
theorem eqU_of {x y : V} {u : Value} (r : RelV y u) (f : flatV y = true) : eqU x u = eqV y x := by
  cases y with
  | non => cases r; rfl
  | bl b => cases r; rfl
  | int i => obtain ⟨t, rfl⟩ := r; rfl
  | str z => obtain ⟨t, rfl⟩ := r; rfl
  | _ => exact absurd (show false = true from f) Bool.false_ne_true
theorem any_eqU {x : V} : ∀ {xs : List V} {us : List Value}, Vals xs us → xs.all flatV = true → us.any (eqU x) = xs.any fun y => eqV y x
  | _, _, .nil, _ => rfl
  | y :: xs, u :: us, .cons r t, f => by
    rw [List.all_cons, Bool.and_eq_true] at f
    rw [List.any_cons, List.any_cons, eqU_of r f.1, any_eqU t f.2]
theorem mem_eqAt {A : Around} {s : Shared} {x : V} {v : Value} (rx : RelV x v) (fx : flatV x = true) : ∀ {xs : List V} {us : List Value}, Vals xs us → xs.all flatV = true → ∀ u ∈ us, SeqAt.EqAt A s u v (eqU x u)
  | _, _, .nil, _ => fun u hu => by cases hu
  | y :: xs, u :: us, .cons r t, f => fun u' hu => by
    rw [List.all_cons, Bool.and_eq_true] at f
    rcases List.mem_cons.mp hu with rfl | hu
    · rw [eqU_of r f.1]; exact eqAt_V r rx f.1 fx
    · exact mem_eqAt rx fx t f.2 u' hu
def inV (x : V) (xs : List V) : Bool := xs.any fun y => eqV y x
/-- x in a list or tuple of flat items -/
def rIn (K : PySem.W.Frag) (neg : Bool) : R2 := fun x y H Q => ∃ p xs, y = .ref p ∧ (SqL K H p xs ∨ SqT K H p xs) ∧ flatV x = true ∧ xs.all flatV = true ∧ Q (.bl (if neg then !inV x xs else inV x xs)) H
theorem op_in_seq : OpR X (compareOp .In) (rIn X.K false) := by
  intro pins s σ H x y v u Q I rx ry h
  obtain ⟨p, xs, rfl, hq, fx, fs, q⟩ := h
  cases ry
  rcases hq with hq | hq
  · obtain ⟨its, r, pl, hz⟩ := I.list hq
    refine SeqAt.in_listAt (eqU x) pl.isList (fun w hw => mem_eqAt rx fx r fs w (by simpa using hw)) ⟨.bl _, H, I, rfl, ?_⟩
    rw [show its.toArray.any (eqU x) = its.any (eqU x) by simp, any_eqU r fs]
    exact q
  · obtain ⟨its, r, pl, hz⟩ := I.tuple hq
    refine SeqAt.in_tupleAt (eqU x) pl (fun w hw => mem_eqAt rx fx r fs w (by simpa using hw)) ⟨.bl _, H, I, rfl, ?_⟩
    rw [show its.toArray.any (eqU x) = its.any (eqU x) by simp, any_eqU r fs]
    exact q
/-! ### len, list(x), tuple(x) of any list or tuple that is read -/
theorem call_len_seq : CallR X (.builtin "len") (fun xs H Q => ∃ p ys, xs = [.ref p] ∧ (SqL X.K H p ys ∨ SqT X.K H p ys) ∧ Q (.int ys.length) H) := by
  intro pins s σ H xs us Q I r h
  obtain ⟨p, ys, rfl, hq, q⟩ := h
  obtain ⟨u, rfl, rx⟩ := vals1 r
  cases rx
  have hn := line63
  rcases hq with hq | hq
  · obtain ⟨its, r', pl, hz⟩ := I.list hq
    have hlen := r'.length
    exact Calls.call_len_list pl.isList (by simp only [List.size_toArray] <;> omega) ⟨.int ys.length, H, I.tok _, ⟨s.toks + 1, by rw [List.size_toArray, hlen]⟩, q⟩
  · obtain ⟨its, r', pl, hz⟩ := I.tuple hq
    have hlen := r'.length
    exact len_tuple pl (by simp only [List.size_toArray] <;> omega) ⟨.int ys.length, H, I.tok _, ⟨s.toks + 1, by rw [List.size_toArray, hlen]⟩, q⟩
theorem call_list_of : CallR X (.type "list") (fun xs H Q => ∃ p ys, xs = [.ref p] ∧ (SqL X.K H p ys ∨ SqT X.K H p ys) ∧ ∀ l, H l = none → Q (.ref l) (upd H l (.lst ys))) := by
  intro pins s σ H xs us Q I r h
  obtain ⟨p, ys, rfl, hq, q⟩ := h
  obtain ⟨u, rfl, rx⟩ := vals1 r
  cases rx
  have fin : ∀ (its : List Value), Vals ys its → ys.length ≤ sizeLine → ∀ (h' : Heap) (c' : Nat), (∀ b o', s.heap.get? b = some o' → h'.get? b = some o') →
      h'.get? s.heap.objs.size = some { cls := .type "list", dict := none, data := .seq its.toArray c', slots := #[] } → EP X pins σ Q (.ref s.heap.objs.size) { s with heap := h' } := fun its r' hz h' c' kp e =>
    ⟨.ref s.heap.objs.size, _, I.laid (t' := s.toks) kp (Nat.le_refl _) (show ObjOk X.prog X.w _ h' _ (.lst ys) from ⟨hz, its, c', r', e⟩), rfl, q _ (I.hok.fresh (Nat.le_refl _))⟩
  rcases hq with hq | hq
  · obtain ⟨its, r', pl, hz⟩ := I.list hq
    have hlen := r'.length
    obtain ⟨o, ho, hc, n, hd⟩ := pl.isList
    exact call_list_seq p (.inl rfl) ho hc hd (fun h' c' kp e => fin its r' hz h' c' kp e) (by simp only [List.size_toArray] <;> omega)
  · obtain ⟨its, r', pl, hz⟩ := I.tuple hq
    have hlen := r'.length
    obtain ⟨o, ho, hc, n, hd⟩ := pl
    exact call_list_seq p (.inr rfl) ho hc hd (fun h' c' kp e => fin its r' hz h' c' kp e) (by simp only [List.size_toArray] <;> omega)
/-! ### the call of a builtin's method: o.m(..) -/
/-- the value is of that builtin type -/
def tyV (K : PySem.W.Frag) (T : String) (x : V) (H : Hp) : Prop := match x with
  | .str _ => T = "str"
  | .int _ => T = "int"
  | .ref p => (T = "list" ∧ ∃ xs, SqL K H p xs) ∨ (T = "tuple" ∧ ∃ o, K.lookup p = some o ∧ o.cls = .type "tuple" ∧ o.dict = none) ∨
      (T = "dict" ∧ ((∃ kvs, H p = some (.dK kvs)) ∨ ∃ kvs, H p = some (.dT kvs))) ∨ (T = "set" ∧ ∃ S n, H p = some (.set S n))
  | _ => False
theorem tyV_is {pins : List (Addr × Obj)} {σ : St} {H : Hp} {s : Shared} {T : String} {x : V} {v : Value} (I : Inv X pins σ H s) (r : RelV x v) (ty : tyV X.K T x H) :
    s.TypeIs v T ∧ ∀ a, v = .ref a → ∃ ob, s.heap.get? a = some ob ∧ ob.dict = none := by
  cases x with
  | str z =>
    obtain ⟨t, rfl⟩ := r
    cases (show T = "str" from ty)
    exact ⟨typeIs_str s z t, fun _ e => nomatch e⟩
  | int i =>
    obtain ⟨t, rfl⟩ := r
    cases (show T = "int" from ty)
    exact ⟨typeIs_int s i t, fun _ e => nomatch e⟩
  | ref p =>
    cases r
    rcases ty with ⟨rfl, xs, hq⟩ | ⟨rfl, o, hk, hc, hd⟩ | ⟨rfl, hk⟩ | ⟨rfl, S, n, hk⟩
    · obtain ⟨its, _, pl, _⟩ := I.list hq
      refine ⟨pl.isList.typeIs, fun a e => ?_⟩
      cases e
      obtain ⟨o, n, e, c, hd, _⟩ := pl
      exact ⟨o, e, hd⟩
    · refine ⟨⟨o, I.kIn p o hk, hc⟩, fun a e => ?_⟩
      cases e
      exact ⟨o, I.kIn _ o hk, hd⟩
    · have z : ∃ o, s.heap.get? p = some o ∧ o.ExactDict := by
        rcases hk with ⟨kvs, hk⟩ | ⟨kvs, hk⟩
        · obtain ⟨_, _, _, _, o, _, _, e, ex, _⟩ := I.hok p _ hk
          exact ⟨o, e, ex⟩
        · obtain ⟨_, _, _, _, o, _, _, e, ex, _⟩ := I.hok p _ hk
          exact ⟨o, e, ex⟩
      obtain ⟨o, e, ex⟩ := z
      refine ⟨⟨o, e, ex.1⟩, fun a e2 => ?_⟩
      cases e2
      exact ⟨o, e, ex.2.1⟩
    · obtain ⟨o, _, _, _, e, ex, _⟩ := I.hok p _ hk
      refine ⟨⟨o, e, ex.1⟩, fun a e2 => ?_⟩
      cases e2
      exact ⟨o, e, ex.2.1⟩
  | _ => exact False.elim ty
def tBM0 (K : PySem.W.Frag) (T : String) (r : V → List V → Hp → VK → Prop) (to : TE) : TE := fun σ H Q => to σ H fun x H1 => tyV K T x H1 ∧ r x [] H1 Q
def tBM (K : PySem.W.Frag) (T : String) (r : V → List V → Hp → VK → Prop) (to : TE) (t : TA) : TE := fun σ H Q => to σ H fun x H1 => tyV K T x H1 ∧ t σ H1 fun xs H2 => r x xs H2 Q
variable {o e : Expr} {es : List Expr} {to : TE} {t : TA} {name : Str} {apos cpos : Pos} {T id : String} {r : V → List V → Hp → VK → Prop}
theorem pe_bm0 (pa : PlainAttrs T) (slot : Slot T name id) (hty : typeOf (.builtin id) = pure (.type "method_descriptor")) (hm : MtR X id r) (ho : PE X o to)
    (hbase : attributeBase o name X.env (eval o X.env) = eval o X.env := by rfl) (hline : (apos.endLine == cpos.line) = true := by rfl) : PE X (.Call (.Attribute o name apos) [] [] cpos) (tBM0 X.K T r to) := by
  intro pins s σ H Q I h
  refine wpAny_Call_method0_late hbase hline (thn (ho pins s σ H _ I h) fun v s1 ⟨x, H1, I1, r1, ty, q1⟩ => ?_)
  obtain ⟨h1, h2⟩ := tyV_is I1 r1 ty
  exact ⟨T, id, pa, slot, hty, h1, h2, Calls.callWith_builtin rfl (PySem.evalArgs_none (hm pins s1 σ H1 x [] v [] Q I1 r1 .nil q1))⟩
theorem pe_bm (pa : PlainAttrs T) (slot : Slot T name id) (hty : typeOf (.builtin id) = pure (.type "method_descriptor")) (hm : MtR X id r) (ho : PE X o to) (ha : PA X (e :: es) t)
    (hbase : attributeBase o name X.env (eval o X.env) = eval o X.env := by rfl)
    (hfew : ((backTo cpos (starEach (e :: es) X.env)).all (fun x => !x.1) && (backToKw cpos (keywordEach [] X.env)).all (fun x => x.1.isSome)
      && decide ((e :: es).length + ([] : List Keyword).length + (if ([] : List Keyword).isEmpty then 0 else 1) < 30)) = true := by rfl)
    (hline : (apos.endLine == cpos.line) = true := by rfl) (hs : starEach (e :: es) X.env = (false, eval e X.env) :: starEach es X.env := by rfl) (hplain : (backTo cpos (starEach es X.env)).any (·.1) = false := by rfl) :
    PE X (.Call (.Attribute o name apos) (e :: es) [] cpos) (tBM X.K T r to t) := by
  intro pins s σ H Q I h
  refine wpAny_Call_method_late hbase hfew hline rfl (thn (ho pins s σ H _ I h) fun v s1 ⟨x, H1, I1, r1, ty, q1⟩ => ?_)
  obtain ⟨h1, h2⟩ := tyV_is I1 r1 ty
  refine ⟨T, id, pa, slot, hty, h1, h2, ?_⟩
  have hA := ha cpos pins s1 σ H1 _ I1 q1
  rw [hs] at hA ⊢
  refine Calls.callWith_builtin (by show (false || (backTo cpos (starEach es X.env)).any (·.1)) = false; rw [hplain] <;> rfl) (Calls.evalArgs_plain ?_)
  exact thn hA fun us s2 ⟨vs, H2, I2, r2, q2⟩ => hm pins s2 σ H2 x vs v us Q I2 r1 r2 q2
/- xs.append(e), list.index on a module's tuple .. are MtR facts of 06m -/
end
end L2

namespace L2
open PySem PySem.Spec PyProof.Rows

def MtM (X : Cx) (id : String) (r : V → List V → Hp → VK → Prop) : Prop :=
  ∀ (pins : List (Addr × Obj)) (s : Shared) (σ : St) (H : Hp) (x : V) (xs : List V) (v : Value) (us : List Value) (Q : VK), Inv X pins σ H s → RelV x v → Vals xs us → r x xs H Q →
    wpAny (model X.prog X.w) X.A (call (.builtin id) (v :: us)) (EP X pins σ Q) X.xe s

/-! ### lists of values -/
theorem Vals.one : ∀ {x : V} {us : List Value}, Vals [x] us → ∃ u, us = [u] ∧ RelV x u
  | _, _, .cons r .nil => ⟨_, rfl, r⟩
theorem Vals.two : ∀ {x y : V} {us : List Value}, Vals [x, y] us → ∃ u v, us = [u, v] ∧ RelV x u ∧ RelV y v
  | _, _, _, .cons r (.cons q .nil) => ⟨_, _, rfl, r, q⟩
theorem Vals.zero : ∀ {us : List Value}, Vals [] us → us = []
  | _, .nil => rfl
section
variable {X : Cx} {pins : List (Addr × Obj)} {σ : St} {H : Hp} {s : Shared} {l b : Addr} {xs ys zs : List V}

/-! ### the two steps: a tracked list is rewritten, a new list is laid -/
theorem Inv.lset {its its' : List Value} {n : Nat} {f : Array Value → Array Value} {t' : Nat} (I : Inv X pins σ H s) (hH : H l = some (.lst xs))
    (e : s.heap.get? l = some { cls := .type "list", data := .seq its.toArray n }) (hf : f its.toArray = its'.toArray) (hv : Vals ys its') (hz : ys.length ≤ sizeLine) :
    Inv X pins σ (upd H l (.lst ys)) { s with heap := s.heap.update l (Obj.mapSeq f), toks := t' } := by
  have q := PySem.IsL.update e f
  rw [hf] at q
  refine I.write (x := l) (e := l) (by rw [hH]; exact trivial) (.inl rfl) (fun b' u hb hu => (Heap.get?_update_other s.heap (Obj.mapSeq f) (Ne.symm hb)).trans hu) ⟨_, q⟩ ?_
  exact ⟨hz, its', _, hv, q⟩
theorem Inv.lstM (I : Inv X pins σ H s) (hH : H l = some (.lst xs)) : xs.length ≤ sizeLine ∧ ∃ (its : List Value) (n : Nat), Vals xs its ∧ xs.length = its.length ∧ s.heap.get? l = some { cls := .type "list", data := .seq its.toArray n } := by
  obtain ⟨z, its, n, r, e⟩ := I.hok l _ hH
  exact ⟨z, its, n, r, r.length, e⟩

end

section
variable {X : Cx}

/-! ### methods -/
def rAppend : V → List V → Hp → VK → Prop := fun x vs H Q => ∃ l xs y, x = .ref l ∧ vs = [y] ∧ H l = some (.lst xs) ∧ xs.length < sizeLine ∧ Q .non (upd H l (.lst (xs ++ [y])))
theorem mt_append : MtM X "list.append" rAppend := by
  intro pins s σ H x vs v us Q I rx rv h
  obtain ⟨l, xs, y, rfl, rfl, hH, hz, q⟩ := h
  cases rx
  obtain ⟨u, rfl, ru⟩ := rv.one
  obtain ⟨z, its, n, r, hl, e⟩ := I.lstM hH
  refine call_meets F.slot_list_append ⟨_, e, rfl⟩ F.entry_list_append (F.args_list_append_2 _ _) (PySem.list_append l its.toArray n u (by rw [List.size_toArray]; omega)) ⟨e, ?_⟩
  refine ⟨.non, _, I.lset (its' := its ++ [u]) hH e (by simp) (r.append (.cons ru .nil)) ?_, rfl, q⟩
  rw [List.length_append, List.length_singleton]
  omega

/-! ### list + list, list += list, list * int -/
/-! ### del xs[i] -/
end

/-! ### xs[a:b] = ys -/

end L2

namespace L2
open PySem PySem.Spec PyProof.Rows

/-! ### lists of pairs as tables -/
section
variable {κ : Type} [DecidableEq κ]
def valV (kvs : List (κ × V)) (k : κ) : Option V := (kvs.find? fun kv => decide (kv.1 = k)).map (·.2)
/-- in its place, or at the end -/
def putK (kvs : List (κ × V)) (k : κ) (v : V) : List (κ × V) :=
  if (kvs.any fun kv => decide (kv.1 = k)) = true then kvs.map (fun kv => if kv.1 = k then (kv.1, v) else kv) else kvs ++ [(k, v)]
theorem valV_pos {p : κ × V} {r : List (κ × V)} {k : κ} (e : p.1 = k) : valV (p :: r) k = some p.2 := by simp [valV, List.find?_cons, e]
theorem valV_neg {p : κ × V} {r : List (κ × V)} {k : κ} (e : ¬ p.1 = k) : valV (p :: r) k = valV r k := by simp [valV, List.find?_cons, e]
theorem valV_any (k : κ) : ∀ kvs : List (κ × V), (kvs.any fun kv => decide (kv.1 = k)) = (valV kvs k).isSome
  | [] => rfl
  | p :: r => by
    rw [List.any_cons]
    by_cases e : p.1 = k
    · simp only [valV_pos e, decide_eq_true e, Bool.true_or, Option.isSome_some]
    · rw [valV_neg e, decide_eq_false e, Bool.false_or]; exact valV_any k r
theorem length_putK (kvs : List (κ × V)) (k : κ) (v : V) : (putK kvs k v).length ≤ kvs.length + 1 := by
  unfold putK
  split
  · rw [List.length_map]; omega
  · rw [List.length_append, List.length_cons, List.length_nil]; omega
theorem RelO.isSome_eq {o : Option V} {u : Option Value} (r : RelO o u) : o.isSome = u.isSome := by
  cases o with
  | none => cases u with
    | none => rfl
    | some _ => exact (show False from r).elim
  | some _ => cases u with
    | none => exact (show False from r).elim
    | some _ => rfl
theorem RelO.getD {o : Option V} {u : Option Value} {d : V} {d' : Value} (r : RelO o u) (rd : RelV d d') : RelV (o.getD d) (u.getD d') := by
  cases o with
  | none => cases u with
    | none => exact rd
    | some _ => exact (show False from r).elim
  | some _ => cases u with
    | none => exact (show False from r).elim
    | some _ => exact r

/-- raw tables of the same keys -/
theorem KV.val {kvs : List (κ × V)} {vs : List (κ × Value)} (r : KV kvs vs) (k : κ) : RelO (valV kvs k) (valueAt vs k) := by
  unfold KV at r
  induction r with
  | nil => exact True.intro
  | @cons p q ps qs h t ih =>
    obtain ⟨h1, h2⟩ := h
    by_cases e : p.1 = k
    · have e' : q.1 = k := h1.symm.trans e
      have b : valueAt (q :: qs) k = some q.2 := by simp [valueAt, List.find?_cons, e']
      rw [valV_pos e, b]; exact h2
    · have e' : ¬ q.1 = k := fun z => e (h1.trans z)
      have b : valueAt (q :: qs) k = valueAt qs k := by simp [valueAt, List.find?_cons, e']
      rw [valV_neg e, b]; exact ih
theorem KV.any {kvs : List (κ × V)} {vs : List (κ × Value)} (r : KV kvs vs) (k : κ) : (kvs.any fun kv => decide (kv.1 = k)) = vs.any fun kv => decide (kv.1 = k) := by
  unfold KV at r
  induction r with
  | nil => rfl
  | cons h t ih => rw [List.any_cons, List.any_cons, ih, h.1]
theorem KV.repl {kvs : List (κ × V)} {vs : List (κ × Value)} (r : KV kvs vs) (k : κ) {y : V} {u : Value} (ry : RelV y u) :
    KV (kvs.map fun kv => if kv.1 = k then (kv.1, y) else kv) (vs.map fun kv => if kv.1 = k then (kv.1, u) else kv) := by
  unfold KV at r ⊢
  induction r with
  | nil => exact .nil
  | @cons p q ps qs h t ih =>
    rw [List.map_cons, List.map_cons]
    refine .cons ?_ ih
    obtain ⟨h1, h2⟩ := h
    by_cases e : p.1 = k
    · rw [if_pos e, if_pos (h1.symm.trans e)]; exact ⟨h1, ry⟩
    · rw [if_neg e, if_neg (fun z => e (h1.trans z))]; exact ⟨h1, h2⟩
theorem KV.put {kvs : List (κ × V)} {vs : List (κ × Value)} (r : KV kvs vs) (k : κ) {y : V} {u : Value} (ry : RelV y u) : KV (putK kvs k y) (stored vs k u) := by
  unfold putK stored
  rw [r.any k]
  by_cases e : (vs.any fun kv => decide (kv.1 = k)) = true
  · rw [if_pos e, if_pos e]; exact r.repl k ry
  · rw [if_neg e, if_neg e]; exact Paired.snoc r ⟨rfl, ry⟩
theorem KV.length {kvs : List (κ × V)} {vs : List (κ × Value)} (r : KV kvs vs) : kvs.length = vs.length := Paired.length r
end


/-! ### a tracked dict, its keys ints and texts or tuples of these -/
theorem kV_is {P : Program} {w : World} {k : Key} {u : Value} (r : RelV (kV k) u) : (mixKind P w).is k u = true := by
  cases k with
  | inl i => obtain ⟨t, e⟩ := (show ∃ t, u = Value.int i t from r); subst e; exact mixKind_int P w i t
  | inr x => obtain ⟨t, e⟩ := (show ∃ t, u = Value.str x t from r); subst e; exact mixKind_str P w x t
theorem items_are {P : Program} {w : World} : ∀ {ks : List Key} {us : List Value}, Vals (ks.map kV) us → ItemsAre (mixKind P w) ks us
  | [], _, r => by rw [List.map_nil] at r; cases r; exact .nil
  | k :: ks, _, r => by
    rw [List.map_cons] at r
    cases r with
    | cons h t => exact .cons (kV_is h) (items_are t)

/-- raw entries of a dict with tuple keys -/
abbrev KT (H : Hp) : List (List Key × V) → List (List Key × Addr × Value) → Prop := Paired fun p q => p.1 = q.1 ∧ H q.2.1 = some (.tup (p.1.map kV)) ∧ RelV p.2 q.2.2
theorem KT.val {H : Hp} {kvs : List (List Key × V)} {xs : List (List Key × Addr × Value)} (r : KT H kvs xs) (k : List Key) : RelO (valV kvs k) ((atKey xs k).map (·.2)) := by
  induction r with
  | nil => exact True.intro
  | @cons p q ps qs h t ih =>
    obtain ⟨h1, _, h2⟩ := h
    by_cases e : p.1 = k
    · have e' : q.1 = k := h1.symm.trans e
      have b : atKey (q :: qs) k = some q.2 := by simp [atKey, List.find?_cons, e']
      rw [valV_pos e, b]; exact h2
    · have e' : ¬ q.1 = k := fun z => e (h1.trans z)
      have b : atKey (q :: qs) k = atKey qs k := by simp [atKey, List.find?_cons, e']
      rw [valV_neg e, b]; exact ih
theorem KT.repl {H : Hp} {kvs : List (List Key × V)} {xs : List (List Key × Addr × Value)} (r : KT H kvs xs) (k : List Key) {y : V} {u : Value} (ry : RelV y u) :
    KT H (kvs.map fun kv => if kv.1 = k then (kv.1, y) else kv) (xs.map (putAt k u)) := by
  induction r with
  | nil => exact .nil
  | @cons p q ps qs h t ih =>
    rw [List.map_cons, List.map_cons]
    refine .cons ?_ ih
    obtain ⟨h1, h2, h3⟩ := h
    unfold putAt
    by_cases e : p.1 = k
    · rw [if_pos e, if_pos (h1.symm.trans e)]; exact ⟨h1, h2, ry⟩
    · rw [if_neg e, if_neg (fun z => e (h1.trans z))]; exact ⟨h1, h2, h3⟩
theorem KT.put {H : Hp} {kvs : List (List Key × V)} {xs : List (List Key × Addr × Value)} (r : KT H kvs xs) (k : List Key) {b : Addr} {y : V} {u : Value} (hb : H b = some (.tup (k.map kV))) (ry : RelV y u) :
    KT H (putK kvs k y) (storedH xs k b u) := by
  have e : (kvs.any fun kv => decide (kv.1 = k)) = (atKey xs k).isSome := by
    rw [valV_any, (r.val k).isSome_eq, Option.isSome_map]
  unfold putK storedH
  rw [e]
  by_cases q : (atKey xs k).isSome = true
  · rw [if_pos q, if_pos q]; exact r.repl k ry
  · rw [if_neg q, if_neg q]; exact Paired.snoc r ⟨rfl, hb, ry⟩
theorem KT.keeps {H H' : Hp} {kvs : List (List Key × V)} {xs : List (List Key × Addr × Value)} (r : KT H kvs xs) (ht : ∀ b ys, H b = some (.tup ys) → H' b = some (.tup ys)) : KT H' kvs xs :=
  Paired.mapP r fun _ _ z => ⟨z.1, ht _ _ z.2.1, z.2.2⟩

section
variable {P : Program} {w : World} {H : Hp} {h : Heap} {a : Addr}
theorem rd_of {u : HO} (ok : HOk P w H h) (e : Rd H a u) : ObjOk P w H h a u := e.ok ok
theorem dk_rd {kvs : List (Key × V)} (ok : HOk P w H h) (e : Rd H a (.dK kvs)) : kvs.length ≤ sizeLine ∧ (a == sysModules) = false ∧ ∃ vs, KV kvs vs ∧ h.DictOf (mixKind P w) a vs :=
  show ObjOk P w H h a (.dK kvs) from rd_of ok e
theorem dk_of {kvs : List (Key × V)} (ok : HOk P w H h) (e : H a = some (.dK kvs)) : kvs.length ≤ sizeLine ∧ (a == sysModules) = false ∧ ∃ vs, KV kvs vs ∧ h.DictOf (mixKind P w) a vs := dk_rd ok (.inl e)
/-- a tracked tuple of ints and texts is a key -/
theorem key_of {ks : List Key} (ok : HOk P w H h) (e : H a = some (.tup (ks.map kV))) : (tupleKind (mixKind P w)).is h ks a := by
  obtain ⟨_, its, r, o, h1, h2, n, h3⟩ := (show ObjOk P w H h a (.tup (ks.map kV)) from ok a _ e)
  exact ⟨o, its.toArray, n, h1, h2, h3, by simpa using items_are r⟩
theorem dt_rd {kvs : List (List Key × V)} (ok : HOk P w H h) (e : Rd H a (.dT kvs)) : kvs.length ≤ sizeLine ∧ (a == sysModules) = false ∧
    ∃ xs, KT H kvs xs ∧ h.DictOfH (tupleKind (mixKind P w)) a xs := by
  obtain ⟨z, y, xs, r, o, es, ep, h1, h2, h3, h4, h5⟩ := (show ObjOk P w H h a (.dT kvs) from rd_of ok e)
  refine ⟨z, y, xs, r, o, es, ep, h1, h2, h3, h4, fun x hx => ?_, h5⟩
  have all : ∀ {l : List (List Key × V)} {m : List (List Key × Addr × Value)}, KT H l m → ∀ x ∈ m, (tupleKind (mixKind P w)).is h x.1 x.2.1 := by
    intro l m q
    induction q with
    | nil => intro x hx; exact nomatch hx
    | @cons p q ps qs hq t ih =>
      intro x hx
      rcases List.mem_cons.mp hx with e | hx
      · subst e
        exact key_of ok (by rw [← hq.1]; exact hq.2.1)
      · exact ih x hx
  exact all r x hx
theorem dt_of {kvs : List (List Key × V)} (ok : HOk P w H h) (e : H a = some (.dT kvs)) : kvs.length ≤ sizeLine ∧ (a == sysModules) = false ∧
    ∃ xs, KT H kvs xs ∧ h.DictOfH (tupleKind (mixKind P w)) a xs := dt_rd ok (.inl e)
end

/-- what the dict at a holds at the key y -/
def DGet (H : Hp) (a : Addr) (y : V) (r : Option V) : Prop :=
  (∃ kvs k, Rd H a (.dK kvs) ∧ y = kV k ∧ r = valV kvs k) ∨ ∃ kvs k b, Rd H a (.dT kvs) ∧ y = .ref b ∧ H b = some (.tup (k.map kV)) ∧ r = valV kvs k
/-- the heap behind a[y] = v -/
def DPut (H : Hp) (a : Addr) (y v : V) (H' : Hp) : Prop :=
  (∃ kvs k, H a = some (.dK kvs) ∧ y = kV k ∧ kvs.length < sizeLine ∧ H' = upd H a (.dK (putK kvs k v))) ∨
  ∃ kvs k b, H a = some (.dT kvs) ∧ y = .ref b ∧ H b = some (.tup (k.map kV)) ∧ kvs.length < sizeLine ∧ H' = upd H a (.dT (putK kvs k v))
theorem DGet.t {H : Hp} {a b : Addr} {kvs : List (List Key × V)} {k : List Key} (e : H a = some (.dT kvs)) (eb : H b = some (.tup (k.map kV))) : DGet H a (.ref b) (valV kvs k) := .inr ⟨kvs, k, b, .inl e, rfl, eb, rfl⟩
theorem DPut.t {H : Hp} {a b : Addr} {kvs : List (List Key × V)} {k : List Key} {v : V} (e : H a = some (.dT kvs)) (eb : H b = some (.tup (k.map kV))) (hl : kvs.length < sizeLine) :
    DPut H a (.ref b) v (upd H a (.dT (putK kvs k v))) := .inr ⟨kvs, k, b, e, rfl, eb, hl, rfl⟩


section
variable {X : Cx} {pins : List (Addr × Obj)} {σ : St} {H : Hp} {s : Shared} {a : Addr} {y v : V} {u r : Value} {o : Option V} {A : Around} {E : Value → Shared → Prop}

theorem Inv.big (I : Inv X pins σ H s) : sysModules < s.heap.objs.size := by
  have h : mainGlobals < s.heap.objs.size := (I.mod.glob.keeps I.bk).lt
  exact Nat.lt_trans (by decide) h

/-- d[y], there -/
theorem d_getItem {Q : Value → Shared → Prop} (hu : A.units + 1 < cLine) (I : Inv X pins σ H s) (g : DGet H a y (some v)) (ry : RelV y u) (h : ∀ w' s', Inv X pins σ H s' → RelV v w' → Q w' s') :
    wpAny (model X.prog X.w) A (getItem (.ref a) u) Q E s := by
  rcases g with ⟨kvs, k, e, ey, l⟩ | ⟨kvs, k, b, e, ey, eb, l⟩
  · subst ey
    obtain ⟨z, hd, vs, rel, dd⟩ := dk_rd I.hok e
    obtain ⟨w', hw, rw'⟩ := RelO.some_of (v := v) (o := valueAt vs k) (by rw [l]; exact rel.val k)
    exact wpAny_getItem_of (kV_is ry) dd.mapOf hw (h w' _ (I.tok _) rw')
  · subst ey
    cases (show u = Value.ref b from ry)
    obtain ⟨z, hd, xs, rel, dd⟩ := dt_rd I.hok e
    obtain ⟨w', hw, rw'⟩ := RelO.some_of (v := v) (o := (atKey xs k).map (·.2)) (by rw [l]; exact rel.val k)
    obtain ⟨p, hp, hp2⟩ := Option.map_eq_some_iff.mp hw
    refine wpAny_getItem_heap (tupleKind_room_in1 hu) (key_of I.hok eb) dd hp ?_
    rw [hp2]
    exact h w' _ (I.tok _) rw'
/-- y in d -/
theorem d_in {Q : Value → Shared → Prop} (hu : A.units + 1 < cLine) (I : Inv X pins σ H s) (g : DGet H a y o) (ry : RelV y u) (h : ∀ s', Inv X pins σ H s' → Q (.bool o.isSome) s') :
    wpAny (model X.prog X.w) A (compareOp .In u (.ref a)) Q E s := by
  rcases g with ⟨kvs, k, e, ey, l⟩ | ⟨kvs, k, b, e, ey, eb, l⟩
  · subst ey
    obtain ⟨z, hd, vs, rel, dd⟩ := dk_rd I.hok e
    refine wpAny_in_of (kV_is ry) hd dd.mapOf ?_
    rw [← (rel.val k).isSome_eq, ← l]
    exact h _ (I.tok _)
  · subst ey
    cases (show u = Value.ref b from ry)
    obtain ⟨z, hd, xs, rel, dd⟩ := dt_rd I.hok e
    refine wpAny_in_heap (tupleKind_room_in1 hu) (key_of I.hok eb) hd dd ?_
    have q := (rel.val k).isSome_eq
    rw [Option.isSome_map] at q
    rw [← q, ← l]
    exact h _ (I.tok _)
/-- a dict's object is replaced -/
theorem d_write {h' : Heap} {t' : Nat} {ob : HO} (I : Inv X pins σ H s) (mu : Mut (H a)) (hs : Heap.SameBut a s.heap h') (he : ∃ q, h'.get? a = some q) (new : ObjOk X.prog X.w (upd H a ob) h' a ob) :
    Inv X pins σ (upd H a ob) { s with heap := h', toks := t' } :=
  I.write (x := a) (e := a) mu (.inl rfl) (fun b q hb z => (hs.2 b hb).trans z) he new
theorem dk_new {P : Program} {w : World} {H' : Hp} {h' : Heap} {kvs : List (Key × V)} {vs : List (Key × Value)} (z : kvs.length ≤ sizeLine) (hd : (a == sysModules) = false) (rel : KV kvs vs) (dd : h'.DictOf (mixKind P w) a vs) :
    ObjOk P w H' h' a (.dK kvs) := ⟨z, hd, vs, rel, dd⟩
/-- d[y] = v -/
theorem d_setItem {H' : Hp} {Q : Unit → Shared → Prop} (hu : A.units + 1 < cLine) (I : Inv X pins σ H s) (g : DPut H a y v H') (ry : RelV y u) (rv : RelV v r) (h : ∀ s', Inv X pins σ H' s' → Q () s') :
    wpAny (model X.prog X.w) A (setItem (.ref a) u r) Q E s := by
  rcases g with ⟨kvs, k, e, ey, l, eH⟩ | ⟨kvs, k, b, e, ey, eb, l, eH⟩
  · subst ey eH
    obtain ⟨z, hd, vs, rel, dd⟩ := dk_of I.hok e
    have hz : vs.length ≤ sizeLine := by rw [← rel.length]; exact z
    have hl : (putK kvs k v).length ≤ sizeLine := by have := length_putK kvs k v; omega
    refine wpAny_setItem_pairs (hsz := hz) (kV_is ry) dd fun h' dd' hs => h _ ?_
    have he : ∃ q, h'.get? a = some q := let ⟨q, _, _, hq, _⟩ := dd'; ⟨q, hq⟩
    exact d_write I (by rw [e]; exact True.intro) hs he (dk_new hl hd (rel.put k rv) dd')
  · subst ey eH
    cases (show u = Value.ref b from ry)
    obtain ⟨z, hd, xs, rel, dd⟩ := dt_of I.hok e
    have hz : xs.length ≤ sizeLine := by rw [← Paired.length rel]; exact z
    have hl : (putK kvs k v).length ≤ sizeLine := by have := length_putK kvs k v; omega
    refine wpAny_setItem_heap (hsz := hz) (tupleKind_room_in1 hu) (key_of I.hok eb) dd fun h' dd' hs => h _ ?_
    obtain ⟨q, es, ep, hq, h2, h3, h4, _, h5⟩ := dd'
    refine d_write I (by rw [e]; exact True.intro) hs ⟨q, hq⟩ ⟨hl, hd, _, (rel.put k eb rv).keeps fun c ys ec => ?_, q, es, ep, hq, h2, h3, h4, h5⟩
    rw [upd_ne (ne_of ec e (fun z => nomatch z))]
    exact ec
end



/-! ### readings and rules -/
/-- the element of a subscription, not a slice -/
def NoSl (i : Expr) : Prop := ∀ ov iv, subscripted i false ov iv = operate [ov, iv] (getItem ov iv)
theorem subD_of {prog : Program} {w : World} {A : Around} {E : Value → Shared → Prop} {s : Shared} {env : Env} {value slice : Expr} {pos : Pos} {T id : String} {Q : Value → Shared → Prop}
    (hl : typeLookup (.type T) "__getitem__" = pure (some (.builtin id))) (hs : NoSl slice)
    (h : wpAny (model prog w) A (eval value env) (fun o s₁ => wpAny (model prog w) A (eval slice env) (fun i s₂ => s₂.TypeIs o T ∧ wpAny (model prog w) A (getItem o i) Q E s₂) E s₁) E s) :
    wpAny (model prog w) A (eval (.Subscript value slice pos) env) Q E s := by
  refine Subscript_ (wpAny_mono h (fun o s₁ h₁ => wpAny_mono h₁ (fun i s₂ h₂ => ?_) fun _ _ x => x) fun _ _ x => x)
  obtain ⟨hT, h₂⟩ := h₂
  unfold subscriptTail
  refine wpAny_bind ?_
  rw [getitemInPython_of_ne hT.not_modules]
  refine wpAny_bind (wpAny_specialOf hT hl ?_)
  have fin : wpAny (model prog w) A (subscripted slice false o i) (fun r s₃ => wpAny (model prog w) A (letTemporaryGo value o r >>= fun _ => pure r) Q E s₃) E s₂ := by
    rw [hs o i]
    exact wpAny_operating (wpAny_mono h₂ (fun r s₃ h₃ => wpAny_bind (wpAny_letTemporaryGo (wpAny_pure h₃))) fun _ _ x => x)
  first
    | exact wpAny_pure (wpAny_bind fin)
    | exact wpAny_bind (wpAny_pure (wpAny_bind fin))
    | exact wpAny_bind fin

theorem dict_typeIs {X : Cx} {pins : List (Addr × Obj)} {σ : St} {H : Hp} {s : Shared} {a : Addr} {y : V} {o : Option V} (I : Inv X pins σ H s) (g : DGet H a y o) : s.TypeIs (.ref a) "dict" := by
  rcases g with ⟨kvs, k, e, _, _⟩ | ⟨kvs, k, b, e, _, _, _⟩
  · obtain ⟨_, _, vs, _, dd⟩ := dk_rd I.hok e
    exact dd.typeIs
  · obtain ⟨_, _, xs, _, dd⟩ := dt_rd I.hok e
    exact dd.typeIs
/-- d[y] -/
def tDGet (td ty : TE) : TE := fun σ H Q => td σ H fun x H1 => ty σ H1 fun y H2 => ∃ a v, x = .ref a ∧ DGet H2 a y (some v) ∧ Q v H2
/-- y in d, y not in d -/
def tDIn (ty td : TE) : TE := fun σ H Q => ty σ H fun y H1 => td σ H1 fun x H2 => ∃ a o, x = .ref a ∧ DGet H2 a y o ∧ Q (.bl o.isSome) H2
/-- d[y] = v -/
def sDPut (td ty tv : TE) : TS := fun D σ H => tv σ H fun v H1 => td σ H1 fun x H2 => ty σ H2 fun y H3 => ∃ a H4, x = .ref a ∧ DPut H3 a y v H4 ∧ D.nx σ H4
section
variable {X : Cx} {o i e value : Expr} {pos pos' tpos : Pos} {td ty tv : TE}
theorem pe_dget (hu : X.A.units + 1 < cLine) (ho : PE X o td) (hi : PE X i ty) (hs : NoSl i) : PE X (.Subscript o i pos) (tDGet td ty) := by
  intro pins s σ H Q I h
  refine subD_of PySem.F.slot_dict_getitem.lookup hs (thn (ho pins s σ H _ I h) fun u s1 ⟨x, H1, I1, rx, q1⟩ => thn (hi pins s1 σ H1 _ I1 q1) fun iv s2 ⟨y, H2, I2, ry, a, v, ex, g, q2⟩ => ?_)
  subst ex
  obtain rfl : u = Value.ref a := rx
  exact ⟨dict_typeIs I2 g, d_getItem hu I2 g ry fun w' s3 I3 rw' => ⟨v, H2, I3, rw', q2⟩⟩
theorem pc_din (hu : X.A.units + 1 < cLine) (hi : PE X i ty) (ho : PE X o td) : PC X .In i o (tDIn ty td) := by
  intro pins s σ H Q I h
  refine thn (hi pins s σ H _ I h) fun iv s1 ⟨y, H1, I1, ry, q1⟩ => thn (ho pins s1 σ H1 _ I1 q1) fun u s2 ⟨x, H2, I2, rx, a, ov, ex, g, q2⟩ => ?_
  subst ex
  obtain rfl : u = Value.ref a := rx
  exact d_in hu I2 g ry fun s3 I3 => ⟨.bl ov.isSome, H2, I3, rfl, q2⟩
theorem ps_dput (hu : X.A.units + 1 < cLine) (ho : PE X o td) (hi : PE X i ty) (hv : PE X value tv) (hs : swapsWith value (some (.Subscript o i pos')) pos.line X.env = pure false) :
    PS X (.Assign [.Subscript o i pos'] value pos) (sDPut td ty tv) := by
  intro pins s σ H D I h
  refine wpAny_Assign_Subscript (thn (hv pins s σ H _ I h) fun r s1 ⟨v, H1, I1, rv, q1⟩ => thn (ho pins s1 σ H1 _ I1 q1) fun u s2 ⟨x, H2, I2, rx, q2⟩ => thn (hi pins s2 σ H2 _ I2 q2) fun iv s3 ⟨y, H3, I3, ry, a, H4, ex, g, q3⟩ => ?_) hs
  subst ex
  obtain rfl : u = Value.ref a := rx
  exact d_setItem hu I3 g ry rv fun s4 I4 => ⟨σ, H4, I4, q3⟩
end


/-! ### displays -/
theorem dt_empty {P : Program} {w : World} {H : Hp} (h : Heap) (hb : sysModules < h.objs.size) : ObjOk P w H (h.push { cls := .type "dict", data := .dict #[] }) h.objs.size (.dT []) :=
  ⟨Nat.zero_le _, beq_eq_false_iff_ne.mpr (Ne.symm (Nat.ne_of_lt hb)), [], .nil, _, #[], 0, Heap.get?_push_size _ rfl, ⟨rfl, rfl, rfl⟩, rfl, rfl, List.nodup_nil⟩
def tDNewT : TE := fun _ H Q => ∀ p, H p = none → Q (.ref p) (upd H p (.dT []))
section
variable {X : Cx} {pos : Pos}
theorem pe_dnewT : PE X (.Dict [] [] pos) tDNewT := fun pins s σ H Q I h =>
  wpAny_Dict_empty ⟨.ref s.heap.objs.size, _, I.laid (a := s.heap.objs.size) (o := .dT []) (t' := s.toks) (fun _ _ q => Heap.get?_push_of_some _ q) (Nat.le_refl _) (dt_empty s.heap I.big), rfl, h _ (I.hok.fresh (Nat.le_refl _))⟩
end

/-! ### methods -/
/-- a method call o.m(e) of a built-in, with one argument: what must be seen of the text -/
structure M1 (X : Cx) (o : Expr) (m : Str) (apos : Pos) (e : Expr) (cpos : Pos) : Prop where
  base : attributeBase o m X.env (eval o X.env) = eval o X.env
  few : ((backTo cpos (starEach [e] X.env)).all (fun x => !x.1) && (backToKw cpos (keywordEach [] X.env)).all (fun x => x.1.isSome)
    && decide (([e] : List Expr).length + ([] : List Keyword).length + (if ([] : List Keyword).isEmpty then 0 else 1) < 30)) = true
  line : (apos.endLine == cpos.line) = true
  trees : backTo cpos (starEach [e] X.env) = [(false, eval e X.env)]
/-- a is a dict, whatever its keys -/
def IsD (H : Hp) (a : Addr) : Prop := (∃ kvs, Rd H a (.dK kvs)) ∨ ∃ kvs, Rd H a (.dT kvs)
theorem isD_at {X : Cx} {pins : List (Addr × Obj)} {σ : St} {H : Hp} {s : Shared} {a : Addr} (I : Inv X pins σ H s) (d : IsD H a) :
    s.TypeIs (.ref a) "dict" ∧ (∀ b, Value.ref a = .ref b → ∃ ob, s.heap.get? b = some ob ∧ ob.dict = none) ∧ (a == sysModules) = false := by
  rcases d with ⟨kvs, e⟩ | ⟨kvs, e⟩
  · obtain ⟨_, hd, vs, _, dd⟩ := dk_rd I.hok e
    refine ⟨dd.typeIs, fun b q => ?_, hd⟩
    cases q
    obtain ⟨ob, _, _, h1, h2, _⟩ := dd
    exact ⟨ob, h1, h2.2.1⟩
  · obtain ⟨_, hd, xs, _, dd⟩ := dt_rd I.hok e
    refine ⟨dd.typeIs, fun b q => ?_, hd⟩
    cases q
    obtain ⟨ob, _, _, h1, h2, _⟩ := dd
    exact ⟨ob, h1, h2.2.1⟩

section
variable {X : Cx} {pins : List (Addr × Obj)} {σ : St} {H : Hp} {s : Shared} {a : Addr} {y d : V} {u r : Value} {o : Option V} {A : Around} {E : Value → Shared → Prop}
/-- d.get(y) -/
theorem d_get1 {Q : Value → Shared → Prop} (hu : A.units + 1 < cLine) (I : Inv X pins σ H s) (g : DGet H a y o) (ry : RelV y u) (h : ∀ w' s', Inv X pins σ H s' → RelV (o.getD .non) w' → Q w' s') :
    wpAny (model X.prog X.w) A (call (.builtin "dict.get") [.ref a, u]) Q E s := by
  rcases g with ⟨kvs, k, e, ey, l⟩ | ⟨kvs, k, b, e, ey, eb, l⟩
  · subst ey
    obtain ⟨z, hd, vs, rel, dd⟩ := dk_rd I.hok e
    refine call_meetsIn PySem.F.slot_dict_get dd.typeIs PySem.F.entry_dict_get (PySem.F.args_dict_get_2 _ _) (meets_dict_get (mixKind X.prog X.w) a (kV_is ry) hd) ⟨_, dd.mapOf, h _ _ (I.tok _) ?_⟩
    rw [l]
    exact (rel.val k).getD rfl
  · subst ey
    cases (show u = Value.ref b from ry)
    obtain ⟨z, hd, xs, rel, dd⟩ := dt_rd I.hok e
    refine call_meetsIn PySem.F.slot_dict_get dd.typeIs PySem.F.entry_dict_get (PySem.F.args_dict_get_2 _ _) (meetsH_dict_get (tupleKind (mixKind X.prog X.w)) a b hd) ⟨tupleKind_room_in1 hu, k, xs, key_of I.hok eb, dd, h _ _ (I.tok _) ?_⟩
    rw [l]
    exact (rel.val k).getD rfl
end

def tDGet1 (td ty : TE) : TE := fun σ H Q => td σ H fun x H1 => ∃ a, x = .ref a ∧ IsD H1 a ∧ ty σ H1 fun y H2 => ∃ o, DGet H2 a y o ∧ Q (o.getD .non) H2
section
variable {X : Cx} {o e f : Expr} {apos cpos : Pos} {td ty tx : TE}
theorem pe_dget1 (hu : X.A.units + 1 < cLine) (ho : PE X o td) (he : PE X e ty) (m : M1 X o "get" apos e cpos) : PE X (.Call (.Attribute o "get" apos) [e] [] cpos) (tDGet1 td ty) := by
  intro pins s σ H Q I h
  refine wpAny_Call_method m.base m.few m.line PySem.F.plainAttrs_dict PySem.F.slot_dict_get PySem.F.type_dict_get (thn (ho pins s σ H _ I h) fun u s1 ⟨x, H1, I1, rx, a, ex, d, q1⟩ => ?_)
  subst ex
  obtain rfl : u = Value.ref a := rx
  obtain ⟨t1, t2, _⟩ := isD_at I1 d
  refine ⟨t1, t2, ?_⟩
  rw [m.trees]
  refine Calls.callWith_builtin rfl (Calls.evalArgs_plain (Calls.spliced_cons (thn (he pins s1 σ H1 _ I1 q1) fun iv s2 ⟨y, H2, I2, ry, ov, g, q2⟩ => Calls.spliced_nil ?_)))
  exact d_get1 hu I2 g ry fun w' s3 I3 rw' => ⟨_, H2, I3, rw', q2⟩
end

/-! ### dict(d): a copy -/


end L2

namespace Att
open PySem PySem.W PySem.Calls PyProof.Rows

/-! ### the script -/
theorem ints_of_wellAll {P : Params} {h : Heap} : ∀ (ns : List Int) (vs : List Value), WellAll P h vs (ns.map WData.int) → IntsAre vs ns := by
  intro ns
  induction ns with
  | nil =>
    intro vs w
    rw [List.map_nil] at w
    cases w
    exact .nil
  | cons n ns ih =>
    intro vs w
    rw [List.map_cons] at w
    cases w with
    | cons a b =>
      cases a
      exact .cons _ _ (ih _ b)

theorem script_of {l : OpenLaw} {n : Nat} (hn : l.most = some n) {P : Params} {h : Heap} {args : List WData} {vals : List Value}
    (hpre : l.row.toRowW.claim.pre args = true) (hwl : WellAll P h vals args) :
    ∃ a vs ns, vals = [Value.ref a] ∧ args = [WData.list (ns.map WData.int)] ∧ h.get? a = some { cls := .type "list", data := .seq vs.toArray } ∧ IntsAre vs ns ∧ ns.length ≤ n := by
  have hsh : WShape.hasAll [] args [.list .int] = true := (pre_splitW hpre).1
  have hc : l.pre.holds [] { args := args } = true := (pre_splitW hpre).2
  obtain ⟨d, r, rfl, h1, h2⟩ := hasAllW_cons hsh
  obtain rfl := hasAllW_nil h2
  obtain ⟨xs, rfl, h3⟩ := hasW_list h1
  obtain ⟨ns, rfl⟩ := items_int h3
  have hlen : ns.length ≤ n := by
    unfold OpenLaw.pre at hc
    have h4 : (WTm.not (.lt (.lit (.int (n : Int))) (.len (.arg 0)))).holds [] { args := [.list (ns.map .int)] } = true := by
      have h4 := (holds_andW hc).1
      rw [hn] at h4
      exact h4
    have h5 := condW_of h4 (w_not (w_lt w_lit (w_len_list (w_arg rfl))))
    rw [List.length_map] at h5
    refine Nat.le_of_not_lt fun q => ?_
    have q' : (n : Int) < ((ns.length : Nat) : Int) := by omega
    first
      | (rw [decide_eq_true q'] at h5; exact absurd h5 (by decide))
      | (simp at h5; omega)
  cases hwl with
  | cons w1 w2 =>
    cases w2
    cases w1 with
    | list ho hall => exact ⟨_, _, ns, rfl, rfl, ho, ints_of_wellAll ns _ hall, hlen⟩

theorem post_true (l : OpenLaw) (args : List WData) : l.row.toRowW.claim.post args (.bool true) args = true :=
  postW_of (r := l.row.toRowW) (X := (true == true))
    (show WShape.has [] (.bool true) .bool = true by first | rfl | decide | simp [WShape.has, WShape.arms, WShape.armsAll])
    (show (WTm.eq .res (.lit (.bool true))).value [] { args := args, res := some (.bool true), after := args } = some (.bool (true == true)) from w_eq_bool (w_res rfl) w_lit) rfl

/-! ### the attachment: holds_open's last premise (the goal 'hc' behind k_head) from a wpAny of the law's body -/
/-- the same from a codeAny of the CALL (for a layer whose function contracts speak of calls) -/
theorem attach_call {l : OpenLaw} {n : Nat} {q : Program} {loose : List Str} {XP : (Str → Option Value) → Heap → Prop} {YP : World → Heap → Prop} {d : DefRec}
    (hn : l.most = some n) (hdf : d.params.defaults = [])
    (call : ∀ (w : World) (s₀ s₁ : Shared) (mg mb : Str → Option Value) (fa : Addr) (o : Obj) (pm cd doc : Value) (a : Addr) (vs : List Value) (ns : List Int),
      Ground q loose [] XP w s₀ mg mb s₁.heap → YP w s₁.heap →
      s₁.heap.get? fa = some o → o.data = .func (docDef d.name d.params d.body d.scope pm cd doc) → s₁.heap.CodeRec cd d.name → mg d.name = some (.ref fa) →
      s₁.heap.get? a = some { cls := .type "list", data := .seq vs.toArray } → IntsAre vs ns → ns.length ≤ n → s₁.gens = #[] →
      codeAny (model l.prog w) callerA (.call (.ref fa) ⟨[.ref a], []⟩) (fun r s' => r = .ok (.ret (.bool true)) ∧ OldK s₁.heap s'.heap ∧ s'.os = s₁.os ∧ AllBare s'.gens) s₁) :
    WalkO q loose XP YP l.row.toRowW d [] (fun f vs => PySem.call f vs) := by
  intro w s₀ s₁ mg mb G Y fa o pm cd doc dV kV ho hd hcd hD hmg hg args vals as hpre hlay hrd hwl hlo
  obtain rfl : dV = .none := Dflts.none hD hdf
  obtain rfl : kV = .none := Dflts.noKw hD
  obtain ⟨a, vs, ns, rfl, rfl, hobj, hints, hlen⟩ := script_of hn hpre hwl
  refine enter_call (codeAny_mono (call w s₀ s₁ mg mb fa o pm cd doc a vs ns G Y ho (fd_plain hd) hcd hmg hobj hints hlen hg) fun r s' hq => ?_)
  obtain ⟨rfl, h2, h3, h4⟩ := hq
  exact ⟨.inl ⟨.bool true, .bool true, [], rfl, fun _ => rfl, .bool true, post_true l _, fun _ => ⟨List.Pairwise.nil, fun _ hm => (nomatch hm)⟩⟩, h2, h3, h4⟩

/-! ### rules over ANY heap (no ledger) from facts about the written part K: the library's own take a ledger (News) for what they write -/
end Att

namespace L2
open PySem PySem.Spec PyProof.Rows

theorem vals_ints : ∀ {vs : List Value} {ns : List Int}, IntsAre vs ns → Vals (ns.map V.int) vs
  | _, _, .nil => .nil
  | _, _, .cons n t h => .cons ⟨t, rfl⟩ (vals_ints h)

/-- nothing is tracked but the script, known to the object (or it is an object of the module) -/
def Only (H : Hp) : Prop := ∀ b, H b = none ∨ ∃ o xs, H b = some (.frz o (.lst xs))

/-- THE HEAD: the law's promise, at the heap behind the top. F, the promise of the law's def, may use that base is part of the heap (so K.In base, base.Ns mainGlobals mg stand in Mod) -/
theorem law_call {P : Program} {w : World} {K : PySem.W.Frag} {mg mb : Str → Option Value} {CX : CXT} {k : Nat} {fa a : Addr} {fd : FuncData} {x : Str} {sp : Sp} {s₁ : Shared} {vs : List Value} {ns : List Int}
    (KX : K.In s₁.heap) (hns : s₁.heap.Ns mainGlobals mg) (hb : s₁.heap.Ns builtinsNs mb) (hbb : ∀ x : Str, x ≠ "__name__" → mb x = bootBuiltins x) (hlim : s₁.heap.NoLimit) (hg : s₁.gens = #[])
    (ha : s₁.heap.get? a = some { cls := .type "list", data := .seq vs.toArray }) (hi : IntsAre vs ns) (hl : ns.length ≤ sizeLine) (hr : Room k callerA)
    (F : ∀ base : Heap, K.In base → base.Ns mainGlobals mg → FnOk P w K mg base CX k fa fd [x] sp) (hbind : ∀ (s : Shared) (u : Value), BindsTo s fd ⟨[u], []⟩ [(x, u)])
    (hsp : ∀ H : Hp, Only H → SqL K H a (ns.map V.int) → sp [.ref a] H (fun v _ => v = .bl true) fun _ _ _ => False)
    (hCX : ∀ H e s', CX [] H s₁ (fun _ _ _ => False) e s' → False) :
    codeAny (model P w) callerA (.call (.ref fa) ⟨[.ref a], []⟩) (fun r s' => r = .ok (.ret (.bool true)) ∧ OldK s₁.heap s'.heap ∧ s'.os = s₁.os ∧ AllBare s'.gens) s₁ := by
  have rv := vals_ints hi
  have lenV := hi.length
  -- from an abstract heap in which nothing but the script may be tracked
  have core : ∀ H : Hp, Only H → SqL K H a (ns.map V.int) → HOk P w H s₁.heap → (∀ b, H b ≠ none → b = a) → (H a ≠ none → K.lookup a = none) →
      codeAny (model P w) callerA (.call (.ref fa) ⟨[.ref a], []⟩) (fun r s' => r = .ok (.ret (.bool true)) ∧ OldK s₁.heap s'.heap ∧ s'.os = s₁.os ∧ AllBare s'.gens) s₁ := by
    intro H hO hS hok hA hK
    have base_of : ∀ {b : Addr} {o : Obj}, s₁.heap.get? b = some o → H b = none → (hidT s₁.heap H).get? b = some o := fun e n => hidT_get e n
    have noA : ∀ {b : Addr} {o : Obj} {es : Array DictEntry} {ep : Nat}, s₁.heap.get? b = some o → o.data = .dict es ep → H b = none := fun {b o es ep} e d => by
      cases q : H b with
      | none => rfl
      | some u =>
        have e' : b = a := hA b (by rw [q]; simp)
        subst e'
        rw [ha] at e; cases e
        have d' : Data.seq vs.toArray _ = Data.dict es ep := d
        cases d'
    have nsK : ∀ {b : Addr} {m : Str → Option Value}, s₁.heap.Ns b m → (hidT s₁.heap H).Ns b m := fun {b m} ⟨o, es, ep, e, d, r⟩ => ⟨o, es, ep, base_of e (noA e d), d, r⟩
    have hKb : K.In (hidT s₁.heap H) := fun b o e => base_of (KX b o e) (by
      cases q : H b with
      | none => rfl
      | some u =>
        have e' : b = a := hA b (by rw [q]; simp)
        subst e'
        rw [hK (by rw [q]; simp)] at e; cases e)
    have hM : Mod K mg (hidT s₁.heap H) := ⟨hKb, nsK hns, ⟨mb, nsK hb, hbb⟩, let ⟨mc, h1, h2⟩ := hlim; ⟨mc, nsK h1, h2⟩⟩
    have e0 : Env0 P w K mg (hidT s₁.heap H) callerA [] s₁ H := ⟨rfl, hM, fun b o e => of_hidT e, Nat.le_of_eq (hidT_size _ _), trivial, fun b hb => absurd (show b ∈ ([] : List Addr) from hb) (by simp), hok, .of_eq hg⟩
    refine codeAny_mono ((F _ hKb (nsK hns)).run callerA [] s₁ H ⟨[.ref a], []⟩ [.ref a] [.ref a] _ _ hr e0 (hbind s₁ (.ref a)) (.cons rfl .nil) (hsp H hO hS)) fun r s' h => ?_
    cases r with
    | error e => exact (hCX H e s' h).elim
    | ok fl =>
      cases fl with
      | next => exact False.elim h
      | brk => exact False.elim h
      | cont => exact False.elim h
      | ret u =>
        obtain ⟨v, H', os, bare, un, hok', r', q⟩ := h
        have q' : v = .bl true := q
        subst q'
        obtain rfl : u = Value.bool true := r'
        refine ⟨rfl, OldK.of_keep fun b o e => ?_, os, bare⟩
        cases q : H b with
        | none => exact un.keep b o e q (by intro z; exact absurd (show b ∈ ([] : List Addr) from z) (by simp)) (by simp)
        | some u =>
          rcases hO b with z | ⟨ob, xs, z⟩
          · rw [q] at z; cases z
          · have z2 := un.frzs b ob _ z
            obtain ⟨e1, _⟩ := hok b _ z
            obtain ⟨e2, _⟩ := hok' b _ z2
            rw [e] at e1; cases e1
            exact e2
  cases hk : K.lookup a with
  | some o =>
    -- the script is one of the module's own objects
    have e := KX a o hk
    rw [ha] at e
    cases e
    refine core (fun _ => none) (fun _ => .inl rfl) (.inr ⟨_, vs.toArray, _, hk, rfl, rfl, rfl, by rw [List.size_toArray, lenV]; exact hl, by simpa using rv⟩) (fun b u z => by have z' : (none : Option HO) = some u := z; cases z') (fun b z => absurd rfl z) fun z => absurd rfl z
  | none =>
    refine core (fun b => if b = a then some (.frz { cls := .type "list", data := .seq vs.toArray } (.lst (ns.map V.int))) else none) (fun b => ?_) (.inl (.inr ⟨{ cls := .type "list", data := .seq vs.toArray }, if_pos rfl⟩)) (fun b u z => ?_) (fun b z => ?_) fun _ => hk
    · by_cases hb : b = a
      · exact .inr ⟨_, _, if_pos hb⟩
      · exact .inl (if_neg hb)
    · by_cases hb : b = a
      · have z' := (if_pos hb).symm.trans z
        cases z'
        subst hb
        exact ⟨ha, by rw [List.length_map]; exact hl, vs, _, rv, ha⟩
      · have z' := (if_neg hb).symm.trans z
        cases z'
    · by_cases hb : b = a
      · exact hb
      · exact absurd (if_neg hb) z
end L2

namespace L2
open PySem PySem.Spec PyProof.Rows

/-- the goal that k_head leaves (case hc), from the law's promise. F gives the function object fd (K's own) once, then the promise over every base -/
theorem walk_of {l : PySem.W.OpenLaw} {n k : Nat} {q : Program} {loose : List Str} {XP : (Str → Option Value) → Heap → Prop} {YP : World → Heap → Prop} {d : DefRec} {K : Params → PySem.W.Frag} {CX : World → CXT} {sp : World → Sp} {x : Str}
    (hn : l.most = some n) (hn2 : n ≤ sizeLine) (hdf : d.params.defaults = []) (hr : Room k callerA)
    (hY : ∀ (w : World) (h : Heap), YP w h → (K w.params).In h)
    (F : ∀ (w : World) (mg : Str → Option Value) (fa : Addr) (h : Heap), (K w.params).In h → h.Ns mainGlobals mg → mg d.name = some (.ref fa) →
      ∃ fd : FuncData, (∀ (s : Shared) (u : Value), BindsTo s fd ⟨[u], []⟩ [(x, u)]) ∧
        ∀ base : Heap, (K w.params).In base → base.Ns mainGlobals mg → FnOk l.prog w (K w.params) mg base (CX w) k fa fd [x] (sp w))
    (hsp : ∀ (w : World) (H : Hp) (a : Addr) (ns : List Int), ns.length ≤ n → Only H → SqL (K w.params) H a (ns.map V.int) → sp w [.ref a] H (fun v _ => v = .bl true) fun _ _ _ => False)
    (hCX : ∀ (w : World) (H : Hp) (s : Shared) (e : Value) (s' : Shared), CX w [] H s (fun _ _ _ => False) e s' → False) :
    PySem.W.WalkO q loose XP YP l.row.toRowW d [] (fun f vs => PySem.call f vs) := by
  refine Att.attach_call hn hdf fun w s₀ s₁ mg mb fa o pm cd doc a vs ns G Y ho hd hcd hmg hobj hints hlen hg => ?_
  have KX := hY w _ Y
  obtain ⟨fd, hb, hF⟩ := F w mg fa _ KX G.T.g hmg
  exact law_call KX G.T.g G.T.b G.T.builtins G.T.nolimit hg hobj hints (Nat.le_trans hlen hn2) hr hF hb (fun H hO hS => hsp w H a ns hlen hO hS) fun H e s' => hCX w H s₁ e s'
end L2

/- THE LAST THEOREM (shape; LID, My.* are yours):
   My.Adr: a structure of the addresses that your layer names (classes, functions); My.Txt K t: a structure (Prop) of the equations over K;
   My.txt_mk : {K} {implicit addresses ..} (e1 : nsIn K mainGlobals "law" = some (some (.ref f))) (e2 : K.lookup f = some ⟨oc, od, .func (fnOf "law" "law" params body scope dV kV doc pm an cdv ct), sl⟩) (e3 : codeIn K cdv "law" = true) .. : ∃ t, My.Txt K t

set_option maxRecDepth 100000 in
set_option maxHeartbeats 0 in
theorem PySem.Challenge.cw_LID_holds : PySem.Challenge.rw_LID.Holds := by
  w_on; o_law; k_head; (case hw => w_witness2)
  k_fill
  refine L2.walk_of (l := PySem.Challenge.rw_LID) (n := 63) (k := 40) (x := "script") (CX := fun w => ..) (sp := fun _ => My.sp_law) rfl (by decide) rfl ⟨rfl, by decide, by decide⟩ (fun w h Y => PySem.W.kIn_of Y) ?F ?S ?C
  case F =>
    intro w mg fa h KX G hmg
    have T : ∃ t, My.Txt (L2.KOf KX) t := by
      dsimp only [L2.KOf]                          -- K must stand as «<heap const> w.params» for k_is
      refine' My.txt_mk ?e1 ?e2 ?e3 ..
      (case e1 => PySem.W.k_is)                    -- in the order: a name -> its address -> its object -> its parts
      (case e2 => PySem.W.k_is)
      ..
    obtain ⟨t, T⟩ := T
    have e0 := hmg.symm.trans (PySem.W.mg_of KX G T.law)
    cases e0                                       -- fa is the law's own address
    exact ⟨_, fun s u => .of_eq rfl, fun base kb nb => My.law_fn T kb nb⟩     -- if «.of_eq rfl» comes too early: refine' ⟨_, ?b, fun base kb nb => My.law_fn T kb nb⟩; exact fun s u => .of_eq rfl
  case S => exact fun w H a ns hl hO hS => ..
  case C => exact ..
(the tactic k_is has no namespace: write k_is) -/

/-! SHORT WORDS over the layer: a def of the text, its body, what a loop and a test want. -/
namespace L2
open PySem PySem.Spec PyProof.Rows

/-! ### the text by places -/
/-- the j-th statement of a class's body -/
def inClass (s : Stmt) (j : Nat) : Stmt := match s with
  | .ClassDef _ _ _ body _ _ _ _ _ _ _ => body.getD j (.Pass ⟨0, 0, 0, 0⟩)
  | _ => .Pass ⟨0, 0, 0, 0⟩
def defArgs (s : Stmt) : Arguments := match s with
  | .FunctionDef _ a _ _ _ _ _ _ _ _ => a
  | _ => { posonlyargs := [], args := [], vararg := none, kwonlyargs := [], kw_defaults := [], kwarg := none, defaults := [] }
def defBody (s : Stmt) : List Stmt := match s with
  | .FunctionDef _ _ b _ _ _ _ _ _ _ => b
  | _ => []
def defScope (s : Stmt) : Scope := match s with
  | .FunctionDef _ _ _ _ _ _ sc _ _ _ => sc
  | _ => { kind := .function, names := [], isGenerator := false, isCoroutine := false }

/-! ### no exception leaves a def -/
abbrev CX0 : CXT := fun _ _ _ _ _ _ => False
abbrev E0 : XK := fun _ _ _ => False
theorem pass0 {X : Cx} : Passes CX0 X E0 := fun _ _ _ _ _ _ _ h => h.elim

/-! ### a def (or method) of the text as it stands behind the top -/
structure Fun (K : PySem.W.Frag) (x qual : Str) (st : Stmt) (f : Addr) (fd : FuncData) : Prop where
  ex : ∃ (oc : Value) (od : Option Addr) (kV doc pm : Value) (an : Option Addr) (cdv ct : Value) (osl : Array (Option Value)),
    fd = PySem.W.fnOf x qual (defArgs st) (defBody st) (defScope st) .none kV doc pm an cdv ct ∧ K.lookup f = some ⟨oc, od, .func fd, osl⟩ ∧ PySem.W.codeIn K cdv qual = true
  kp : PySem.W.keepIn K (.ref f) = true
section
variable {P : Program} {w : World} {K : PySem.W.Frag} {mg : Str → Option Value} {base : Heap}
/-- THE RULE for a def: its body as a term of rules, and the reading of that term -/
theorem Fun.ok {x qual : Str} {st : Stmt} {f : Addr} {fd : FuncData} {N ps : List Str} {k : Nat} {sp : Sp} (F : Fun K x qual st f fd) (S : FnScope N ps (defScope st)) (len : ∀ vs H Q E, sp vs H Q E → vs.length = ps.length)
    (hbody : ∀ (cdv : Value) (A : Around) (outer : List Env) (s : Shared) (H : Hp) (vs : List V) (Q : VK) (E : XK), Room k (A.deeper (envOfC qual (defScope st) s.heap.objs.size f cdv)) → sp vs H Q E →
      ∃ t, PSs (cxOf CX0 P w K mg base N qual (defScope st) f cdv A outer s H E).nox (defBody st) t ∧ t { nx := fun _ H' => Q .non H', rt := Q } (start N vs) H) : FnOk P w K mg base CX0 (k + 1) f fd ps sp := by
  obtain ⟨oc, od, kV, doc, pm, an, cdv, ct, osl, rfl, lk, hcd⟩ := F.ex
  refine fn_of lk hcd S len fun A outer s H vs Q E hr hsp => ?_
  obtain ⟨t, h, q⟩ := hbody cdv A outer s H vs Q E hr hsp
  exact ⟨t, h.nox, q⟩
/-- how its arguments bind (no defaults): h is «fun _ _ _ _ _ _ us hl => match us, hl with | [_, _], _ => rfl», one _ a parameter -/
theorem Fun.binds {x qual : Str} {st : Stmt} {f : Addr} {fd : FuncData} {ps : List Str} (F : Fun K x qual st f fd)
    (h : ∀ (kV doc pm : Value) (an : Option Addr) (cdv ct : Value) (us : List Value), us.length = ps.length → bindArgs (PySem.W.fnOf x qual (defArgs st) (defBody st) (defScope st) .none kV doc pm an cdv ct) ⟨us, []⟩ = pure (ps.zip us)) : Binds K fd ps [] := by
  obtain ⟨oc, od, kV, doc, pm, an, cdv, ct, osl, rfl, lk, hcd⟩ := F.ex
  exact .all (h kV doc pm an cdv ct)
theorem fun_mk {x qual : Str} {st : Stmt} {f : Addr} {oc : Value} {od an : Option Addr} {osl : Array (Option Value)} {kV doc pm cdv ct : Value} (l : K.lookup f = some ⟨oc, od, .func (PySem.W.fnOf x qual (defArgs st) (defBody st) (defScope st) .none kV doc pm an cdv ct), osl⟩)
    (c : PySem.W.codeIn K cdv qual = true) (k : PySem.W.keepIn K (.ref f) = true) : Fun K x qual st f (PySem.W.fnOf x qual (defArgs st) (defBody st) (defScope st) .none kV doc pm an cdv ct) := ⟨⟨oc, od, kV, doc, pm, an, cdv, ct, osl, rfl, l, c⟩, k⟩
end
theorem hu_of {A : Around} {k : Nat} (hr : Room k A) : A.units + 1 < cLine := Nat.lt_of_le_of_lt (Nat.add_le_add_left (by decide : 1 ≤ 64) _) hr.units
theorem small1000 {n : Nat} (h : n ≤ 1000) : n < sizeLine := Nat.lt_of_le_of_lt h (by decide)

/-! ### expressions in short: the name that stands in the i-th slot -/
section
variable {X : Cx}
theorem pv (i : Nat) {x : Str} {pos : Pos} (hN : X.N[i]? = some x := by rfl) (hv : Vis X.env.scope x := by first | exact Or.inl rfl | exact Or.inr (Or.inl rfl) | exact Or.inr (Or.inr rfl)) (hd : (x == ("__debug__" : Str)) = false := by decide)
    (hcd : (x == ("__classdict__" : Str)) = false := by decide) : PE X (.Name x pos) (tVar i) := pe_var hN hv hd hcd
end

/-! ### tests -/
theorem iteF {A B : Prop} (h : B) : if false = true then A else B := by
  rw [if_neg Bool.false_ne_true]
  exact h
theorem iteT {A B : Prop} (h : A) : if true = true then A else B := by
  rw [if_pos rfl]
  exact h
theorem ite2 {c A B : Prop} [Decidable c] (h1 : c → A) (h2 : ¬ c → B) : if c then A else B := by
  by_cases h : c
  · rw [if_pos h]
    exact h1 h
  · rw [if_neg h]
    exact h2 h
/-! ### heaps -/
/-- all that was tracked is as it was -/
def Same (H H' : Hp) : Prop := ∀ b o, H b = some o → H' b = some o
theorem Same.refl (H : Hp) : Same H H := fun _ _ h => h
theorem Same.trans {H H1 H2 : Hp} (a : Same H H1) (b : Same H1 H2) : Same H H2 := fun c o h => b c o (a c o h)
theorem Same.free {H H' : Hp} (e : Same H H') {l : Addr} (h : H' l = Option.none) : H l = Option.none := by
  cases q : H l with
  | none => rfl
  | some o =>
    rw [e l o q] at h
    cases h
theorem Same.seq {K : PySem.W.Frag} {H H' : Hp} {a : Addr} {xs : List V} (e : Same H H') (h : SqL K H a xs) : SqL K H' a xs := by
  rcases h with (h | ⟨o, h⟩) | h
  · exact .inl (.inl (e _ _ h))
  · exact .inl (.inr ⟨o, e _ _ h⟩)
  · exact .inr h

/-! ### a dict's pairs: keys that differ -/
end L2

set_option Elab.async false
set_option linter.all false
set_option maxRecDepth 100000
/-! EXTENSION 1: list comprehensions, enumerate -/
namespace L2
open PySem PySem.Spec PyProof.Rows

/-! ### the cells that a block captures -/
theorem cellOf_eq {env : Env} {x : Str} {c : Addr} (h : env.cells.lookup x = some c) : cellOf env x = pure c := by
  unfold cellOf
  rw [h]
def closOf (env : Env) : List (Str × NameKind) → List (Str × Addr) → List (Str × Addr)
  | [], cs => cs
  | (n, k) :: r, cs => closOf env r (if k == .free then (n, (env.cells.lookup n).getD 0) :: cs else cs)
theorem clos_go {env : Env} : ∀ (ns : List (Str × NameKind)) (cs : List (Str × Addr)), (∀ n, (n, NameKind.free) ∈ ns → ∃ c, env.cells.lookup n = some c) →
    (forIn (m := Sem) ns cs fun x r => match x with
      | (name, kind) => if (kind == NameKind.free) = true then do let c ← cellOf env name; pure (ForInStep.yield ((name, c) :: r)) else pure (ForInStep.yield r)) = pure (closOf env ns cs)
  | [], cs, _ => rfl
  | (n, k) :: r, cs, h => by
    rw [List.forIn_cons]
    by_cases hk : (k == NameKind.free) = true
    · have ek : k = .free := by simpa using hk
      obtain ⟨c, e⟩ := h n (by rw [ek]; exact List.mem_cons_self)
      simp only [hk, if_true, cellOf_eq e]
      have q := clos_go r ((n, c) :: cs) fun m hm => h m (List.mem_cons_of_mem _ hm)
      show (forIn (m := Sem) r ((n, c) :: cs) _) = pure (closOf env r (if (k == .free) = true then (n, (env.cells.lookup n).getD 0) :: cs else cs))
      rw [if_pos hk, e]
      exact q
    · simp only [hk]
      have q := clos_go r cs fun m hm => h m (List.mem_cons_of_mem _ hm)
      show (forIn (m := Sem) r cs _) = pure (closOf env r (if (k == .free) = true then (n, (env.cells.lookup n).getD 0) :: cs else cs))
      rw [if_neg hk]
      exact q
theorem closureFor_ok {scope : Scope} {env : Env} (h : ∀ n, (n, NameKind.free) ∈ scope.names → ∃ c, env.cells.lookup n = some c) : closureFor scope env = pure (closOf env scope.names []) := by
  have e := clos_go scope.names [] h
  unfold closureFor
  show (forIn (m := Sem) scope.names [] (fun x r => match x with
      | (name, kind) => if (kind == NameKind.free) = true then do let c ← cellOf env name; pure (ForInStep.yield ((name, c) :: r)) else pure (ForInStep.yield r)) >>= fun s => pure s) = _
  rw [e]
  rfl
theorem closOf_sub {env : Env} {x : Str} {c : Addr} : ∀ (ns : List (Str × NameKind)) (cs : List (Str × Addr)), (∀ n, (n, NameKind.free) ∈ ns → ∃ c, env.cells.lookup n = some c) → (cs.lookup x = some c → env.cells.lookup x = some c) →
    (closOf env ns cs).lookup x = some c → env.cells.lookup x = some c
  | [], _, _, h0, h => h0 h
  | (n, k) :: r, cs, hf, h0, h => by
    unfold closOf at h
    refine closOf_sub r _ (fun m hm => hf m (List.mem_cons_of_mem _ hm)) (fun q => ?_) h
    by_cases hk : (k == NameKind.free) = true
    · have ek : k = .free := by simpa using hk
      subst ek
      obtain ⟨d, e⟩ := hf n List.mem_cons_self
      rw [if_pos hk, e, List.lookup_cons] at q
      by_cases hx : (x == n) = true
      · have ex : x = n := by simpa using hx
        rw [hx] at q
        subst ex
        rw [e]; exact q
      · simp only [hx] at q
        exact h0 q
    · rw [if_neg hk] at q
      exact h0 q
theorem closOf_has {env : Env} {x : Str} : ∀ (ns : List (Str × NameKind)) (cs : List (Str × Addr)), ((cs.lookup x).isSome = true ∨ (x, NameKind.free) ∈ ns) → ((closOf env ns cs).lookup x).isSome = true
  | [], _, h => h.elim id fun z => absurd z (by simp)
  | (n, k) :: r, cs, h => by
    unfold closOf
    refine closOf_has r _ ?_
    rcases h with h | h
    · refine .inl ?_
      split
      · rw [List.lookup_cons]
        split
        · rfl
        · exact h
      · exact h
    · rcases List.mem_cons.mp h with e | h
      · cases e
        refine .inl ?_
        rw [if_pos (show (NameKind.free == NameKind.free) = true from rfl), List.lookup_cons]
        simp
      · exact .inr h

/-! ### the block -/
/-- the values at a block's entry: none for its own names, the place in the def's frame for a captured one -/
def capSt (cap : List (Option Nat)) (σ : St) : St := cap.map fun o => o.bind fun j => (σ[j]?).join
/-- the block's context -/
def cxComp (X : Cx) (scope : Scope) (N' : List Str) (fp : List Addr) (pins : List (Addr × Obj)) (s₃ : Shared) (H₃ : Hp) : Cx where
  prog := X.prog
  w := X.w
  K := X.K
  mg := X.mg
  base := X.base
  A := X.A
  N := N'
  s₀ := s₃
  H₀ := H₃
  env := compEnvC scope (closOf X.env scope.names []) s₃.heap.objs.size X.env
  outer := X.stack
  stack := X.stack
  ex := fp
  fn := fun _ => false
  calm := X.calm
  pn := X.pn ++ pins
  xe := fun _ _ => False
/-- what of the text a block must have: N' its names (own and captured), cap where the captured ones stand in the def's frame -/
structure CompOk (X : Cx) (scope : Scope) (N' : List Str) (cap : List (Option Nat)) : Prop where
  kind : scope.kind = .function
  nocell : ∀ y ∈ scope.names, y.2 ≠ .cell
  loc : ∀ y ∈ scope.names, y.2 = .local → scope.names.lookup y.1 = some .local
  fr : ∀ y ∈ scope.names, y.2 = .free → X.env.kindOf y.1 = some .cell
  frl : ∀ y ∈ scope.names, y.2 = .free → scope.names.lookup y.1 = some .free
  nd : N'.Nodup
  len : cap.length = N'.length
  cap : ∀ (i j : Nat) (x : Str), cap[i]? = some (some j) → N'[i]? = some x → X.N[j]? = some x ∧ (x, NameKind.free) ∈ scope.names

section
variable {X : Cx} {scope : Scope} {N' : List Str} {cap : List (Option Nat)} {fp : List Addr} {pins : List (Addr × Obj)} {s : Shared} {σ : St} {H : Hp}
theorem CompOk.clos (S : CompOk X scope N' cap) (ok : X.Ok) : ∀ n, (n, NameKind.free) ∈ scope.names → ∃ c, X.env.cells.lookup n = some c := fun n hn => ok.has n (.inl (S.fr _ hn rfl))
theorem relabel_kind {env : Env} {x : Str} : ∀ {names : List (Str × NameKind)} {k : NameKind},
    (names.map fun (n, k) => if (k == NameKind.free && env.scope.kind == .function && env.kindOf n == some .cell) then (n, NameKind.cell) else (n, k)).lookup x = some k → k = .cell ∨ k = .free → (∀ y ∈ names, y.2 ≠ .cell) → (x, NameKind.free) ∈ names
  | [], _, h, _, _ => by simp at h
  | (n, q) :: r, k, h, hk, hc => by
    have h' : List.lookup x ((if (q == NameKind.free && env.scope.kind == .function && env.kindOf n == some .cell) = true then (n, NameKind.cell) else (n, q)) :: (r.map fun (n, k) => if (k == NameKind.free && env.scope.kind == .function && env.kindOf n == some .cell) then (n, NameKind.cell) else (n, k))) = some k := h
    by_cases hx : (x == n) = true
    · have ex : x = n := by simpa using hx
      subst ex
      by_cases hq : (q == NameKind.free && env.scope.kind == .function && env.kindOf x == some .cell) = true
      · have : q = .free := by
          rw [Bool.and_eq_true, Bool.and_eq_true] at hq
          simpa using hq.1.1
        subst this
        exact List.mem_cons_self
      · rw [if_neg hq, List.lookup_cons, hx] at h'
        have e : q = k := Option.some.inj h'
        subst e
        rcases hk with hk | hk
        · exact absurd hk (hc _ List.mem_cons_self)
        · rw [hk]; exact List.mem_cons_self
    · have hx' : (x == n) = false := by simpa using hx
      refine List.mem_cons_of_mem _ (relabel_kind (env := env) (k := k) ?_ hk fun y hy => hc y (List.mem_cons_of_mem _ hy))
      split at h'
      · rw [List.lookup_cons, hx'] at h'; exact h'
      · rw [List.lookup_cons, hx'] at h'; exact h'
theorem relabel_free {env : Env} {x : Str} (hf : env.scope.kind = .function) (hx : env.kindOf x = some .cell) : ∀ {names : List (Str × NameKind)}, names.lookup x = some .free →
    (names.map fun (n, k) => if (k == NameKind.free && env.scope.kind == .function && env.kindOf n == some .cell) then (n, NameKind.cell) else (n, k)).lookup x = some .cell
  | [], h => by simp at h
  | (n, k) :: r, h => by
    show List.lookup x ((if (k == NameKind.free && env.scope.kind == .function && env.kindOf n == some .cell) = true then (n, NameKind.cell) else (n, k)) :: _) = _
    cases hxn : x == n with
    | true =>
      have e : x = n := by simpa using hxn
      subst e
      simp only [List.lookup_cons, hxn] at h
      have ek : k = .free := Option.some.inj h
      subst ek
      rw [if_pos (by rw [hf, hx]; rfl), List.lookup_cons, hxn]
    | false =>
      simp only [List.lookup_cons, hxn] at h
      have ih := relabel_free hf hx h
      split
      · rw [List.lookup_cons, hxn]; exact ih
      · rw [List.lookup_cons, hxn]; exact ih

theorem CompOk.ok (S : CompOk X scope N' cap) (I : Inv X pins σ H s) (hf : ∀ b ∈ fp, FpOk X pins H b) (hex : ∀ b ∈ fp, ∃ o, s.heap.get? b = some o) : (cxComp X scope N' fp pins s H).Ok where
  mod := I.ok.mod
  kind := S.kind
  glob := I.ok.glob
  blt := I.ok.blt
  above := Nat.le_refl _
  inj := fun x y c h1 h2 => I.ok.inj x y c (closOf_sub _ _ (S.clos I.ok) (fun z => by simp at z) h1) (closOf_sub _ _ (S.clos I.ok) (fun z => by simp at z) h2)
  has := fun x hx => by
    have hm : (x, NameKind.free) ∈ scope.names := by
      rcases hx with hx | hx
      · exact relabel_kind (env := X.env) hx (.inl rfl) S.nocell
      · exact relabel_kind (env := X.env) hx (.inr rfl) S.nocell
    exact Option.isSome_iff_exists.mp (closOf_has scope.names [] (.inr hm))
  cab := fun x c h => by cases h
  hd := I.ok.hd
  frames := I.ok.frames
  stk := .inl rfl
  exf := fun b hb => by
    obtain ⟨o, e⟩ := hex b hb
    refine ⟨Nat.ne_of_lt (Heap.lt_size e), fun x c h => (hf b hb).2.2.2.2.1 x c (closOf_sub _ _ (S.clos I.ok) (fun z => by simp at z) h)⟩
  bs := I.bs
  bsz := Nat.le_trans I.ok.bsz I.sz
  noex := fun b o e hb => by
    rcases (hf b hb).2.2.2.1 with z | z
    · exact I.ok.noex b o e z
    · exact absurd (Nat.lt_of_lt_of_le (Heap.lt_size e) (Nat.le_trans I.ok.bsz z)) (Nat.lt_irrefl _)
  exfs := fun b hb hs => by
    rcases List.mem_cons.mp (I.stkSub b hs) with z | z
    · exact (hf b hb).2.1 z
    · exact (hf b hb).2.2.1 z
  funs := I.stack
  frf := I.stkFree

/-- a captured name, read in the block -/
theorem CompOk.look (S : CompOk X scope N' cap) (I : Inv X pins σ H s) {h₁ : Heap} {m : Str → Option Value} (cellK : ∀ x c v, X.env.cells.lookup x = some c → s.heap.IsCell c v → h₁.IsCell c v) (i : Nat) (x : Str) (v : V) (h1 : N'[i]? = some x) (h2 : (capSt cap σ)[i]? = some (some v)) :
    ∃ u, RelV v u ∧ Look (compEnvC scope (closOf X.env scope.names []) s.heap.objs.size X.env) h₁ m x u := by
  have clsub : ∀ x c, (closOf X.env scope.names []).lookup x = some c → X.env.cells.lookup x = some c := fun x c h => closOf_sub _ _ (S.clos I.ok) (fun z => by simp at z) h
  have h2' : ((cap[i]?).map fun o => o.bind fun j => (σ[j]?).join) = some (some v) := by
    have := h2
    unfold capSt at this
    rw [List.getElem?_map] at this
    exact this
  cases ec : cap[i]? with
  | none => rw [ec] at h2'; cases h2'
  | some o =>
    cases o with
    | none => rw [ec] at h2'; cases h2'
    | some j =>
      rw [ec] at h2'
      obtain ⟨hN, hfree⟩ := S.cap i j x ec h1
      have h2'' : (σ[j]?).join = some v := Option.some.inj h2'
      have hv : σ[j]? = some (some v) := by
        cases ej : σ[j]? with
        | none => rw [ej] at h2''; cases h2''
        | some y =>
          cases y with
          | none => rw [ej] at h2''; cases h2''
          | some z =>
            rw [ej] at h2''
            have e : z = v := Option.some.inj h2''
            rw [e]
      have hkind := S.fr _ hfree rfl
      obtain ⟨m0, hn0, hl0⟩ := I.loc
      obtain ⟨u, r, l⟩ := hl0 j x v hN hv (.inr (.inl hkind))
      refine ⟨u, r, ?_⟩
      rcases l with ⟨hk, _⟩ | ⟨hk, c, hc, hcell⟩
      · have z : X.env.kindOf x = some .cell := hkind
        rw [hk] at z; cases z
      · obtain ⟨c', hc'⟩ := Option.isSome_iff_exists.mp (closOf_has (env := X.env) (x := x) scope.names [] (.inr hfree))
        have ecc : c' = c := by
          have := clsub x c' hc'
          rw [hc] at this
          exact (Option.some.inj this).symm
        subst ecc
        exact .inr ⟨.inl (relabel_free I.ok.kind hkind (S.frl _ hfree rfl)), c', hc', cellK x c' _ hc hcell⟩
/-- the block's entry -/
theorem CompOk.start (S : CompOk X scope N' cap) (I : Inv X pins σ H s) (hf : ∀ b ∈ fp, FpOk X pins H b) (hex : ∀ b ∈ fp, ∃ o, s.heap.get? b = some o) {h₁ : Heap} {tk : Nat} {m : Str → Option Value} (hns : h₁.Ns s.heap.objs.size m)
    (kp : ∀ b o, s.heap.get? b = some o → h₁.get? b = some o) : Inv (cxComp X scope N' fp pins s H) [] (capSt cap σ) H { s with heap := h₁, toks := tk } := by
  have clsub : ∀ x c, (closOf X.env scope.names []).lookup x = some c → X.env.cells.lookup x = some c := fun x c h => closOf_sub _ _ (S.clos I.ok) (fun z => by simp at z) h
  have cellK : ∀ {c : Addr} {v : Option Value}, s.heap.IsCell c v → h₁.IsCell c v := fun {c v} ⟨o, e, d⟩ => ⟨o, kp c o e, d⟩
  refine ⟨S.ok I hf hex, rfl, I.bare, Un.kept kp, ⟨m, hns, fun i x v h1 h2 h3 => S.look I (fun _ _ _ _ z => cellK z) i x v h1 h2⟩, fun x c h => ?_, I.hok.fresh (Nat.le_refl _), fun x c h => I.freeC x c (clsub x c h), fun p hp => ?_, I.hok.kept kp, ?_⟩
  · obtain ⟨v, z⟩ := I.cell x c (clsub x c h)
    exact ⟨v, cellK z⟩
  · have hp0 : p ∈ (X.pn ++ pins) ++ [] := hp
    have hp' : p ∈ X.pn ++ pins := by rw [List.append_nil] at hp0; exact hp0
    obtain ⟨e, n, ne, nf, d⟩ := I.pin p hp'
    refine ⟨kp _ _ e, n, Nat.ne_of_lt (Heap.lt_size e), fun z => ?_, d⟩
    rcases List.mem_cons.mp (I.stkSub p.1 z) with q | q
    · exact ne q
    · exact nf q
  · unfold capSt
    rw [List.length_map]
    exact S.len
/-- .. at a turn's head: the block's own names are forgotten, the captured ones stand -/
theorem CompOk.again (S : CompOk X scope N' cap) (I : Inv X pins σ H s) (hf : ∀ b ∈ fp, FpOk X pins H b) {σ8 : St} {H8 : Hp} {s8 : Shared} (I8 : Inv (cxComp X scope N' fp pins s H) [] σ8 H8 s8) : Inv (cxComp X scope N' fp pins s H) [] (capSt cap σ) H8 s8 := by
  obtain ⟨m, hn, _⟩ := I8.loc
  refine ⟨I8.ok, I8.os, I8.bare, I8.base, ⟨m, hn, fun i x v h1 h2 h3 => S.look I (fun y c u hc hu => ?_) i x v h1 h2⟩, I8.cell, I8.free, I8.freeC, I8.pin, I8.hok, ?_⟩
  · obtain ⟨o, e, d⟩ := hu
    obtain ⟨sl, q⟩ := I8.base.any e (I.freeC y c hc) fun hb => (hf c hb).2.2.2.2.1 y c hc rfl
    exact ⟨_, q, d⟩
  · unfold capSt
    rw [List.length_map]
    exact S.len

/-- behind the block: the def's state again -/
theorem CompOk.back {H2 H' : Hp} {s2 s3 s' : Shared} {σ' : St} {acc : Addr} {h'' : Heap} (S : CompOk X scope N' cap) (I2 : Inv X pins σ H2 s2) (hf : ∀ b ∈ fp, FpOk X pins H2 b) {o : HO}
    (e3 : s3.heap.objs.size = s2.heap.objs.size + 1) (k3 : ∀ b u, s2.heap.get? b = some u → s3.heap.get? b = some u) (ha : acc = s2.heap.objs.size) (o3 : s3.os = s2.os)
    (I' : Inv (cxComp X scope N' fp pins s3 (upd H2 acc o)) [] σ' H' s') (sb : Heap.SameBut s3.heap.objs.size s'.heap h'') : Inv X pins σ H' { s' with heap := h'' } := by
  have u1 : Un (frs X.stack) fp H2 (upd H2 acc o) s2.heap s3.heap := Un.laid k3 (by rw [ha]; exact Nat.le_refl _) (I2.hok.fresh (by rw [ha]; exact Nat.le_refl _))
  have u2 : Un (frs X.stack) fp H2 H' s2.heap s'.heap := u1.trans I'.base
  have old : ∀ b ob, s2.heap.get? b = some ob → b ≠ s3.heap.objs.size := fun b ob e => by
    have := Heap.lt_size e
    rw [e3]
    exact Nat.ne_of_lt (Nat.lt_succ_of_lt this)
  have hC : H' s3.heap.objs.size = none := I'.free
  have u3 : Un (frs X.stack) fp H2 H' s2.heap h'' :=
    ⟨fun b ob e n hb hx => (sb.2 b (old b ob e)).trans (u2.keep b ob e n hb hx), fun b ob e n hb hx => by
      obtain ⟨sl, q⟩ := u2.slot b ob e n hb hx
      exact ⟨sl, (sb.2 b (old b ob e)).trans q⟩, u2.free, fun b ob e hx => by
      obtain ⟨o', q⟩ := u2.there b ob e hx
      exact ⟨o', (sb.2 b (old b ob e)).trans q⟩, u2.tups, u2.frzs, u2.tbls⟩
  have hok : HOk X.prog X.w H' h'' := fun b ob e => (I'.hok b ob e).stay (fun c v hc q => (sb.2 c (by
    rintro rfl
    rcases hc with z | z
    · rw [← z, hC] at e; cases e
    · rw [hC] at z; cases z)).trans q) (fun _ q => q) fun _ _ q => q
  refine I2.call' (s' := { s' with heap := h'' }) (ch := fp) (I'.os.trans o3) u3 hok I'.bare fun b hb => ?_
  obtain ⟨_, f1, _, f3, f4, f5⟩ := hf b hb
  exact ⟨f3, f1, f4, f5⟩

/-! ### the rule -/
/-- the tests of a block: none, or one -/
def PTs (X : Cx) (ifs : List Expr) (t : TT) : Prop :=
  ∀ (pins : List (Addr × Obj)) (s : Shared) (σ : St) (H : Hp) (Q : Bool → Hp → Prop), Inv X pins σ H s → t σ H Q →
    wpAny (model X.prog X.w) X.A (forIn ifs true fun c r => if r = true then do let ok ← isTrue c X.env (eval c X.env); pure (ForInStep.yield ok) else pure (ForInStep.yield r)) (TP X pins σ Q) X.xe s
def tTrue : TT := fun _ H Q => Q true H
theorem pts_nil : PTs X [] tTrue := fun _ _ _ H _ I h => wpAny_tests_nil ⟨H, I, h⟩
theorem pts_one {c : Expr} {t : TT} (h : PT X c t) : PTs X [c] t := fun pins s σ H Q I hq => wpAny_tests_one (h pins s σ H Q I hq)

/-- [elt for tg in iter if c]: W the invariant by the turn, a measure and the heap (the new list at acc) -/
def tComp (wi : TI) (cap : List (Option Nat)) (g : TG) (tc : TT) (te : TE) : TE := fun σ H Q => wi σ H fun J H1 => ∀ acc, H1 acc = none → ∃ W : Nat → Nat → Hp → Prop, (∃ m, W 0 m (upd H1 acc (.lst []))) ∧ ∀ i m H, W i m H →
  (J.stop i H ∧ Q (.ref acc) H) ∨ (J.go i H ∧ ∀ x H', J.yld i H x H' → g x (capSt cap σ) H' fun σ2 H2 => tc σ2 H2 fun b H3 => if b = true then te σ2 H3 fun y H4 => ∃ xs, H4 acc = some (.lst xs) ∧ xs.length < sizeLine ∧
    ∃ m', m' < m ∧ W (i + 1) m' (upd H4 acc (.lst (xs ++ [y]))) else ∃ m', m' < m ∧ W (i + 1) m' H3)

theorem comp_loop {elt target iter : PySem.Expr} {ifs : List PySem.Expr} {scope : Scope} {pos : Pos} {it acc : Value} {env : Env} {prog : Program} {w : World} {A : Around} {s : Shared} {R : Result → Shared → Prop} (I : Nat → Shared → Prop)
    (turn : ∀ n s, I n s → wpAny (model prog w) A (pyNext it) (fun r s₁ => match r with
      | none => R (.ok .next) s₁
      | some v => wpAny (model prog w) A (letOwnedTupleGo target it v) (fun _ s₀ => wpAny (model prog w) A (assign target env v) (fun _ s₂ =>
          wpAny (model prog w) A (forIn ifs true fun c r => if r = true then do let ok ← isTrue c env (eval c env); pure (ForInStep.yield ok) else pure (ForInStep.yield r)) (fun ok s₃ => if ok = true then wpAny (model prog w) A (eval elt env) (fun x s₄ =>
            wpAny (model prog w) A (call (.builtin "list.append") [acc, x]) (fun _ s₅ => ∃ m, m < n ∧ I m s₅) (fun _ _ => False) s₄) (fun _ _ => False) s₃
            else ∃ m, m < n ∧ I m s₃) (fun _ _ => False) s₂)
          (fun _ _ => False) s₀) (fun _ _ => False) s₁) (fun _ _ => False) s)
    (n : Nat) (h : I n s) : codeAny (model prog w) A (.compLoop (.ListComp elt [⟨target, iter, ifs, 0⟩] scope pos) 0 it acc env) R s := by
  refine codeAny_loop rfl I (fun n s hI => ?_) n h
  show wpAny _ A ((compTurn (.ListComp elt [⟨target, iter, ifs, 0⟩] scope pos) 0 it acc env).onRaise (fun x => do noteFrame x env; theTreesLotGoes x)) _ _ s
  refine wpAny_noted ?_
  rw [compTurn_list]
  refine wpAny_bind (wpAny_standAt (wpAny_bind (wpAny_mono (turn n s hI) (fun r s₁ h₁ => ?_) fun _ _ z => z.elim)))
  cases r with
  | none => exact wpAny_pure h₁
  | some v =>
    refine wpAny_bind (wpAny_mono h₁ (fun _ s₀ h₀' => ?_) fun _ _ z => z.elim)
    refine wpAny_bind (wpAny_mono h₀' (fun _ s₂ h₂ => ?_) fun _ _ z => z.elim)
    refine wpAny_bind (wpAny_mono h₂ (fun okb s₃ h₃ => ?_) fun _ _ z => z.elim)
    cases okb with
    | false => exact wpAny_pure ⟨rfl, h₃⟩
    | true => exact wpAny_bind (wpAny_bind (wpAny_mono h₃ (fun x s₄ h₄ => wpAny_bind (wpAny_mono h₄ (fun _ s₅ h₅ => wpAny_pure (wpAny_pure ⟨rfl, h₅⟩)) fun _ _ z => z.elim)) fun _ _ z => z.elim))

/-- the block from its entry on; RR: what is wanted behind it -/
theorem comp_block {elt tg iter : Expr} {ifs : List Expr} {pos : Pos} {g : TG} {tc : TT} {te : TE} {Q : VK} {s2 : Shared} {H2 : Hp} {it : Addr} {tn : Nat → Heap → Prop} {J : It} {E : Value → Shared → Prop} {RR : Value → Addr → Result → Shared → Prop}
    (S : CompOk X scope N' cap) (hc : X.calm = true) (hg : ∀ fp pins s H, PG (cxComp X scope N' fp pins s H) tg g) (hts : ∀ fp pins s H, PTs (cxComp X scope N' fp pins s H) ifs tc) (he : ∀ fp pins s H, PE (cxComp X scope N' fp pins s H) elt te)
    (I2 : Inv X pins σ H2 s2) (T : Turn X.prog X.w X.K tg J fp it tn) (st2 : tn 0 s2.heap) (f2 : ∀ b ∈ fp, FpOk X pins H2 b)
    (h : ∀ acc, H2 acc = none → ∃ W : Nat → Nat → Hp → Prop, (∃ m, W 0 m (upd H2 acc (.lst []))) ∧ ∀ i m H, W i m H →
      (J.stop i H ∧ Q (.ref acc) H) ∨ (J.go i H ∧ ∀ x H', J.yld i H x H' → g x (capSt cap σ) H' fun σ2 H2 => tc σ2 H2 fun b H3 => if b = true then te σ2 H3 fun y H4 => ∃ xs, H4 acc = some (.lst xs) ∧ xs.length < sizeLine ∧
        ∃ m', m' < m ∧ W (i + 1) m' (upd H4 acc (.lst (xs ++ [y]))) else ∃ m', m' < m ∧ W (i + 1) m' H3))
    (hRR : ∀ C s' H', (∃ m, s'.heap.Ns C m) → (∀ h'', Heap.SameBut C s'.heap h'' → Inv X pins σ H' { s' with heap := h'' }) → Q (.ref s2.heap.objs.size) H' → H' C = none → s2.heap.objs.size < C →
      RR (.ref s2.heap.objs.size) C (.ok .next) s') :
    wpAny (model X.prog X.w) X.A (newList []) (fun acc s₃ => wpAny (model X.prog X.w) X.A (newFunctionEnv scope X.env.globals (closOf X.env scope.names []) [] X.env.qual none .none (some X.env)) (fun cenv s₄ =>
      codeAny (model X.prog X.w) X.A (.compStart (.ListComp elt [⟨tg, iter, ifs, 0⟩] scope pos) 0 (.ref it) acc { cenv with scope := relabel scope X.env }) (RR acc cenv.locals) s₄) E s₃) E s2 := by
  refine wpAny_newObj_type (wpAny_newFunctionEnv S.nocell (by intro y hy; simp at hy) (fun h₁ hns₁ hsb₁ => ?_) S.kind)
  dsimp only at hns₁ hsb₁ ⊢
  have hfr : H2 s2.heap.objs.size = none := I2.hok.fresh (Nat.le_refl _)
  generalize hH3 : s2.heap.push { cls := .type "list", dict := none, data := .seq ([] : List Value).toArray } = h3 at hns₁ hsb₁ ⊢
  have e3 : h3.objs.size = s2.heap.objs.size + 1 := by rw [← hH3, Heap.size_push]
  have k3 : ∀ b u, s2.heap.get? b = some u → h3.get? b = some u := fun b u e => by rw [← hH3]; exact Heap.get?_push_of_some _ e
  -- the state with the new list
  have I3 : Inv X pins σ (upd H2 s2.heap.objs.size (.lst [])) { s2 with heap := h3, toks := s2.toks } := by
    refine I2.laid (t' := s2.toks) k3 (Nat.le_refl _) ?_
    exact ⟨Nat.zero_le _, [], 0, .nil, by rw [← hH3]; exact Heap.get?_push_size _ rfl⟩
  have f3 : ∀ b ∈ fp, FpOk X pins (upd H2 s2.heap.objs.size (.lst [])) b := fun b hb => by
    obtain ⟨o, e, _⟩ := T.obj _ _ st2 b hb
    exact ⟨by rw [upd_ne (Nat.ne_of_lt (Heap.lt_size e))]; exact (f2 b hb).1, (f2 b hb).2⟩
  have ex3 : ∀ b ∈ fp, ∃ o, h3.get? b = some o := fun b hb => by
    obtain ⟨o, e, _⟩ := T.obj _ _ st2 b hb
    exact ⟨o, k3 b o e⟩
  have kp : ∀ b o, h3.get? b = some o → h₁.get? b = some o := fun b o e => hsb₁.extBut b o (Nat.ne_of_lt (Heap.lt_size e)) (Heap.get?_push_of_some _ e)
  have I4 := S.start (fp := fp) (tk := s2.toks + ([] : List (Str × Value)).length) I3 f3 ex3 hns₁ kp
  have st4 : tn 0 h₁ := T.keep _ _ _ st2 fun b _ o e => kp b o (k3 b o e)
  obtain ⟨W, ⟨m0, w0⟩, turn⟩ := h s2.heap.objs.size hfr
  let X' := cxComp X scope N' fp pins { s2 with heap := h3, toks := s2.toks } (upd H2 s2.heap.objs.size (.lst []))
  have stat : ∀ {pins' : List (Addr × Obj)} {H' : Hp}, (∀ p ∈ pins', p.1 ∉ fp) → (∀ b ∈ fp, H' b = none) → ∀ b ∈ fp, FpOk X' pins' H' b := fun {pins' H'} hpn hn b hb => by
    obtain ⟨o, e⟩ := ex3 b hb
    refine ⟨hn b hb, Nat.ne_of_lt (Heap.lt_size e), fun z => ?_, .inl hb, fun x c hx => (f3 b hb).2.2.2.2.1 x c (closOf_sub _ _ (S.clos I2.ok) (fun z => by simp at z) hx), fun p hp => ?_⟩
    · rcases List.mem_cons.mp (I2.stkSub b z) with q | q
      · exact (f2 b hb).2.1 q
      · exact (f2 b hb).2.2.1 q
    · rcases List.mem_append.mp hp with q | q
      · exact (f2 b hb).2.2.2.2.2 p q
      · exact fun z => hpn p q (z ▸ hb)
  have loop : codeAny (model X.prog X.w) X.A (.compLoop (.ListComp elt [⟨tg, iter, ifs, 0⟩] scope pos) 0 (.ref it) (.ref s2.heap.objs.size) X'.env) (RR (.ref s2.heap.objs.size) h3.objs.size) { s2 with heap := h₁, toks := s2.toks + ([] : List (Str × Value)).length } := by
    refine comp_loop (fun n s' => ∃ i H', Inv X' [] (capSt cap σ) H' s' ∧ tn i s'.heap ∧ (∀ b ∈ fp, H' b = none) ∧ W i n H') ?_ m0 ⟨0, _, I4, st4, fun b hb => (f3 b hb).1, w0⟩
    rintro n s5 ⟨i, H5, I5, st5, fr5, w5⟩
    rcases turn i n H5 w5 with ⟨stop, qn⟩ | ⟨go, step⟩
    · refine wpAny_mono (T.done X' rfl rfl rfl hc i [] s5 (capSt cap σ) H5 (fun _ _ => False) I5 (stat (fun _ z => absurd z (by simp)) fr5) st5 stop) (fun r s6 ⟨hr, I6⟩ => ?_) fun _ _ z => z
      subst hr
      refine hRR _ s6 H5 ?_ (fun h'' sb => S.back I2 f2 (s3 := { s2 with heap := h3, toks := s2.toks }) e3 k3 rfl rfl I6 sb) qn I6.free (by rw [e3]; exact Nat.lt_succ_self _)
      obtain ⟨m, hn, _⟩ := I6.loc
      exact ⟨m, hn⟩
    · refine wpAny_mono (T.item X' rfl rfl rfl hc i [] s5 (capSt cap σ) H5 (fun _ _ => False) I5 (stat (fun _ z => absurd z (by simp)) fr5) st5 go) (fun r s6 ⟨u, hr, h6⟩ => ?_) fun _ _ z => z
      subst hr
      refine wpAny_mono h6 (fun _ s7 ⟨x, H7, I7, r7, y7, st7, fr7⟩ => ?_) fun _ _ z => z
      have I7' := I7.pinned (stat (fun _ z => absurd z (by simp)) fr7) (T.obj _ _ st7)
      have again : ∀ {σ8 : St} {H8 : Hp} {s8 : Shared}, Inv X' ([] ++ pinsAt fp s7.heap) σ8 H8 s8 → (∃ m', m' < n ∧ W (i + 1) m' H8) → ∃ m, m < n ∧ ∃ i H', Inv X' [] (capSt cap σ) H' s8 ∧ tn i s8.heap ∧ (∀ b ∈ fp, H' b = none) ∧ W i m H' := fun {σ8 H8 s8} I8 n8 => by
        obtain ⟨m', hm, w8⟩ := n8
        have pn : ∀ b ∈ fp, ∃ o, s7.heap.get? b = some o ∧ s8.heap.get? b = some o ∧ H8 b = none := fun b hb => by
          obtain ⟨o, e, d⟩ := T.obj _ _ st7 b hb
          have q := I8.pin (b, o) (List.mem_append_right _ (List.mem_append_right _ (mem_pinsAt hb e)))
          exact ⟨o, e, q.1, q.2.1⟩
        refine ⟨m', hm, i + 1, H8, S.again I3 f3 I8.unpinned, T.keep _ _ _ st7 fun b hb o e => ?_, fun b hb => ?_, w8⟩
        · obtain ⟨o', e', q, _⟩ := pn b hb
          rw [e] at e'; cases e'
          exact q
        · obtain ⟨_, _, _, q⟩ := pn b hb
          exact q
      refine wpAny_mono (hg fp pins _ _ _ s7 (capSt cap σ) H7 x u _ I7' r7 (step x H7 y7)) (fun _ s8 ⟨σ8, H8, I8, q8⟩ => ?_) fun _ _ z => z
      refine wpAny_mono (hts fp pins _ _ _ s8 σ8 H8 _ I8 q8) (fun b s9 ⟨H9, I9, q9⟩ => ?_) fun _ _ z => z
      cases b with
      | false => exact again I9 q9
      | true =>
        refine wpAny_mono (he fp pins _ _ _ s9 σ8 H9 _ I9 q9) (fun u s10 ⟨y, H10, I10, r10, xs, hx, hl, q10⟩ => ?_) fun _ _ z => z
        refine wpAny_mono (mt_append (X := X') _ s10 σ8 H10 (.ref s2.heap.objs.size) [y] (.ref s2.heap.objs.size) [u] (fun _ H' => ∃ m', m' < n ∧ W (i + 1) m' H') I10 rfl (.cons r10 .nil) ⟨_, xs, y, rfl, rfl, hx, hl, q10⟩) (fun _ s11 ⟨_, H11, I11, _, q11⟩ => again I11 q11) fun _ _ z => z
  exact codeAny_compStart_list loop (T.self _ 0 _ _ _ st4 loop)

/-- [..] as a value -/
theorem pe_comp {elt tg iter : Expr} {ifs : List Expr} {pos : Pos} {wi : TI} {g : TG} {tc : TT} {te : TE} (S : CompOk X scope N' cap) (hc : X.calm = true) (hi : PI X tg iter wi) (hg : ∀ fp pins s H, PG (cxComp X scope N' fp pins s H) tg g)
    (hts : ∀ fp pins s H, PTs (cxComp X scope N' fp pins s H) ifs tc) (he : ∀ fp pins s H, PE (cxComp X scope N' fp pins s H) elt te) (hs : ∀ x, foldedSetIterable iter X.env x = pure x := by intro _; rfl) :
    PE X (.ListComp elt [⟨tg, iter, ifs, 0⟩] scope pos) (tComp wi cap g tc te) := by
  intro pins s σ H Q I h
  rw [eval_ListComp]
  refine wpAny_comprehension_free (use := none) rfl hs (closureFor_ok (S.clos I.ok)) S.kind S.loc (thn (hi pins s σ H _ I h) fun v s1 h1 => thn h1 fun itv s2 h2 => ?_)
  obtain ⟨it, fp, tn, J, H2, e, I2, T, st2, f2, hW⟩ := h2
  subst e
  refine comp_block (RR := fun acc C => compPost (model X.prog X.w) X.A X.xe none (EP X pins σ Q) acc C) S hc hg hts he I2 T st2 f2 hW ?_
  intro C s' H' ⟨m, hn⟩ hI hq _ _
  exact ⟨m, hn, fun h'' sb => ⟨.ref s2.heap.objs.size, H', hI h'' sb, rfl, hq⟩⟩

/-- x = [..] -/
theorem ps_setcomp {elt tg iter : Expr} {ifs : List Expr} {pos : Pos} {wi : TI} {g : TG} {tc : TT} {te : TE} {i : Nat} {x : Str} {pos' spos : Pos} (hN : X.N.Nodup) (hix : X.N[i]? = some x) (hx : Loc X.env.scope x) (S : CompOk X scope N' cap) (hc : X.calm = true)
    (hi : PI X tg iter wi) (hg : ∀ fp pins s H, PG (cxComp X scope N' fp pins s H) tg g)
    (hts : ∀ fp pins s H, PTs (cxComp X scope N' fp pins s H) ifs tc) (he : ∀ fp pins s H, PE (cxComp X scope N' fp pins s H) elt te) (hs : ∀ x, foldedSetIterable iter X.env x = pure x := by intro _; rfl)
    (hsw : swapsWith (.ListComp elt [⟨tg, iter, ifs, 0⟩] scope pos) (some (.Name x pos')) spos.line X.env = pure true := by rfl) (hf : X.fn x = true ∨ X.env.scope.names.lookup x = some .local := by first | exact .inl rfl | exact .inr rfl | assumption) :
    PS X (.Assign [.Name x pos'] (.ListComp elt [⟨tg, iter, ifs, 0⟩] scope pos) spos) (tAsg (tComp wi cap g tc te) (gName i)) := by
  intro pins s σ H D I h
  rw [exec_Assign_Name_used _ _ _ _ hsw]
  refine wpAny_bind (wpAny_standAt (wpAny_bind ?_))
  show wpAny _ X.A (do let _ ← comprehension (.ListComp elt [⟨tg, iter, ifs, 0⟩] scope pos) scope X.env _ (newList []) false (eval iter X.env) (some (assign (.Name x pos') X.env))) _ _ s
  refine wpAny_bind (wpAny_mono (wpAny_comprehension_free (use := some (assign (.Name x pos') X.env)) (Q := fun _ s' => SP X pins D .next s') rfl hs (closureFor_ok (S.clos I.ok)) S.kind S.loc
    (thn (hi pins s σ H _ I h) fun v s1 h1 => thn h1 fun itv s2 h2 => ?_)) (fun _ s' hq => wpAny_pure (wpAny_pure hq)) fun _ _ e => e)
  obtain ⟨it, fp, tn, J, H2, e, I2, T, st2, f2, hW⟩ := h2
  subst e
  refine comp_block (RR := fun acc C => compPost (model X.prog X.w) X.A X.xe (some (assign (.Name x pos') X.env)) (fun _ s' => SP X pins D .next s') acc C) (Q := fun x H1 => gName i x σ H1 D.nx) S hc hg hts he I2 T st2 f2 hW ?_
  intro C s' H' ⟨m, hn⟩ hI hq hC hlt
  have I' : Inv X pins σ H' s' := hI s'.heap (.refl ..)
  show wpAny _ _ (assign (.Name x pos') X.env (.ref s2.heap.objs.size)) _ _ s'
  refine wpAny_assign_Name (store_ok2 (v := .ref s2.heap.objs.size) I' hN hix hx rfl (fun s6 I6 ⟨a, sb, ha⟩ => ?_) hf)
  have lC : ∀ b, b < s2.heap.objs.size → b ≠ C := fun b hb => Nat.ne_of_lt (Nat.lt_trans hb hlt)
  have haC : a ≠ C := by
    rcases ha with z | z
    · rw [z]; exact lC _ I2.lt
    · obtain ⟨_, q⟩ := I2.cell x a z
      exact lC _ q.lt
  refine ⟨m, hn.sameBut sb (Ne.symm haC), fun h' sb' => ⟨_, H', I6.turned (t' := s6.toks) (fun b o hb e => (sb'.2 b hb).trans e) hC (Ne.symm (lC _ I2.lt)) (.inr (Nat.le_trans I2.sz (Nat.le_of_lt hlt))) (fun y c hc' => ?_) (fun p hp => ?_), hq⟩⟩
  · obtain ⟨_, q⟩ := I2.cell y c hc'
    exact lC _ q.lt
  · exact lC _ (Heap.lt_size (I2.pin p hp).1)
end

/-! ### enumerate of a list -/
end L2

set_option Elab.async false
set_option linter.all false
set_option maxRecDepth 100000
/-! EXTENSION 2: data in the heap; ==, != of data; isinstance, min, set, len of a set -/
namespace L2
open PySem PySem.Spec PyProof.Rows

theorem Same.seqT {K : PySem.W.Frag} {H H' : Hp} {a : Addr} {xs : List V} (e : Same H H') (h : SqT K H a xs) : SqT K H' a xs := by
  rcases h with (h | ⟨o, h⟩) | h
  · exact .inl (.inl (e _ _ h))
  · exact .inl (.inr ⟨o, e _ _ h⟩)
  · exact .inr h
theorem Same.new {H : Hp} {p : Addr} {o : HO} (h : H p = none) : Same H (upd H p o) := fun b u e => by rw [upd_ne (ne_of_none e h)]; exact e
theorem Same.out {H0 H : Hp} {p : Addr} {o : HO} (s : Same H0 H) (h : H0 p = none) : Same H0 (upd H p o) := fun b u e => by rw [upd_ne (ne_of_none e h)]; exact s b u e

/-! ### data -/
mutual
def Rep (K : PySem.W.Frag) (H : Hp) : PyData → V → Prop
  | .none, v => v = .non
  | .bool b, v => v = .bl b
  | .int i, v => v = .int i
  | .str x, v => v = .str x
  | .list ds, v => ∃ a vs, v = .ref a ∧ SqL K H a vs ∧ RepAll K H ds vs
  | .tuple ds, v => ∃ a vs, v = .ref a ∧ SqT K H a vs ∧ RepAll K H ds vs
  | .dict _, _ => False
def RepAll (K : PySem.W.Frag) (H : Hp) : List PyData → List V → Prop
  | [], vs => vs = []
  | d :: ds, vs => ∃ v r, vs = v :: r ∧ Rep K H d v ∧ RepAll K H ds r
end
section
variable {K : PySem.W.Frag} {H H' : Hp}
theorem repAll_ints : ∀ ns : List Int, RepAll K H (ns.map PyData.int) (ns.map V.int)
  | [] => rfl
  | n :: ns => ⟨.int n, _, rfl, rfl, repAll_ints ns⟩
theorem Rep.ints {ns : List Int} {a : Addr} (h : SqL K H a (ns.map V.int)) : Rep K H (.list (ns.map .int)) (.ref a) := ⟨a, _, rfl, h, repAll_ints ns⟩
theorem Rep.intsT {ns : List Int} {a : Addr} (h : SqT K H a (ns.map V.int)) : Rep K H (.tuple (ns.map .int)) (.ref a) := ⟨a, _, rfl, h, repAll_ints ns⟩
end

/-! ### read by the machine's own relation -/
section
variable {X : Cx} {pins : List (Addr × Obj)} {σ : St} {H : Hp} {s : Shared}
mutual
theorem Rep.reads (I : Inv X pins σ H s) : ∀ {d : PyData} {v : V} {u : Value}, Rep X.K H d v → RelV v u → ∃ as, Reads s.heap u d as
  | .none, _, _, h, r => by cases h; cases r; exact ⟨_, .none⟩
  | .bool b, _, _, h, r => by cases h; cases r; exact ⟨_, .bool b⟩
  | .int i, _, _, h, r => by cases h; obtain ⟨t, rfl⟩ := r; exact ⟨_, .int i t⟩
  | .str x, _, _, h, r => by cases h; obtain ⟨t, rfl⟩ := r; exact ⟨_, .str x t⟩
  | .list ds, _, _, ⟨a, vs, e, q, t⟩, r => by
    subst e
    cases r
    obtain ⟨its, rv, ⟨o, n, e1, e2, e3, e4⟩, _⟩ := I.list q
    obtain ⟨as, ra⟩ := RepAll.reads I t rv
    exact ⟨_, .list e1 e2 e4 (by simpa using ra)⟩
  | .tuple ds, _, _, ⟨a, vs, e, q, t⟩, r => by
    subst e
    cases r
    obtain ⟨its, rv, ⟨o, e1, e2, n, e4⟩, _⟩ := I.tuple q
    obtain ⟨as, ra⟩ := RepAll.reads I t rv
    exact ⟨_, .tuple e1 e2 e4 (by simpa using ra)⟩
  | .dict _, _, _, h, _ => h.elim
theorem RepAll.reads (I : Inv X pins σ H s) : ∀ {ds : List PyData} {vs : List V} {us : List Value}, RepAll X.K H ds vs → Vals vs us → ∃ as, ReadsAll s.heap us ds as
  | [], _, _, h, r => by cases h; cases r; exact ⟨_, .nil⟩
  | _ :: _, _, _, ⟨v, w', e, q, t⟩, r => by
    subst e
    cases r with
    | cons r1 r2 =>
      obtain ⟨as, h1⟩ := q.reads I r1
      obtain ⟨bs, h2⟩ := RepAll.reads I t r2
      exact ⟨_, .cons h1 h2⟩
end
end

/-! ### ==, != of data -/
section
variable {X : Cx}
def rNeD (K : PySem.W.Frag) (u : Nat) : R2 := fun x y H Q => ∃ da db, Rep K H da x ∧ Rep K H db y ∧ da.canLay0 = true ∧ db.canLay0 = true ∧ u + min da.depth db.depth < cLine ∧ Q (.bl (!PyData.eqv da db)) H
theorem op_neD : OpR X (compareOp .NotEq) (rNeD X.K X.A.units) := by
  intro pins s σ H x y v u Q I rx ry ⟨da, db, ha, hb, ca, cb, hu, q⟩
  obtain ⟨as, ra⟩ := ha.reads I rx
  obtain ⟨bs, rb⟩ := hb.reads I ry
  exact SeqAt.compareNe_reads ra rb ca cb hu ⟨.bl _, H, I, rfl, q⟩

/-! ### isinstance with one built-in class -/
theorem call_isi : CallR X (.builtin "isinstance") (fun xs H Q => ∃ x n t b, xs = [x, .ty n] ∧ TyOf X.K H x t ∧ PySem.W.kitOne X.K t (.type n) = some b ∧ Q (.bl b) H) := by
  intro pins s σ H xs us Q I r ⟨x, n, t, b, e, ty, k, q⟩
  subst e
  obtain ⟨u, w', e, ru, rw'⟩ := Vals.two r
  subst e
  cases rw'
  exact isinst_ok I ru ty k fun tk => ⟨.bl _, H, I.tok tk, rfl, q⟩
/-! ### set(list of ints), len of it -/
/-! ### min, max of a list of ints -/
end
end L2

set_option Elab.async false
set_option linter.all false
set_option maxRecDepth 100000
/-! EXTENSION 3: blocks by a check; a block by an invariant; hidden lists -/
namespace L2
open PySem PySem.Spec PyProof.Rows

/-! ### a block's text, by a check -/
def compChk (scope dsc : Scope) (N0 N2 : List Str) (cap : List (Option Nat)) : Bool :=
  (scope.kind == .function) && (scope.names.all fun y => y.2 != .cell) && (scope.names.all fun y => y.2 != .local || scope.names.lookup y.1 == some .local) &&
  (scope.names.all fun y => y.2 != .free || dsc.names.lookup y.1 == some .cell) && (scope.names.all fun y => y.2 != .free || scope.names.lookup y.1 == some .free) && decide N2.Nodup && (cap.length == N2.length) &&
  ((List.range cap.length).all fun i => match cap[i]?, N2[i]? with
    | some (some j), some x => N0[j]? == some x && scope.names.any (fun y => y.1 == x && y.2 == .free)
    | _, _ => true)
theorem compOk_of {X : Cx} {scope dsc : Scope} {N0 N2 : List Str} {cap : List (Option Nat)} (hd : X.env.scope = dsc) (hN : X.N = N0) (h : compChk scope dsc N0 N2 cap = true) : CompOk X scope N2 cap := by
  unfold compChk at h
  simp only [Bool.and_eq_true] at h
  obtain ⟨⟨⟨⟨⟨⟨⟨h1, h2⟩, h3⟩, h4⟩, h5⟩, h6⟩, h7⟩, h8⟩ := h
  rw [List.all_eq_true] at h2 h3 h4 h5 h8
  refine ⟨by simpa using h1, fun y hy e => ?_, fun y hy e => ?_, fun y hy e => ?_, fun y hy e => ?_, of_decide_eq_true h6, by simpa using h7, fun i j x e1 e2 => ?_⟩
  · have := h2 y hy; rw [e] at this; exact absurd this (by decide)
  · have := h3 y hy; rw [e] at this; simpa using this
  · have := h4 y hy
    rw [e] at this
    show X.env.scope.names.lookup y.1 = some .cell
    rw [hd]
    simpa using this
  · have := h5 y hy; rw [e] at this; simpa using this
  · have hi : i < cap.length := (List.getElem?_eq_some_iff.mp e1).1
    have q := h8 i (List.mem_range.mpr hi)
    rw [e1, e2] at q
    simp only [Bool.and_eq_true] at q
    refine ⟨by rw [hN]; simpa using q.1, ?_⟩
    obtain ⟨y, hy, z⟩ := List.any_eq_true.mp q.2
    simp only [Bool.and_eq_true] at z
    have e3 : y.1 = x := by simpa using z.1
    have e4 : y.2 = .free := by simpa using z.2
    rw [← e3, ← e4]
    exact hy

/-! ### a block by an invariant: P turn, items, heap; the heap keeps what it had ahead (H1), the new list is at acc -/
def CW (H1 : Hp) (acc : Addr) (n : Nat) (P : Nat → List V → Hp → Prop) : Nat → Nat → Hp → Prop :=
  fun i m H => m = n - i ∧ i ≤ n ∧ Same H1 H ∧ ∃ ys, H acc = some (.lst ys) ∧ P i ys H
theorem comp_by {J : It} {n : Nat} {cap : List (Option Nat)} {g : TG} {tc : TT} {te : TE} {σ : St} {Qr : Hp → Prop} {H1 : Hp} {acc : Addr} (P : Nat → List V → Hp → Prop) (hacc : H1 acc = none)
    (go : ∀ i H, i < n → Same H1 H → J.go i H) (stop : ∀ H, Same H1 H → J.stop n H) (h0 : P 0 [] (upd H1 acc (.lst [])))
    (step : ∀ i ys H, i < n → Same H1 H → H acc = some (.lst ys) → P i ys H → ∀ x H', J.yld i H x H' → g x (capSt cap σ) H' fun σ2 H2 => tc σ2 H2 fun b H3 => if b = true then te σ2 H3 fun y H4 => ∃ xs, H4 acc = some (.lst xs) ∧ xs.length < sizeLine ∧
      ∃ m', m' < n - i ∧ CW H1 acc n P (i + 1) m' (upd H4 acc (.lst (xs ++ [y]))) else ∃ m', m' < n - i ∧ CW H1 acc n P (i + 1) m' H3)
    (fin : ∀ ys H, Same H1 H → H acc = some (.lst ys) → P n ys H → Qr H) :
    ∃ W : Nat → Nat → Hp → Prop, (∃ m, W 0 m (upd H1 acc (.lst []))) ∧ ∀ i m H, W i m H →
      (J.stop i H ∧ Qr H) ∨ (J.go i H ∧ ∀ x H', J.yld i H x H' → g x (capSt cap σ) H' fun σ2 H2 => tc σ2 H2 fun b H3 => if b = true then te σ2 H3 fun y H4 => ∃ xs, H4 acc = some (.lst xs) ∧ xs.length < sizeLine ∧
        ∃ m', m' < m ∧ W (i + 1) m' (upd H4 acc (.lst (xs ++ [y]))) else ∃ m', m' < m ∧ W (i + 1) m' H3) := by
  refine ⟨CW H1 acc n P, ⟨n, rfl, Nat.zero_le _, Same.new hacc, [], upd_same, h0⟩, ?_⟩
  rintro i m H ⟨rfl, hi, s, ys, hy, p⟩
  by_cases hlt : i < n
  · exact .inr ⟨go i H hlt s, step i ys H hlt s hy p⟩
  · have e : i = n := by omega
    subst e
    exact .inl ⟨stop H s, fin ys H s hy p⟩
/-- a turn's end with one item more -/
theorem comp_add {H1 H4 : Hp} {acc : Addr} {n i : Nat} {P : Nat → List V → Hp → Prop} {ys : List V} {y : V} (hacc : H1 acc = none) (hi : i < n) (s : Same H1 H4) (hy : H4 acc = some (.lst ys)) (hl : ys.length < sizeLine) (p : P (i + 1) (ys ++ [y]) (upd H4 acc (.lst (ys ++ [y])))) :
    ∃ xs, H4 acc = some (.lst xs) ∧ xs.length < sizeLine ∧ ∃ m', m' < n - i ∧ CW H1 acc n P (i + 1) m' (upd H4 acc (.lst (xs ++ [y]))) :=
  ⟨ys, hy, hl, n - (i + 1), by omega, rfl, hi, s.out hacc, _, upd_same, p⟩
/-- .. with none -/
theorem comp_skip {H1 H3 : Hp} {acc : Addr} {n i : Nat} {P : Nat → List V → Hp → Prop} {ys : List V} (hi : i < n) (s : Same H1 H3) (hy : H3 acc = some (.lst ys)) (p : P (i + 1) ys H3) : ∃ m', m' < n - i ∧ CW H1 acc n P (i + 1) m' H3 :=
  ⟨n - (i + 1), by omega, rfl, hi, s, _, hy, p⟩
theorem itl_go {K : PySem.W.Frag} {a : Addr} {xs : List V} {H1 : Hp} (h : SqL K H1 a xs) : ∀ i H, i < xs.length → Same H1 H → (Itl K a).go i H := fun i H hi s => ⟨xs, xs[i], s.seq h, by simp [hi]⟩
theorem itl_stop {K : PySem.W.Frag} {a : Addr} {xs : List V} {H1 : Hp} (h : SqL K H1 a xs) : ∀ H, Same H1 H → (Itl K a).stop xs.length H := fun H s => ⟨xs, s.seq h, Nat.le_refl _⟩
theorem itr_go {lo : Int} {n : Nat} {H1 : Hp} : ∀ i H, i < n → Same H1 H → (Itr lo n).go i H := fun i H hi s => hi
theorem itr_stop {lo : Int} {n : Nat} {H1 : Hp} : ∀ H, Same H1 H → (Itr lo n).stop n H := fun H s => Nat.le_refl n

/-! ### all but one list -/
/-! ### items of data by their place -/
theorem atI_ge {α : Type} {xs : List α} {i : Int} {v : α} (h0 : 0 ≤ i) (h : xs[i.toNat]? = some v) : atI xs i = some v := by
  obtain ⟨k, rfl⟩ := Int.eq_ofNat_of_zero_le h0
  exact atI_nat (by simpa using h)
theorem atI_ints {ns : List Int} {i : Int} (h0 : 0 ≤ i) (h : i < ns.length) : atI (ns.map V.int) i = some (.int (ns.getD i.toNat 0)) := by
  have hk : i.toNat < ns.length := by omega
  refine atI_ge h0 ?_
  rw [List.getElem?_map, List.getD_eq_getElem?_getD, List.getElem?_eq_getElem hk]
  rfl

/-! ### rules with the written part named (within a block the reading must not name the block's state) -/
section
variable {X : Cx}
theorem pg_tupK (K : PySem.W.Frag) (h : X.K = K) {es : List Expr} {k : Nat} {pos : Pos} {t : TGs} {n : Nat} (hc : X.calm = true) (h' : PGs X es t) (hn : (assignEach es X.env).length = n := by rfl)
    (hst : (assignEach es X.env).findIdx? (·.1) = none := by rfl) : PG X (.Tuple es k pos) (gTup K n t) := by subst h; exact pg_tup hc h' hn hst

/-- isinstance of a tuple, a list that is read -/
theorem call_isiT : CallR X (.builtin "isinstance") (fun xs H Q => ∃ (a : Addr) (ys : List V) (n : String) (b : Bool), xs = [.ref a, .ty n] ∧ SqT X.K H a ys ∧ PySem.W.kitOne X.K (.type "tuple") (.type n) = some b ∧ Q (.bl b) H) := by
  intro pins s σ H xs us Q I r ⟨a, ys, n, b, e, hq, k, q⟩
  subst e
  obtain ⟨u, w', e, ru, rw'⟩ := Vals.two r
  subst e
  cases rw'
  cases ru
  obtain ⟨its, rv, ⟨o, h1, h2, _⟩, _⟩ := I.tuple hq
  exact PySem.W.kia_one PySem.W.kitx_tuple I.kIn ⟨o, h1, h2⟩ k (fun z => nomatch z) fun tk => ⟨.bl _, H, I.tok tk, rfl, q⟩
theorem call_isiL : CallR X (.builtin "isinstance") (fun xs H Q => ∃ (a : Addr) (ys : List V) (n : String) (b : Bool), xs = [.ref a, .ty n] ∧ SqL X.K H a ys ∧ PySem.W.kitOne X.K (.type "list") (.type n) = some b ∧ Q (.bl b) H) := by
  intro pins s σ H xs us Q I r ⟨a, ys, n, b, e, hq, k, q⟩
  subst e
  obtain ⟨u, w', e, ru, rw'⟩ := Vals.two r
  subst e
  cases rw'
  cases ru
  obtain ⟨its, rv, ⟨o, n', h1, h2, _⟩, _⟩ := I.list hq
  exact PySem.W.kia_one PySem.W.kitx_list I.kIn ⟨o, h1, h2⟩ k (fun z => nomatch z) fun tk => ⟨.bl _, H, I.tok tk, rfl, q⟩

/-! ### argument lists by a cheap check -/
def nostar : Expr → Bool
  | .Starred _ _ => false
  | _ => true
theorem starEach_ns {e : Expr} {es : List Expr} {env : Env} (h : nostar e = true) : starEach (e :: es) env = (false, eval e env) :: starEach es env := by
  cases e <;> first | rfl | (exact Bool.noConfusion h) | simp [starEach]
theorem pa_c {e : Expr} {es : List Expr} {te : TE} {t : TA} (ha : PE X e te) (hr : PA X es t) (hs : nostar e = true := by rfl) : PA X (e :: es) (tCons te t) := pa_cons ha hr (starEach_ns hs)

/-! ### written data -/
end
end L2

set_option Elab.async false
set_option linter.all false
set_option maxRecDepth 100000
/-! EXTENSION 4: dicts: setdefault, a walk over the keys; all of a list of truths -/
namespace L2
open PySem PySem.Spec PyProof.Rows


/-! ### for k in d -/
/-! ### all([..]) -/
end L2

set_option Elab.async false
set_option linter.all false
/-! pairs of houses: what leads where (plain mathematics) -/
namespace Gr
/-! ### the neighbours of a house, by the pairs' numbers -/
/-! ### lists without a double -/
/-! ### the houses come to from one, each with its step back -/
/-! ### a way -/
/-! ### the parts -/
end Gr

set_option Elab.async false
set_option linter.all false
set_option maxRecDepth 100000
/-! lists of pairs, a dict of lists of pairs, a dict of steps back, in the heap -/
namespace L2
open PySem Gr


/-! ### tuples of two numbers -/
/-! ### for each house the list of its pairs -/

/-! ### the steps back -/
end L2

set_option Elab.async false
set_option linter.all false
set_option maxRecDepth 100000
/-! EXTENSION 5: range objects, list(range(n)) -/
namespace L2
open PySem PySem.Spec PyProof.Rows
end L2

set_option Elab.async false
set_option linter.all false
/-! rounds, marks (plain mathematics) -/
namespace Gr
/-! ### marks -/
end Gr

set_option Elab.async false
set_option linter.all false
namespace Gr
end Gr

set_option Elab.async false
set_option linter.all false
set_option maxRecDepth 100000
/-! EXTENSION 6: an exception on its way: what its notes change -/
namespace L2
open PySem PySem.Spec PyProof.Rows

end L2

set_option Elab.async false
set_option linter.all false
set_option maxRecDepth 100000
namespace L2
open PySem PySem.Spec PyProof.Rows
/-! ### the state through a note -/
theorem ObjOk.there {P : Program} {w : World} {H : Hp} {h : Heap} {a : Addr} : ∀ {o : HO}, ObjOk P w H h a o → ∃ ob, h.get? a = some ob
  | .lst _, ⟨_, _, _, _, e⟩ => ⟨_, e⟩
  | .tup _, ⟨_, _, _, o, e, _⟩ => ⟨o, e⟩
  | .dK _, ⟨_, _, _, _, o, _, _, e, _⟩ => ⟨o, e⟩
  | .dT _, ⟨_, _, _, _, o, _, _, e, _⟩ => ⟨o, e⟩
  | .set _ _, ⟨o, _, _, _, e, _⟩ => ⟨o, e⟩
  | .ins _ _ _, ⟨_, _, _, e, _⟩ => ⟨_, e⟩
  | .own _, e => e
  | .xd _, ⟨_, n, _⟩ => let ⟨o, e, _⟩ := lookIn_ns n; ⟨o, e⟩
  | .met _ _, e => ⟨_, e⟩
  | .rng _ _, ⟨_, _, _, e⟩ => ⟨_, e⟩
  | .frz o _, ⟨e, _⟩ => ⟨o, e⟩
  | .tbl _, e => ⟨_, e⟩
  | .ext _, ⟨_, e, _⟩ => e

/-! ### an exception here; an exception behind a call -/
end L2

set_option Elab.async false
set_option linter.all false
set_option maxRecDepth 100000
namespace L2
open PySem PySem.Spec PyProof.Rows

/-! ### an own class of errors under ValueError -/
/-! ### raise C(..) -/
end L2

set_option Elab.async false
set_option linter.all false
set_option maxRecDepth 100000
namespace L2
open PySem PySem.Spec PyProof.Rows
/-! ### an exception that is held: isinstance, except -/
end L2

set_option Elab.async false
set_option linter.all false
set_option maxRecDepth 100000
namespace L2
open PySem PySem.Spec PyProof.Rows
/-! ### expressions that may raise; try .. except C as n -/

end L2

set_option Elab.async false
set_option linter.all false
set_option maxRecDepth 100000
/-! EXTENSION 7: f-strings, list.insert -/
namespace L2
open PySem PySem.Spec PyProof.Rows
end L2

set_option linter.all false
/-! Own work: rows, offers, dues, rounds (the mathematics; no model in it). A row's by: -1 for none. -/
namespace RM
structure Row where
  hd : Int
  co : Int
  ho : Int
  by_ : Int
deriving DecidableEq
def lt (r s : Row) : Prop := r.hd < s.hd ∨ (r.hd = s.hd ∧ (r.co < s.co ∨ (r.co = s.co ∧ (r.ho < s.ho ∨ (r.ho = s.ho ∧ r.by_ < s.by_)))))
instance (r s : Row) : Decidable (lt r s) := by unfold lt; infer_instance
def le (r s : Row) : Prop := ¬ lt s r
instance (r s : Row) : Decidable (le r s) := by unfold le; infer_instance
/-- a town: names, and ropes by their numbers -/
structure Net where
  n : Nat
  nm : Nat → Int
  a : Nat → Nat
  b : Nat → Nat
  c : Nat → Int
  live : List Nat
  inj : ∀ i j, i < n → j < n → nm i = nm j → i = j
  ab : ∀ k ∈ live, a k < n ∧ b k < n ∧ a k ≠ b k
  c1 : ∀ k ∈ live, 1 ≤ c k
section
variable (N : Net)
def own (h : Nat) : Row := ⟨N.nm h, 0, 0, -1⟩
end
variable {N : Net}
def upd (R : Nat → Row) (h : Nat) (d : Row) : Nat → Row := fun x => if x = h then d else R x
/-! ### there are rows at rest, just one -/
/-! ### parts; heads -/
/-! ### hanging -/
/-! ### a fall touches those beyond alone -/
/-! ### how many rounds -/
end RM

set_option linter.all false
/-! labels that go along live ropes (the mathematics; no model in it) -/
namespace RM
variable {N : Net}
end RM

set_option Elab.async false
set_option linter.all false
set_option maxRecDepth 100000
/-! EXTENSION 8: t < u of tuples that are told apart by ints, though they hold None -/
namespace L2
open PySem PySem.Spec PyProof.Rows
section
open PySem.SeqAt
open PySem.AutoSeq1 (wpAny_loadPart')
open PySem.MeetsSeq PySem.MeetsSeq2 PySem.MeetsSeq3
end
end L2
/-! rows -/
namespace RM
open PySem L2
/-- a row's by, as a value: None where it is below nought -/
def byV (b : Int) : V := if b < 0 then .non else .int b
abbrev rowV (r : Row) : List V := [.int r.hd, .int r.co, .int r.ho, byV r.by_]
theorem byV_non {b : Int} (h : b < 0) : byV b = .non := if_pos h
theorem byV_int {b : Int} (h : 0 ≤ b) : byV b = .int b := if_neg (by omega)
end RM

set_option Elab.async false
set_option linter.all false
set_option maxRecDepth 100000
/-! EXTENSION 9: min of rows: of two, of a list -/
namespace L2
open PySem PySem.Spec PyProof.Rows
end L2

set_option Elab.async false
set_option linter.all false
set_option maxRecDepth 100000
namespace L2
open PySem PySem.Spec PyProof.Rows RM
end L2

set_option Elab.async false
set_option linter.all false
set_option maxRecDepth 100000
/-! EXTENSION 10: == of data within comprehensions; rows as data -/
namespace L2
open PySem PySem.Spec PyProof.Rows
end L2
namespace RM
open PySem L2
end RM

set_option Elab.async false
set_option linter.all false
set_option maxRecDepth 100000
/-! EXTENSION 11: zip of two lists -/
namespace L2
open PySem PySem.Spec PyProof.Rows
section
variable {X : Cx}
/-- a pair of the items, a new tuple at each turn -/
def Itz (K : PySem.W.Frag) (a b : Addr) : It :=
  ⟨fun i H => ∃ xs ys x y, SqL K H a xs ∧ SqL K H b ys ∧ xs[i]? = some x ∧ ys[i]? = some y,
   fun i H v H' => ∃ p x y, H p = none ∧ v = .ref p ∧ H' = upd H p (.tup [x, y]) ∧ (∀ xs, SqL K H a xs → xs[i]? = some x) ∧ ∀ ys, SqL K H b ys → ys[i]? = some y,
   fun i H => ∃ xs ys, SqL K H a xs ∧ SqL K H b ys ∧ (xs.length ≤ i ∨ ys.length ≤ i)⟩
theorem turn_zip {P : Program} {w : World} {K : PySem.W.Frag} {elts : List Expr} {x1} {pos : Pos} (a b z TI TO i1 i2 : Addr) (D : ZipApart z TI TO i1 i2 a b) :
    Turn P w K (.Tuple elts x1 pos) (Itz K a b) [z, TI, TO, i1, i2] z (fun i h => IsZip h z TI TO .none ∧ IsPair h TI (.ref i1) (.ref i2) ∧ (∃ u v, IsPair h TO u v) ∧ h.IsListIter i1 a i ∧ h.IsListIter i2 b i) where
  mem := by simp
  obj := fun i h ⟨h1, h2, ⟨u, v, h3⟩, h4, h5⟩ c hc => by
    simp only [List.mem_cons, List.not_mem_nil, or_false] at hc
    rcases hc with rfl | rfl | rfl | rfl | rfl
    · exact ⟨_, h1, fun v q => by
        have q' : Data.fields _ = Data.cell v := q
        cases q'⟩
    · exact ⟨_, h2, fun v q => by
        have q' : Data.seq _ _ = Data.cell v := q
        cases q'⟩
    · exact ⟨_, h3, fun v q => by
        have q' : Data.seq _ _ = Data.cell v := q
        cases q'⟩
    · obtain ⟨o, e, c, d⟩ := h4
      exact ⟨o, e, fun v q => by rw [d] at q; cases q⟩
    · obtain ⟨o, e, c, d⟩ := h5
      exact ⟨o, e, fun v q => by rw [d] at q; cases q⟩
  keep := fun i h h' ⟨h1, h2, ⟨u, v, h3⟩, h4, h5⟩ k => ⟨k z (by simp) _ h1, k TI (by simp) _ h2, ⟨u, v, k TO (by simp) _ h3⟩, h4.at fun o q => k i1 (by simp) o q, h5.at fun o q => k i2 (by simp) o q⟩
  item := by
    intro X hP hw hK hc i pins s σ H E I hf ⟨h1, h2, ⟨u0, v0, h3⟩, h4, h5⟩ hg
    subst hP hw hK
    obtain ⟨xs, ys, x, y, hqa, hqb, hx, hy⟩ := hg
    obtain ⟨its, rv, p1, _⟩ := I.list hqa
    obtain ⟨itt, rw', p2, _⟩ := I.list hqb
    obtain ⟨u, hu, ru⟩ := rv.get hx
    obtain ⟨v, hv, rv'⟩ := rw'.get hy
    refine wpAny_pyNext_zip_item D h1 h2 h3 h4 h5 p1.isList p2.isList (x := u) (y := v) (by simpa using hu) (by simpa using hv) fun h' eo to' li1 li2 tu sz kp => ?_
    refine ⟨_, rfl, wpAny_letOwnedTupleGo_zip eo fun hh e2 sb2 => ?_⟩
    have hfr : H s.heap.objs.size = none := I.hok.fresh (Nat.le_refl _)
    have old : ∀ c ∈ [z, TI, TO, i1, i2], c < s.heap.objs.size := fun c hc => by
      simp only [List.mem_cons, List.not_mem_nil, or_false] at hc
      rcases hc with rfl | rfl | rfl | rfl | rfl
      · exact Heap.lt_size h1
      · exact Heap.lt_size h2
      · exact Heap.lt_size h3
      · obtain ⟨o, e, _⟩ := h4; exact Heap.lt_size e
      · obtain ⟨o, e, _⟩ := h5; exact Heap.lt_size e
    have nH : ∀ c ∈ [z, TI, TO, i1, i2], ∀ b o, H b = some o → b ≠ c := fun c hc b o q e => by rw [e, (hf c hc).1] at q; cases q
    have kp2 : ∀ b o, b ∉ [z, TO, i1, i2] → s.heap.get? b = some o → hh.get? b = some o := fun b o hb q => by
      simp only [List.mem_cons, List.not_mem_nil, or_false, not_or] at hb
      exact (sb2.2 b hb.1).trans (kp b o hb.1 hb.2.1 hb.2.2.1 hb.2.2.2 q)
    have sub : ∀ c ∈ [z, TO, i1, i2], c ∈ [z, TI, TO, i1, i2] := fun c hc => by
      simp only [List.mem_cons, List.not_mem_nil, or_false] at hc ⊢
      rcases hc with q | q | q | q <;> simp [q]
    have kH : ∀ b o u, H b = some o → s.heap.get? b = some u → hh.get? b = some u := fun b o u q r => kp2 b u (fun m => nH b (sub b m) b o q rfl) r
    have tu2 : hh.get? s.heap.objs.size = some { cls := .type "tuple", data := .seq #[u, v] } := (sb2.2 _ (Nat.ne_of_gt (Heap.lt_size h1))).trans tu
    have fre : ∀ c ∈ [z, TI, TO, i1, i2], upd H s.heap.objs.size (.tup [x, y]) c = none := fun c hc => by
      rw [upd_ne (Nat.ne_of_lt (old c hc))]
      exact (hf c hc).1
    have I1 : Inv X pins σ (upd H s.heap.objs.size (.tup [x, y])) { s with heap := hh, toks := s.toks } := by
      refine I.step (g' := s.gens) (d' := s.drawn) (ch := [z, TO, i1, i2]) (fun b hb => ?_) (fun b o _ _ hc q _ => kp2 b o hc q) (fun b o _ _ hc q _ => ⟨o.slots, kp2 b o hc q⟩)
        (fun b o _ q n => by rw [upd_ne (Nat.ne_of_lt (Heap.lt_size q))]; exact n) (fun b o hc q => ⟨o, kp2 b o hc q⟩) (fun b xs q => by rw [upd_ne (ne_of_none q hfr)]; exact q) (fun b o u q => by rw [upd_ne (ne_of_none q hfr)]; exact q)
        (fun b ps q => ⟨#[], by rw [upd_ne (ne_of_none q hfr), q]; simp⟩) (fun m hm => ?_) (fun b o q => ?_) I.bare
      · obtain ⟨_, f1, _, f3, f4, f5⟩ := hf b (sub b hb)
        exact ⟨f3, f1, f4, f5⟩
      · obtain ⟨o, es, ep, ho, r⟩ := hm
        refine ⟨o, es, ep, kp2 _ o (fun q => ?_) ho, r⟩
        exact (hf _ (sub _ q)).2.1 rfl
      · by_cases hb : b = s.heap.objs.size
        · subst hb
          rw [upd_same] at q
          cases q
          exact ⟨by show 2 ≤ sizeLine; decide, [u, v], .cons ru (.cons rv' .nil), ⟨_, tu2, rfl, _, rfl⟩⟩
        · rw [upd_ne hb] at q
          refine (I.hok b o q).stay (fun c u' hc r => ?_) (fun c r => by rw [upd_ne (ne_of_none r hfr)]; exact r) fun c xs r => by rw [upd_ne (ne_of_none r hfr)]; exact r
          rcases hc with e | e
          · rw [e] at r ⊢; exact kH b o u' q r
          · exact kH c _ u' e r
    refine ⟨.ref s.heap.objs.size, _, I1, rfl, ⟨_, x, y, hfr, rfl, rfl, fun zs q => by rw [I.list_inj q hqa]; exact hx, fun zs q => by rw [I.list_inj q hqb]; exact hy⟩, ⟨e2, ?_, ⟨u, v, ?_⟩, ?_, ?_⟩, fre⟩
    · exact kp2 TI _ (by
        simp only [List.mem_cons, List.not_mem_nil, or_false, not_or]
        exact ⟨D.TIz, D.TITO, D.TIi1, D.TIi2⟩) h2
    · exact (sb2.2 TO D.TOz).trans to'
    · exact li1.at fun o q => (sb2.2 i1 D.i1z).trans q
    · exact li2.at fun o q => (sb2.2 i2 D.i2z).trans q
  done := by
    intro X hP hw hK hc i pins s σ H E I hf ⟨h1, h2, ⟨u0, v0, h3⟩, h4, h5⟩ hg
    subst hP hw hK
    obtain ⟨xs, ys, hqa, hqb, hx⟩ := hg
    obtain ⟨its, rv, p1, _⟩ := I.list hqa
    obtain ⟨itt, rw', p2, _⟩ := I.list hqb
    have l1 := rv.length
    have l2 := rw'.length
    refine wpAny_pyNext_zip_end (I.ok.hd hc) D h1 h2 h3 h4 h5 p1.isList p2.isList ?_ fun h' kp => ⟨rfl, ?_⟩
    · rcases hx with q | q
      · refine .inl ?_
        rw [List.getElem?_toArray, List.getElem?_eq_none (by omega)]
      · refine .inr ?_
        rw [List.getElem?_toArray, List.getElem?_eq_none (by omega)]
    · have sub : ∀ c ∈ [z, TO, i1, i2], c ∈ [z, TI, TO, i1, i2] := fun c hc => by
        simp only [List.mem_cons, List.not_mem_nil, or_false] at hc ⊢
        rcases hc with q | q | q | q <;> simp [q]
      have kp2 : ∀ b o, b ∉ [z, TO, i1, i2] → s.heap.get? b = some o → h'.get? b = some o := fun b o hb q => by
        simp only [List.mem_cons, List.not_mem_nil, or_false, not_or] at hb
        exact kp b o hb.1 hb.2.1 hb.2.2.1 hb.2.2.2 q
      have kH : ∀ b o u, H b = some o → s.heap.get? b = some u → h'.get? b = some u := fun b o u q r => kp2 b u (fun m => by rw [(hf b (sub b m)).1] at q; cases q) r
      refine I.step (t' := s.toks) (g' := s.gens) (d' := s.drawn) (ch := [z, TO, i1, i2]) (fun b hb => ?_) (fun b o _ _ hc q _ => kp2 b o hc q) (fun b o _ _ hc q _ => ⟨o.slots, kp2 b o hc q⟩)
        (fun b o _ q n => n) (fun b o hc q => ⟨o, kp2 b o hc q⟩) (fun b xs q => q) (fun b o u q => q) (fun b ps q => ⟨#[], by rw [q]; simp⟩) (fun m hm => ?_) (fun b o q => ?_) I.bare
      · obtain ⟨_, f1, _, f3, f4, f5⟩ := hf b (sub b hb)
        exact ⟨f3, f1, f4, f5⟩
      · obtain ⟨o, es, ep, ho, r⟩ := hm
        refine ⟨o, es, ep, kp2 _ o (fun q => ?_) ho, r⟩
        exact (hf _ (sub _ q)).2.1 rfl
      · refine (I.hok b o q).stay (fun c u' hc r => ?_) (fun c r => r) fun c xs r => r
        rcases hc with e | e
        · rw [e] at r ⊢; exact kH b o u' q r
        · exact kH c _ u' e r
  self := fun _ _ _ _ _ ⟨h1, _⟩ h => wpAny_pyIter_zip h1 h
def iZip (K : PySem.W.Frag) (ta : TA) : TI := fun σ H R => ta σ H fun vs H1 => ∃ a b xs ys, vs = [.ref a, .ref b] ∧ SqL K H1 a xs ∧ SqL K H1 b ys ∧ R (Itz K a b) H1
theorem pi_zip {l m : Expr} {ta : TA} {p pos : Pos} {elts : List Expr} {x1} {tpos : Pos} (hg : Gl X "zip") (hm : X.mg "zip" = none) (ha : PA X [l, m] ta) (hs : starEach [l, m] X.env = (false, eval l X.env) :: starEach [m] X.env := by rfl) (hpl : (backTo pos (starEach [m] X.env)).any (·.1) = false := by rfl) :
    PI X (.Tuple elts x1 tpos) (.Call (.Name "zip" p) [l, m] [] pos) (iZip X.K ta) := by
  intro pins s σ H R I h
  refine Call_ (ld_blt I hg hm boot_zip (PyProof.Rows.callWith_type1 (thn (ha pos pins s σ H _ I h) fun us s1 ⟨vs, H1, I1, r1, q1⟩ => ?_) hs hpl))
  obtain ⟨a, b, xs, ys, e, hqa, hqb, q⟩ := q1
  subst e
  obtain ⟨u, w', rfl, ru, rw'⟩ := Vals.two r1
  cases ru
  cases rw'
  obtain ⟨its, rv, pl, hz⟩ := I1.list hqa
  obtain ⟨its2, rv2, pl2, hz2⟩ := I1.list hqb
  have la : a < s1.heap.objs.size := by obtain ⟨_, e, _⟩ := pl.isList; exact Heap.lt_size e
  have lb : b < s1.heap.objs.size := by obtain ⟨_, e, _⟩ := pl2.isList; exact Heap.lt_size e
  refine call_zip_2 pl.isList pl2.isList fun h' z1 z2 z3 z4 z5 sz kp => wpAny_pyIter_zip z1 ?_
  have I2 : Inv X pins σ H1 { s1 with heap := h', toks := s1.toks } := I1.kept kp
  have fr : ∀ c, s1.heap.objs.size ≤ c → FpOk X pins H1 c := fun c hc => I1.fpOk hc (I1.hok.fresh hc)
  refine ⟨s1.heap.objs.size + 4, [s1.heap.objs.size + 4, s1.heap.objs.size + 2, s1.heap.objs.size + 3, s1.heap.objs.size, s1.heap.objs.size + 1], _, _, H1, rfl, I2, turn_zip a b _ _ _ _ _ (zipApart_new la lb), ⟨z1, z2, ⟨_, _, z3⟩, z4, z5⟩, fun c hc => fr c ?_, q⟩
  simp only [List.mem_cons, List.not_mem_nil, or_false] at hc
  rcases hc with rfl | rfl | rfl | rfl | rfl
  · exact Nat.le_add_right _ _
  · exact Nat.le_add_right _ _
  · exact Nat.le_add_right _ _
  · exact Nat.le_refl _
  · exact Nat.le_add_right _ _
end
end L2

set_option Elab.async false
set_option linter.all false
set_option maxRecDepth 100000
/-! EXTENSION 12: max of a list of ints -/
namespace L2
open PySem PySem.Spec PyProof.Rows
end L2

set_option Elab.async false
set_option linter.all false
set_option maxRecDepth 100000
/-! EXTENSION 13: rows by their first three -/
namespace RM
open PySem L2
end RM
namespace L2
open PySem PySem.Spec PyProof.Rows
end L2
namespace L2
open PySem PySem.Spec PyProof.Rows
end L2

set_option Elab.async false
set_option linter.all false
set_option maxRecDepth 100000
/-! EXTENSION 14: for over zip(..) -/
namespace L2
open PySem PySem.Spec PyProof.Rows
theorem for_zip {K : PySem.W.Frag} {a b : Addr} {xs ys : List V} {n : Nat} {g : TG} {tb : TS} {D : Ends} {σ : St} {H : Hp} (Pv : Nat → St → Hp → Prop) (la : xs.length = n) (lb : ys.length = n) (h0 : Pv 0 σ H) (hl : ∀ i σ H, i ≤ n → Pv i σ H → SqL K H a xs ∧ SqL K H b ys)
    (hs : ∀ i x y σ H p, i < n → xs[i]? = some x → ys[i]? = some y → Pv i σ H → H p = none → g (.ref p) σ (upd H p (.tup [x, y])) fun σ2 H2 => tb { D with nx := Pv (i + 1), ct := Pv (i + 1), bk := D.nx } σ2 H2) (hd : ∀ σ H, Pv n σ H → D.nx σ H) :
    ∃ W : Nat → Nat → St → Hp → Prop, (∃ m, W 0 m σ H) ∧ ∀ i m σ H, W i m σ H →
      ((Itz K a b).stop i H ∧ D.nx σ H) ∨ ((Itz K a b).go i H ∧ ∃ N : St → Hp → Prop, (∀ σ' H', N σ' H' → ∃ m', m' < m ∧ W (i + 1) m' σ' H') ∧ ∀ x H', (Itz K a b).yld i H x H' → g x σ H' fun σ2 H2 => tb { D with nx := N, ct := N, bk := D.nx } σ2 H2) := by
  refine ⟨fun i m σ H => m = n - i ∧ i ≤ n ∧ Pv i σ H, ⟨n, by simp, Nat.zero_le _, h0⟩, ?_⟩
  rintro i m σ H ⟨rfl, hi, p⟩
  obtain ⟨q1, q2⟩ := hl i σ H hi p
  by_cases hlt : i < n
  · refine .inr ⟨⟨xs, ys, xs[i]'(by omega), ys[i]'(by omega), q1, q2, List.getElem?_eq_getElem _, List.getElem?_eq_getElem _⟩, Pv (i + 1), fun σ' H' p' => ⟨n - (i + 1), by omega, rfl, hlt, p'⟩, fun x H' y => ?_⟩
    obtain ⟨c, x1, y1, hc, rfl, rfl, hx, hy⟩ := y
    exact hs i x1 y1 σ H c hlt (hx xs q1) (hy ys q2) p hc
  · have e : i = n := by omega
    subst e
    exact .inl ⟨⟨xs, ys, q1, q2, .inl (by omega)⟩, hd σ H p⟩
end L2

set_option Elab.async false
set_option linter.all false
set_option maxRecDepth 100000
set_option maxHeartbeats 4000000
/-! DATA: towns, ropes, rows, lists of them, as they stand on the heap -/
namespace TW
open PySem L2 PyProof.Rows
open RM (rowV byV byV_non byV_int)
seal L2.PE L2.PA L2.PT L2.PW L2.PS L2.PSs L2.PG L2.PGs L2.PI L2.PTs
/-! whole -/
/-! joins -/
/-! ropes -/
/-! init -/
theorem putF_new {f : Str} {v : V} : ∀ {fs : List (Str × V)} {names : List Str}, fs.map (·.1) = names → names.contains f = false → putF f v fs = fs ++ [(f, v)]
  | [], _, _, _ => rfl
  | (g, u) :: r, _, e, h => by
    subst e
    rw [List.map_cons, List.contains_cons, Bool.or_eq_false_iff] at h
    have hn : ¬ g = f := fun z => by
      have := h.1
      rw [z] at this
      simp at this
    show (if g = f then (g, v) :: r else (g, u) :: putF f v r) = _
    rw [if_neg hn, putF_new rfl h.2]
    rfl
/-! nmrope -/
/-! numbers -/
theorem eqV_int (a x : Int) : eqV (.int a) (.int x) = decide (x = a) := by
  show (a == x) = decide (x = a)
  by_cases e : x = a
  · rw [decide_eq_true e, e]; exact beq_self_eq_true a
  · rw [decide_eq_false e]; exact beq_eq_false_iff_ne.mpr (Ne.symm e)
theorem inV_ints (x : Int) (xs : List Int) : inV (.int x) (xs.map V.int) = decide (x ∈ xs) := by
  unfold inV
  induction xs with
  | nil => simp
  | cons y ys ih =>
    rw [List.map_cons, List.any_cons, ih, eqV_int]
    by_cases h1 : x = y
    · subst h1; simp
    · by_cases h2 : x ∈ ys
      · simp [h1, h2]
      · simp [h1, h2]
theorem flat_ints (xs : List Int) : (xs.map V.int).all flatV = true := by
  rw [List.all_eq_true]
  intro v hv
  obtain ⟨x, _, rfl⟩ := List.mem_map.mp hv
  rfl
def above (xs : List Int) (x : Int) : Nat := (xs.filter fun y => decide (x ≤ y)).length
/-! wropes -/
theorem ifS_by {c : TT} {t u r : TS} {D : Ends} {σ : L2.St} {H : Hp} (J : L2.St → Hp → Prop) (hn : ∀ σ H, J σ H → r D σ H) (h : (∀ σ H, J σ H → r D σ H) → tIfS c t u { D with nx := r D } σ H) : tSeq (tIfS c t u) r D σ H := h hn
/-! anyrow -/
/-! live -/
/-! near -/
/-! wdue -/
/-! fit -/
theorem ints_lay : ∀ ns : List Int, PyData.canLayAll0 (ns.map .int) = true
  | [] => rfl
  | n :: ns => by
    show (PyData.canLay0 (.int n) && PyData.canLayAll0 (ns.map .int)) = true
    rw [ints_lay ns]; rfl
theorem ints_deep : ∀ ns : List Int, PyData.depthAll (ns.map .int) = 0
  | [] => rfl
  | n :: ns => by
    show max (PyData.depth (.int n)) (PyData.depthAll (ns.map .int)) = 0
    rw [ints_deep ns]; rfl
/-! truth -/
/-! ownrows -/
/-! townat -/
/-! own -/
/-! due -/
/-! resting -/
/-! rowsdata -/
/-! sets, rounds -/
/-! rests -/
/-! labels; what leads on, as data -/
/-! the best of what leads on -/
end TW
/-! smaller proof terms -/
namespace TW
open PySem L2 PyProof.Rows
end TW

set_option Elab.async false
set_option linter.all false
set_option maxRecDepth 100000
set_option maxHeartbeats 4000000
/-! DATA 2: by what houses hang -/
namespace TW
open PySem L2 PyProof.Rows
open RM (rowV byV byV_non byV_int)
seal L2.PE L2.PA L2.PT L2.PW L2.PS L2.PSs L2.PG L2.PGs L2.PI L2.PTs
section
open Classical
end
/-! what a law tells of a town -/
end TW

set_option Elab.async false
set_option linter.all false
set_option maxRecDepth 100000
/-! EXTENSION 15: sorted of a list of ints -/
namespace L2
open PySem PySem.Spec PyProof.Rows
theorem vals_of_ints {us : List Value} {ns : List Int} (h : IntsAre us ns) : Vals (ns.map V.int) us := by
  induction h with
  | nil => exact .nil
  | cons n t _ ih => exact .cons ⟨t, rfl⟩ ih
section
variable {X : Cx}
def rSorted (K : PySem.W.Frag) : List V → Hp → VK → Prop := fun xs H Q => ∃ (a : Addr) (ns : List Int), xs = [.ref a] ∧ SqL K H a (ns.map V.int) ∧ ns.length < 64 ∧ ∀ l (ns' : List Int), H l = none → ns'.Perm ns → ns'.Pairwise (· ≤ ·) → Q (.ref l) (upd H l (.lst (ns'.map V.int)))
theorem call_sorted : CallR X (.builtin "sorted") (rSorted X.K) := by
  intro pins s σ H xs us Q I r ⟨a, ns, e, hq, h64, q⟩
  subst e
  obtain ⟨u, e, ru⟩ := Vals.one r
  subst e
  cases ru
  obtain ⟨its, rv, p, hz⟩ := I.list hq
  have hi : IntsAre its ns := intsAre_of rv
  have hlen := IntsAre.length hi
  refine sorted_ints (vs := its) p.isList hi (by omega) fun out ns' a1 a2 a3 => ?_
  obtain ⟨e, he⟩ := sortedAll_at s.heap its out
  refine ⟨.ref (s.heap.objs.size + 1), _, I.laid (a := s.heap.objs.size + 1) (o := .lst (ns'.map V.int)) (t' := s.toks) (fun b o e => sortedAll_old e) (Nat.le_succ _) ⟨?_, out.toList, e, vals_of_ints a1, ?_⟩, rfl, q _ ns' (I.hok.fresh (Nat.le_succ _)) a2 a3⟩
  · rw [List.length_map, a2.length_eq]
    exact Nat.le_of_lt (small1000 (by omega))
  · rw [he]
end
end L2

set_option Elab.async false
set_option linter.all false
set_option maxRecDepth 100000
set_option maxHeartbeats 4000000
/-! DATA 3: ways up, open ropes -/
namespace TW
open PySem L2 PyProof.Rows
open RM (rowV byV byV_non byV_int)
seal L2.PE L2.PA L2.PT L2.PW L2.PS L2.PSs L2.PG L2.PGs L2.PI L2.PTs
end TW

set_option Elab.async false
set_option linter.all false
set_option maxRecDepth 100000
set_option maxHeartbeats 4000000
/-! DATA 4: the pairs of open ropes -/
namespace TW
open PySem L2 PyProof.Rows Gr
open RM (rowV byV byV_non byV_int)
end TW

set_option Elab.async false
set_option linter.all false
set_option maxRecDepth 100000
/-! EXTENSION 16: list(reversed(xs)), list(range(a, b)) -/
namespace L2
open PySem PySem.Calls PySem.Spec PyProof.Rows PyProof.V PySem.W
end L2
namespace L2
open PySem PySem.Calls PySem.Spec PyProof.Rows PyProof.V PySem.W
end L2

set_option Elab.async false
set_option linter.all false
set_option maxRecDepth 100000
set_option maxHeartbeats 4000000
/-! DATA 5: one way at most where ropes hold no ring -/
namespace Gr
end Gr
namespace TW
open PySem L2 PyProof.Rows Gr
end TW

set_option Elab.async false
set_option linter.all false
set_option maxRecDepth 100000
/-! EXTENSION 17: list(range(a, b)) -/
namespace L2
open PySem PySem.Calls PySem.Spec PyProof.Rows PyProof.V PySem.W
end L2
namespace TW
open PySem L2 PyProof.Rows Gr
end TW

set_option Elab.async false
set_option linter.all false
set_option maxRecDepth 100000
/-! strands: the wires that stand -/
namespace TW
open PySem L2 PyProof.Rows
end TW

set_option Elab.async false
set_option linter.all false
set_option maxRecDepth 100000
/-! EXTENSION 18: any -/
namespace L2
open PySem PySem.Spec PyProof.Rows
end L2

set_option Elab.async false
set_option linter.all false
set_option maxRecDepth 100000
/-! live ropes by strands; two sets of strands -/
namespace TW
open PySem L2 PyProof.Rows
end TW

set_option Elab.async false
set_option linter.all false
set_option maxRecDepth 100000
namespace TW
open PySem L2 PyProof.Rows
end TW

set_option Elab.async false
set_option linter.all false
set_option maxRecDepth 100000
/-! EXTENSION 19: isinstance of own instances, a def of a class called by the class's name, one of several readings -/
namespace L2
open PySem PySem.Spec PyProof.Rows
structure ClsFn (K : PySem.W.Frag) (C : Addr) (m : Str) (f : Addr) : Prop where
  hg : PySem.W.specialIn K (.ref C) "__getattribute__" = some (some (.builtin "type.__getattribute__"))
  hr : PySem.W.readsIn K C (.type "type") = true
  md : PySem.W.findCls K (.ref C) (.type "type") m = some (.val (.ref f))
  kp : PySem.W.keepIn K (.ref f) = true
section
variable {X : Cx}
theorem pe_alt {e : Expr} {t u : TE} (h1 : PE X e t) (h2 : PE X e u) : PE X e (fun σ H Q => t σ H Q ∨ u σ H Q) := fun pins s σ H Q I h => h.elim (h1 pins s σ H Q I) (h2 pins s σ H Q I)
end
def tClsM (C : Addr) (sp : Sp) (dvs : List V) (E : XK) (ta : TE) (t : TA) : TE := fun σ H Q => ta σ H fun x H1 => x = .ref C ∧ t σ H1 fun vs H2 => sp (vs ++ dvs) H2 Q E
section
variable {X : Cx} {CX : CXT} {k : Nat} {f C : Addr} {fd : FuncData} {ps : List Str} {sp : Sp} {dvs : List V} {ds : List Value} {E : XK} {x m : Str} {p pos apos : Pos} {e o : Expr} {es : List Expr} {ta : TE} {t : TA}
theorem pe_clsMeth {pl : Sem Bool} (he : PE X o ta) (c : ClsFn X.K C m f)
    (F : FnOk X.prog X.w X.K X.mg X.base CX k f fd ps sp) (hr : Room k X.A) (hb : Binds X.K fd ps ds) (hd : Vals dvs ds) (hx : Passes CX X E) (ha : PA X (e :: es) t)
    (hst : starEach (e :: es) X.env = (false, eval e X.env) :: starEach es X.env := by rfl) (hpl : (backTo pos (starEach es X.env)).any (·.1) = false := by rfl)
    (ht : eval (.Call (.Attribute o m apos) (e :: es) [] pos) X.env = (do
      let ov ← eval o X.env
      standAt apos.atName
      let (f, first) ← holding [ov] (getMethod ov m pl)
      callWith pos f first (backTo pos (starEach (e :: es) X.env)) (backToKw pos (keywordEach [] X.env))) := by rfl) :
    PE X (.Call (.Attribute o m apos) (e :: es) [] pos) (tClsM C sp dvs E ta t) := by
  intro pins s σ H Q I h
  refine PySem.W.methodCall_KW (pl := pl) (thn (he pins s σ H _ I h) fun u s1 ⟨x, H1, I1, rx, ex, q⟩ => ?_) ht
  subst ex
  obtain rfl : u = Value.ref C := rx
  refine PySem.W.method_cls I1.kIn c.hg (PySem.W.cls_value I1.kIn c.hr c.md rfl ?_)
  have I2 := I1.tok (s1.toks + 1)
  refine PySem.W.callWith_K (first := []) (h₀ := X.base) I.ok.mod.kin c.kp (thn (ha pos pins _ σ H1 _ I2 q) fun us s2 ⟨vs, H2, I3, r, q2⟩ => ⟨I3.kIn, ?_⟩) hst hpl
  exact run_fn (us := us) (vs := vs) F hr hb hd hx I3 r q2
end
end L2

set_option Elab.async false
set_option linter.all false
set_option maxRecDepth 100000
/-! letters -/
namespace TW
open PySem L2 PyProof.Rows
theorem iteFe {b : Bool} {A B : Prop} (e : b = false) (h : B) : if b = true then A else B := by subst e; exact iteF h
theorem iteTe {b : Bool} {A B : Prop} (e : b = true) (h : A) : if b = true then A else B := by subst e; exact iteT h
inductive LetAt (cL c1 cA : Addr) (H : Hp) (a : Addr) (s to : Int) : Int → Prop
  | bare (dx : Addr) (h : H a = some (.ins cL dx [("sender", .int s)])) : LetAt cL c1 cA H a s to 0
  | one (dx : Addr) (h : H a = some (.ins c1 dx [("sender", .int s), ("to", .int to)])) : LetAt cL c1 cA H a s to 1
  | all (dx : Addr) (h : H a = some (.ins cA dx [("sender", .int s)])) : LetAt cL c1 cA H a s to 2
section
variable {cL c1 cA : Addr} {H H' : Hp} {a lh q : Addr} {s to k : Int} {xs : List V}
theorem LetAt.mono (h : LetAt cL c1 cA H a s to k) (e : Same H H') : LetAt cL c1 cA H' a s to k := by
  cases h with
  | bare dx h => exact .bare dx (e _ _ h)
  | one dx h => exact .one dx (e _ _ h)
  | all dx h => exact .all dx (e _ _ h)
end
end TW

set_option Elab.async false
set_option linter.all false
set_option maxRecDepth 100000
/-! EXTENSION 20: what the sort of fewer than 64 items makes, by any order that is asked -/
namespace L2
open PySem PySem.W PyProof.Rows
section
variable {n : Nat} {r : Nat → Int} {cmp : Nat → Nat → (Bool → Shared → Prop) → Shared → Prop} {s : Shared}
/-- the places in some order -/
def Pm (n : Nat) (p : Array Nat) : Prop := p.Perm (List.toArray (List.range n))
theorem Pm.size {p : Array Nat} (h : Pm n p) : p.size = n := by
  have := h.size_eq
  simpa using this
theorem Pm.lt {p : Array Nat} (h : Pm n p) {k : Nat} (hk : k < n) : p.getD k 0 < n := by
  have hs := h.size
  have e : p.getD k 0 = p[k]'(by omega) := by simp [Array.getD, hs, hk]
  rw [e]
  have : p[k]'(by omega) ∈ p := Array.getElem_mem _
  have := (h.mem_iff).mp this
  simpa using this
def kv (r : Nat → Int) (p : Array Nat) (k : Nat) : Int := r (p.getD k 0)
def UpTo (r : Nat → Int) (p : Array Nat) (m : Nat) : Prop := ∀ i j, i < j → j < m → kv r p i ≤ kv r p j
def DnTo (r : Nat → Int) (p : Array Nat) (m : Nat) : Prop := ∀ i j, i < j → j < m → kv r p j ≤ kv r p i
def EqIn (r : Nat → Int) (p : Array Nat) (a b : Nat) : Prop := ∀ i j, a ≤ i → i < b → a ≤ j → j < b → kv r p i = kv r p j
theorem UpTo.next {p : Array Nat} {m : Nat} (h : UpTo r p m) (h1 : 1 ≤ m) (hm : kv r p (m - 1) ≤ kv r p m) : UpTo r p (m + 1) := fun i j hij hj => by
  by_cases e : j = m
  · subst e
    by_cases e2 : i = j - 1
    · rw [e2]; exact hm
    · exact Int.le_trans (h i (j - 1) (by omega) (by omega)) hm
  · exact h i j hij (by omega)
theorem DnTo.next {p : Array Nat} {m : Nat} (h : DnTo r p m) (h1 : 1 ≤ m) (hm : kv r p m ≤ kv r p (m - 1)) : DnTo r p (m + 1) := fun i j hij hj => by
  by_cases e : j = m
  · subst e
    by_cases e2 : i = j - 1
    · rw [e2]; exact hm
    · exact Int.le_trans hm (h i (j - 1) (by omega) (by omega))
  · exact h i j hij (by omega)
theorem eq_one {p : Array Nat} {m : Nat} : EqIn r p (m + 1 - (0 + 1)) (m + 1) := fun i j a b c d => by
  have : i = j := by omega
  rw [this]
theorem up_one {p : Array Nat} : UpTo r p 1 := fun i j a b => by omega
theorem kv_rev {p : Array Nat} {a b k : Nat} (hb : b ≤ p.size) (hab : a ≤ b) : kv r (kas_rev p a b) k = if a ≤ k ∧ k < b then kv r p (a + b - 1 - k) else kv r p k := by
  unfold kv
  have e : (kas_rev p a b)[k]? = if a ≤ k ∧ k < b then p[a + b - 1 - k]? else p[k]? := by
    unfold kas_rev
    rw [getElem?_mirror hb ((b - a) / 2) (by omega) k]
    by_cases h : a ≤ k ∧ k < b
    · rw [if_pos h]
      by_cases h2 : a ≤ k ∧ k < a + (b - a) / 2 ∨ b - (b - a) / 2 ≤ k ∧ k < b
      · rw [if_pos h2]
      · rw [if_neg h2]
        congr 1
        omega
    · rw [if_neg h, if_neg (by omega)]
  have g : ∀ (q : Array Nat) (i : Nat), q.getD i 0 = (q[i]?).getD 0 := fun q i => by simp [Array.getD_eq_getD_getElem?]
  rw [g, e]
  by_cases h : a ≤ k ∧ k < b
  · rw [if_pos h, if_pos h, g]
  · rw [if_neg h, if_neg h, g]
theorem Pm.rev {p : Array Nat} (h : Pm n p) (a b : Nat) : Pm n (kas_rev p a b) := (mirror_perm _ _ _ _).trans h
theorem up_of_rev {p : Array Nat} {m : Nat} (hm : m ≤ p.size) (h : DnTo r p m) : UpTo r (kas_rev p 0 m) m := fun i j hij hj => by
  rw [kv_rev hm (Nat.zero_le _), kv_rev hm (Nat.zero_le _), if_pos ⟨Nat.zero_le _, by omega⟩, if_pos ⟨Nat.zero_le _, hj⟩]
  exact h _ _ (by omega) (by omega)
theorem dn_rev_eq {p : Array Nat} {a m : Nat} (hm : m ≤ p.size) (ham : a ≤ m) (h : DnTo r p m) (he : EqIn r p a m) : DnTo r (kas_rev p a m) m ∧ ∀ k, m ≤ k → kv r (kas_rev p a m) k = kv r p k := by
  have same : ∀ k, kv r (kas_rev p a m) k = kv r p k := fun k => by
    rw [kv_rev hm ham]
    by_cases h : a ≤ k ∧ k < m
    · rw [if_pos h]
      exact he _ _ (by omega) (by omega) h.1 h.2
    · rw [if_neg h]
  exact ⟨fun i j hij hj => by rw [same, same]; exact h i j hij hj, fun k _ => same k⟩
variable (hc : ∀ i j C, i < n → j < n → C (decide (r i < r j)) s → cmp i j C s)
include hc
theorem asc_ok {p : Array Nat} (hp : Pm n p) : ∀ (f m : Nat) {Q : Nat → Shared → Prop}, 1 ≤ m → m + f = n → UpTo r p m →
    (∀ m', m ≤ m' → m' ≤ n → UpTo r p m' → (m' < n → kv r p m' < kv r p (m' - 1)) → Q m' s) → (kas_asc p f m).kasWp cmp Q s
  | 0, m, Q, h1, hf, hu, k => k m (Nat.le_refl _) (by omega) hu (fun z => by omega)
  | f + 1, m, Q, h1, hf, hu, k => by
    refine hc _ _ _ (hp.lt (by omega)) (hp.lt (by omega)) ?_
    by_cases hd : kv r p m < kv r p (m - 1)
    · rw [show decide (r (p.getD m 0) < r (p.getD (m - 1) 0)) = true from decide_eq_true hd]
      exact k m (Nat.le_refl _) (by omega) hu fun _ => hd
    · rw [show decide (r (p.getD m 0) < r (p.getD (m - 1) 0)) = false from decide_eq_false hd]
      exact asc_ok hp f (m + 1) (by omega) (by omega) (hu.next h1 (by omega)) fun m' a b c d => k m' (by omega) b c d
theorem desc_ok : ∀ (f : Nat) (p : Array Nat) (m q : Nat) {Q : Array Nat × Nat × Nat → Shared → Prop}, Pm n p → 1 ≤ m → m + f = n → q + 1 ≤ m → DnTo r p m → EqIn r p (m - (q + 1)) m →
    (∀ p' m' q', Pm n p' → 1 ≤ m' → m' ≤ n → q' + 1 ≤ m' → DnTo r p' m' → EqIn r p' (m' - (q' + 1)) m' → Q (p', m', q') s) → (kas_desc f p m q).kasWp cmp Q s
  | 0, p, m, q, Q, hp, h1, hf, hq, hd, he, k => k p m q hp h1 (by omega) hq hd he
  | f + 1, p, m, q, Q, hp, h1, hf, hq, hd, he, k => by
    have hz := hp.size
    refine hc _ _ _ (hp.lt (by omega)) (hp.lt (by omega)) ?_
    by_cases c1 : kv r p m < kv r p (m - 1)
    · rw [show decide (r (p.getD m 0) < r (p.getD (m - 1) 0)) = true from decide_eq_true c1]
      show ((if true = true then (if q > 0 then kas_desc f (kas_rev p (m - (q + 1)) m) (m + 1) 0 else kas_desc f p (m + 1) 0) else _) : KasT _).kasWp cmp Q s
      rw [if_pos rfl]
      have last : ∀ {p' : Array Nat}, EqIn r p' (m + 1 - (0 + 1)) (m + 1) := fun i j a b c d => by
        have : i = j := by omega
        rw [this]
      by_cases hq0 : q > 0
      · rw [if_pos hq0]
        obtain ⟨d1, d2⟩ := dn_rev_eq (by omega) (Nat.sub_le _ _) hd he
        refine desc_ok f _ (m + 1) 0 (hp.rev _ _) (by omega) (by omega) (by omega) (d1.next h1 ?_) last k
        rw [d2 m (Nat.le_refl _)]
        have : kv r (kas_rev p (m - (q + 1)) m) (m - 1) = kv r p (m - 1) := by
          rw [kv_rev (by omega) (Nat.sub_le _ _)]
          split
          · exact he _ _ (by omega) (by omega) (by omega) (by omega)
          · rfl
        omega
      · rw [if_neg hq0]
        exact desc_ok f p (m + 1) 0 hp (by omega) (by omega) (by omega) (hd.next h1 (by omega)) last k
    · rw [show decide (r (p.getD m 0) < r (p.getD (m - 1) 0)) = false from decide_eq_false c1]
      refine hc _ _ _ (hp.lt (by omega)) (hp.lt (by omega)) ?_
      by_cases c2 : kv r p (m - 1) < kv r p m
      · rw [show decide (r (p.getD (m - 1) 0) < r (p.getD m 0)) = true from decide_eq_true c2]
        exact k p m q hp h1 (by omega) hq hd he
      · rw [show decide (r (p.getD (m - 1) 0) < r (p.getD m 0)) = false from decide_eq_false c2]
        have e1 : kv r p m = kv r p (m - 1) := by omega
        refine desc_ok f p (m + 1) (q + 1) hp (by omega) (by omega) (by omega) (hd.next h1 (by omega)) (fun i j a b c d => ?_) k
        have at_ : ∀ x, m + 1 - (q + 1 + 1) ≤ x → x < m + 1 → kv r p x = kv r p (m - 1) := fun x a b => by
          by_cases ex : x = m
          · rw [ex]; exact e1
          · exact he x (m - 1) (by omega) (by omega) (by omega) (by omega)
        rw [at_ i a b, at_ j c d]
theorem tail3_ok {m : Nat} {p : Array Nat} {Q : Nat × Array Nat → Shared → Prop} (hp : Pm n p) (h1 : 1 ≤ m) (hm : m ≤ n) (hd : DnTo r p m) (k : ∀ m' p', Pm n p' → 1 ≤ m' → m' ≤ n → UpTo r p' m' → Q (m', p') s) : (kas_tail3 m n p).kasWp cmp Q s := by
  unfold kas_tail3
  rw [KasT.kasWp_bind]
  exact asc_ok hc (hp.rev 0 m) (n - m) m h1 (by omega) (up_of_rev (by have := hp.size; omega) hd) fun m' a b c _ => k m' _ (hp.rev 0 m) (by omega) b c
theorem descPart_ok {m : Nat} {p : Array Nat} {Q : Nat × Array Nat → Shared → Prop} (hp : Pm n p) (h1 : 1 ≤ m) (hm : m < n) (hd : DnTo r p (m + 1)) (k : ∀ m' p', Pm n p' → 1 ≤ m' → m' ≤ n → UpTo r p' m' → Q (m', p') s) : (kas_descPart m n p).kasWp cmp Q s := by
  unfold kas_descPart
  rw [KasT.kasWp_bind]
  refine desc_ok hc (n - (m + 1)) p (m + 1) 0 hp (by omega) (by omega) (by omega) hd eq_one fun p' m' q' a1 a2 a3 a4 a5 a6 => ?_
  dsimp only
  by_cases hq : q' > 0
  · rw [if_pos hq]
    exact tail3_ok hc (a1.rev _ _) a2 a3 (dn_rev_eq (by have := a1.size; omega) (Nat.sub_le _ _) a5 a6).1 k
  · rw [if_neg hq]
    exact tail3_ok hc a1 a2 a3 a5 k
theorem count_ok {p : Array Nat} {Q : Nat × Array Nat → Shared → Prop} (hp : Pm n p) (h1 : 1 ≤ n) (k : ∀ m' p', Pm n p' → 1 ≤ m' → m' ≤ n → UpTo r p' m' → Q (m', p') s) : (kas_count n p).kasWp cmp Q s := by
  unfold kas_count
  rw [KasT.kasWp_bind]
  refine asc_ok hc hp (n - 1) 1 (Nat.le_refl _) (by omega) up_one fun m a b hu hx => ?_
  by_cases e : m = n
  · rw [if_pos (by simp [e])]
    exact k m p hp a b hu
  · rw [if_neg (by simp [e])]
    have hx := hx (by omega)
    by_cases hm : m > 1
    · rw [if_pos hm]
      refine hc _ _ _ (hp.lt (by omega)) (hp.lt (by omega)) ?_
      by_cases c1 : kv r p 0 < kv r p (m - 1)
      · rw [show decide (r (p.getD 0 0) < r (p.getD (m - 1) 0)) = true from decide_eq_true c1]
        exact k m p hp a b hu
      · rw [show decide (r (p.getD 0 0) < r (p.getD (m - 1) 0)) = false from decide_eq_false c1]
        have he : EqIn r p 0 m := by
          have at_ : ∀ x, x < m → kv r p x = kv r p 0 := fun x hxm => by
            by_cases x0 : x = 0
            · rw [x0]
            · have g1 := hu 0 x (by omega) hxm
              by_cases x1 : x = m - 1
              · rw [x1] at g1 ⊢; omega
              · have := hu x (m - 1) (by omega) (by omega)
                omega
          exact fun i j _ b1 _ b2 => by rw [at_ i b1, at_ j b2]
        have hd : DnTo r p m := fun i j hij hj => by rw [he i j (Nat.zero_le _) (by omega) (Nat.zero_le _) hj]; exact Int.le_refl _
        obtain ⟨d1, d2⟩ := dn_rev_eq (by have := hp.size; omega) (Nat.zero_le _) hd he
        refine descPart_ok hc (hp.rev 0 m) (by omega) (by omega) (d1.next (by omega) ?_) k
        rw [d2 m (Nat.le_refl _), kv_rev (by have := hp.size; omega) (Nat.zero_le _), if_pos ⟨Nat.zero_le _, by omega⟩]
        have := he (0 + m - 1 - (m - 1)) (m - 1) (Nat.zero_le _) (by omega) (Nat.zero_le _) (by omega)
        omega
    · rw [if_neg hm]
      have em : m = 1 := by omega
      subst em
      refine descPart_ok hc hp (Nat.le_refl _) (by omega) (fun i j hij hj => ?_) k
      have : i = 0 ∧ j = 1 := by omega
      rw [this.1, this.2]
      exact Int.le_of_lt hx
theorem place_ok {p : Array Nat} {kk : Nat} (hp : Pm n p) (hk : kk < n) (hu : UpTo r p kk) : ∀ (f l u : Nat) {Q : Nat → Shared → Prop}, l ≤ u → u ≤ kk → u - l ≤ f → (∀ i, i < l → kv r p i ≤ kv r p kk) → (∀ i, u ≤ i → i < kk → kv r p kk < kv r p i) →
    (∀ l', l' ≤ kk → (∀ i, i < l' → kv r p i ≤ kv r p kk) → (∀ i, l' ≤ i → i < kk → kv r p kk < kv r p i) → Q l' s) → (kas_place p kk f l u).kasWp cmp Q s
  | 0, l, u, Q, hlu, huk, hf, a, b, k => k l (by omega) a (fun i h => b i (by omega))
  | f + 1, l, u, Q, hlu, huk, hf, a, b, k => by
    show ((if l ≥ u then KasT.ret l else _) : KasT Nat).kasWp cmp Q s
    by_cases h : l ≥ u
    · rw [if_pos h]
      exact k l (by omega) a (fun i h => b i (by omega))
    · rw [if_neg h]
      refine hc _ _ _ (hp.lt hk) (hp.lt (by omega)) ?_
      by_cases c : kv r p kk < kv r p ((l + u) / 2)
      · rw [show decide (r (p.getD kk 0) < r (p.getD ((l + u) / 2) 0)) = true from decide_eq_true c]
        refine place_ok hp hk hu f l ((l + u) / 2) (by omega) (by omega) (by omega) a (fun i h1 h2 => ?_) k
        by_cases e : i = (l + u) / 2
        · rw [e]; exact c
        · exact Int.lt_of_lt_of_le c (hu _ i (by omega) h2)
      · rw [show decide (r (p.getD kk 0) < r (p.getD ((l + u) / 2) 0)) = false from decide_eq_false c]
        refine place_ok hp hk hu f ((l + u) / 2 + 1) u (by omega) huk (by omega) (fun i h1 => ?_) b k
        by_cases e : i = (l + u) / 2
        · rw [e]; omega
        · have := hu i ((l + u) / 2) (by omega) (by omega)
          omega
omit hc in
theorem kv_bub {p : Array Nat} {src d k : Nat} (hs : src < p.size) (hd : d ≤ src) : kv r (bubble p src d) k = if k = src - d then kv r p src else if src - d < k ∧ k ≤ src then kv r p (k - 1) else kv r p k := by
  unfold kv
  have g : ∀ (q : Array Nat) (i : Nat), q.getD i 0 = (q[i]?).getD 0 := fun q i => by simp [Array.getD_eq_getD_getElem?]
  rw [g, getElem?_bubble hs d hd k]
  by_cases h : k = src - d
  · rw [if_pos h, if_pos h, g]
  · rw [if_neg h, if_neg h]
    by_cases h2 : src - d < k ∧ k ≤ src
    · rw [if_pos h2, if_pos h2, g]
    · rw [if_neg h2, if_neg h2, g]
theorem bin_ok : ∀ (f : Nat) (p : Array Nat) (m : Nat) {Q : Array Nat → Shared → Prop}, Pm n p → m + f = n → UpTo r p m → (∀ p', Pm n p' → UpTo r p' n → Q p' s) → (kas_bin f p m).kasWp cmp Q s
  | 0, p, m, Q, hp, hf, hu, k => k p hp (by rw [← hf]; exact hu)
  | f + 1, p, m, Q, hp, hf, hu, k => by
    show ((kas_place p m m 0 m).bind fun l => kas_bin f (bubble p m (m - l)) (m + 1)).kasWp cmp Q s
    rw [KasT.kasWp_bind]
    refine place_ok hc hp (by omega) hu m 0 m (Nat.zero_le _) (Nat.le_refl _) (by omega) (fun i h => by omega) (fun i h1 h2 => by omega) fun l hl a b => ?_
    have hz := hp.size
    refine bin_ok f _ (m + 1) ((bubble_perm _ _ _).trans hp) (by omega) (fun i j hij hj => ?_) k
    have el : m - (m - l) = l := by omega
    rw [kv_bub (by omega) (Nat.sub_le _ _), kv_bub (by omega) (Nat.sub_le _ _), el]
    by_cases hi : i = l
    · rw [if_pos hi, if_neg (by omega), if_pos (by omega)]
      exact Int.le_of_lt (b (j - 1) (by omega) (by omega))
    · rw [if_neg hi]
      by_cases hi2 : l < i ∧ i ≤ m
      · rw [if_pos hi2, if_neg (by omega), if_pos (by omega)]
        exact hu (i - 1) (j - 1) (by omega) (by omega)
      · rw [if_neg hi2]
        by_cases hjl : j = l
        · rw [if_pos hjl]; exact a i (by omega)
        · rw [if_neg hjl]
          by_cases hj2 : l < j ∧ j ≤ m
          · rw [if_pos hj2]
            by_cases ej : i = j - 1
            · rw [ej]; exact Int.le_refl _
            · exact hu i (j - 1) (by omega) (by omega)
          · rw [if_neg hj2]
            exact hu i j hij (by omega)
theorem sort_ok {Q : Array Nat → Shared → Prop} (h1 : 1 ≤ n) (k : ∀ p, Pm n p → UpTo r p n → Q p s) : (kas_sort n).kasWp cmp Q s := by
  unfold kas_sort
  rw [KasT.kasWp_bind]
  refine count_ok hc (Array.Perm.refl _) h1 fun m p hp a b hu => ?_
  dsimp only
  by_cases h : m < n
  · rw [if_pos h]
    have em : max m 1 = m := by omega
    rw [em]
    exact bin_ok hc (n - m) p m hp (by omega) hu k
  · rw [if_neg h]
    have : m = n := by omega
    subst this
    exact k p hp hu
end
end L2

set_option Elab.async false
set_option linter.all false
set_option maxRecDepth 100000
/-! EXTENSION 21: sorted of a list of triples of ints -/
namespace L2
open PySem PySem.W PySem.Spec PyProof.Rows
abbrev T3 := Int × Int × Int
def lt3 (x y : T3) : Bool := decide (x.1 < y.1) || (decide (x.1 = y.1) && (decide (x.2.1 < y.2.1) || (decide (x.2.1 = y.2.1) && decide (x.2.2 < y.2.2))))
theorem lt3_iff {x y : T3} : lt3 x y = true ↔ x.1 < y.1 ∨ (x.1 = y.1 ∧ (x.2.1 < y.2.1 ∨ (x.2.1 = y.2.1 ∧ x.2.2 < y.2.2))) := by
  unfold lt3
  simp [Bool.or_eq_true, Bool.and_eq_true]
theorem lt3_trans {x y z : T3} (a : lt3 x y = true) (b : lt3 y z = true) : lt3 x z = true := by
  rw [lt3_iff] at *
  omega
theorem lt3_irr (x : T3) : lt3 x x = false := by
  rw [Bool.eq_false_iff]
  intro z
  rw [lt3_iff] at z
  omega
theorem le3 {x y z : T3} (a : lt3 x y = false) (b : lt3 z y = true) : lt3 z x = true := by
  have a' : ¬ lt3 x y = true := by rw [a]; exact Bool.false_ne_true
  rw [lt3_iff] at *
  omega
def rank3 (ts : List T3) (x : T3) : Int := ((ts.filter fun z => lt3 z x).length : Nat)
theorem filter_le {α : Type} {p q : α → Bool} : ∀ {l : List α}, (∀ z, p z = true → q z = true) → (l.filter p).length ≤ (l.filter q).length
  | [], _ => Nat.le_refl _
  | a :: l, h => by
    have ih := filter_le (l := l) h
    rw [List.filter_cons, List.filter_cons]
    by_cases hp : p a = true
    · rw [if_pos hp, if_pos (h a hp), List.length_cons, List.length_cons]; omega
    · rw [if_neg hp]
      split
      · rw [List.length_cons]; omega
      · exact ih
theorem filter_lt {α : Type} {p q : α → Bool} {x : α} : ∀ {l : List α}, (∀ z, p z = true → q z = true) → x ∈ l → p x = false → q x = true → (l.filter p).length < (l.filter q).length
  | a :: l, h, hx, h1, h2 => by
    rw [List.filter_cons, List.filter_cons]
    rcases List.mem_cons.mp hx with rfl | hx
    · rw [if_neg (by rw [h1]; exact Bool.false_ne_true), if_pos h2, List.length_cons]
      have := filter_le (l := l) h
      omega
    · have ih := filter_lt h hx h1 h2
      by_cases hp : p a = true
      · rw [if_pos hp, if_pos (h a hp), List.length_cons, List.length_cons]; omega
      · rw [if_neg hp]
        split
        · rw [List.length_cons]; omega
        · exact ih
theorem rank3_lt {ts : List T3} {x y : T3} (hx : x ∈ ts) : decide (rank3 ts x < rank3 ts y) = lt3 x y := by
  unfold rank3
  cases e : lt3 x y with
  | true =>
    refine decide_eq_true ?_
    have := filter_lt (l := ts) (p := fun z => lt3 z x) (q := fun z => lt3 z y) (x := x) (fun z hz => lt3_trans hz e) hx (lt3_irr x) e
    omega
  | false =>
    refine decide_eq_false ?_
    have := filter_le (l := ts) (p := fun z => lt3 z y) (q := fun z => lt3 z x) (fun z hz => le3 e hz)
    omega
abbrev t3V (x : T3) : List V := [.int x.1, .int x.2.1, .int x.2.2]
/-- a triple in the heap -/
def Tri (h : Heap) (v : Value) (x : T3) : Prop := ∃ (q : Addr) (o : Obj) (n : Nat) (t1 t2 t3 : Tok), v = .ref q ∧ h.get? q = some o ∧ o.cls = .type "tuple" ∧ o.data = .seq #[.int x.1 t1, .int x.2.1 t2, .int x.2.2 t3] n
section
variable {prog : Program} {w : World} {A : Around} {s : Shared}
theorem tri_lt {E : Value → Shared → Prop} {u v : Value} {x y : T3} {C : Bool → Shared → Prop} (hu : Tri s.heap u x) (hv : Tri s.heap v y) (k : C (lt3 x y) s) : wpAny (model prog w) A (keyLt' (tuples' true) u v) C E s := by
  obtain ⟨p, o, n, t1, t2, t3, rfl, h1, c1, d1⟩ := hu
  obtain ⟨q, o', n', u1, u2, u3, rfl, h2, c2, d2⟩ := hv
  refine kat_lt h1 d1 h2 d2 ?_
  refine kat_cons (wpAny_eqBool_int (kat_go (fun e0 => kat_yes ?_) fun e0 => kat_no (oneLt_int ?_)))
  case refine_2 =>
    have n0 : ¬ x.1 = y.1 := by simpa using e0
    have e : lt3 x y = decide (x.1 < y.1) := by unfold lt3; rw [decide_eq_false n0]; simp
    rw [← e]; exact k
  have e0 : x.1 = y.1 := by simpa using e0
  refine kat_cons (wpAny_eqBool_int (kat_go (fun e1 => kat_yes ?_) fun e1 => kat_no (kat_one _ _ (lt_int ?_))))
  case refine_2 =>
    have n0 : ¬ x.2.1 = y.2.1 := by simpa using e1
    have e : lt3 x y = decide (x.2.1 < y.2.1) := by rw [Bool.eq_iff_iff, lt3_iff, decide_eq_true_eq]; omega
    rw [← e]; exact k
  have e1 : x.2.1 = y.2.1 := by simpa using e1
  refine kat_cons (wpAny_eqBool_int (kat_go (fun e2 => kat_yes (kat_nil ?_)) fun e2 => kat_no (kat_one _ _ (lt_int ?_))))
  · have e2 : x.2.2 = y.2.2 := by simpa using e2
    have e : lt3 x y = false := by
      rw [Bool.eq_false_iff]
      intro z
      rw [lt3_iff] at z
      omega
    rw [e] at k; exact k
  · have e : lt3 x y = decide (x.2.2 < y.2.2) := by rw [Bool.eq_iff_iff, lt3_iff, decide_eq_true_eq]; omega
    rw [← e]; exact k
theorem tri_firsts {h : Heap} : ∀ {vs : List Value} {ts : List T3}, vs.length = ts.length → (∀ (i : Nat) v x, vs[i]? = some v → ts[i]? = some x → Tri h v x) → ∃ fs, KatTups h vs fs ∧ fs.length = vs.length ∧ ∀ f ∈ fs, ∃ i t, f = Value.int i t
  | [], [], _, _ => ⟨[], trivial, rfl, fun _ hf => absurd hf (by simp)⟩
  | v :: vs, x :: ts, hl, h => by
    obtain ⟨fs, a, b, c⟩ := tri_firsts (vs := vs) (ts := ts) (by simpa using hl) fun i v x e1 e2 => h (i + 1) v x (by simpa using e1) (by simpa using e2)
    obtain ⟨q, o, n, t1, t2, t3, rfl, h1, c1, d1⟩ := h 0 v x rfl rfl
    refine ⟨.int x.1 t1 :: fs, KatTups.cons h1 c1 d1 rfl a, by simp [b], fun f hf => ?_⟩
    rcases List.mem_cons.mp hf with rfl | hf
    · exact ⟨_, _, rfl⟩
    · exact c f hf
end
section
variable {prog : Program} {w : World} {A : Around} {s : Shared} {E : Value → Shared → Prop}
theorem sort_one {d : Addr} {v : Value} {c : Nat} {P : PySem.Fin → Shared → Prop} (hd : s.heap.get? d = some (seqObj "list" [v].toArray c)) (k : P (.done (.ret .none)) { s with heap := sortedHeap s.heap d [v] #[v] }) :
    wpAny (model prog w) A (Builtin.«list.sort» ⟨[.ref d], []⟩) P E s := by
  have hlt : d < s.heap.objs.size := Heap.lt_size hd
  rw [list_sort_plain]
  refine wpAny_bind (listItems_at hd rfl (wpAny_bind (listUpdate_at hd rfl ?_)))
  have h1 : ∃ c1, (s.heap.update d (Obj.mapSeq fun _ => #[])).get? d = some (seqObj "list" #[] c1) := ⟨_, get?_update_seq hd (fun _ => #[])⟩
  obtain ⟨c1, h1⟩ := h1
  refine wpAny_bind (seqEpoch_at h1 rfl (wpAny_bind (wpAny_newTuple (wpAny_bind (wpAny_newList (wpAny_holding ?_))))))
  have hsz : (s.heap.update d (Obj.mapSeq fun _ => #[])).objs.size = s.heap.objs.size := Heap.size_update _ _ _
  have h6 : (((s.heap.update d (Obj.mapSeq fun _ => #[])).push (seqObj "tuple" [v].toArray 0)).push (seqObj "list" #[] 0)).get? d = some (seqObj "list" #[] c1) :=
    Heap.get?_push_of_some _ (Heap.get?_push_of_some _ h1)
  show wpAny (model prog w) A _ P E { s with heap := ((s.heap.update d (Obj.mapSeq fun _ => #[])).push (seqObj "tuple" [v].toArray 0)).push (seqObj "list" #[] 0) }
  have ht : [v].toArray.size < 2 := by simp
  have hv : (arrOf (SortSt.mk' general' (#[v].zip #[v]) #[] 7 none)).map (·.2) = #[v] := by
    show (#[v].zip #[v]).map (·.2) = #[v]
    simp
  dsimp only
  rw [if_pos ht, if_pos ht]
  refine wpAny_bind (wpAny_pure ?_)
  rw [StateT.run_pure]
  refine wpAny_bind (wpAny_pure (wpAny_bind (seqEpoch_at h6 rfl (wpAny_bind (listUpdate_at h6 rfl ?_ (hsz2 := ?_))))))
  · simp only [bne_self_eq_false, Bool.false_eq_true, if_false]
    refine wpAny_pure ?_
    rw [hv]
    exact k
  · show ((arrOf (SortSt.mk' general' (#[v].zip #[v]) #[] 7 none)).map (·.2)).size ≤ sizeLine + 1
    rw [hv]
    show 1 ≤ sizeLine + 1
    exact Nat.le_add_left _ _
theorem sorted_one {l : Addr} {v : Value} {Q : Value → Shared → Prop} (hl : s.heap.IsList l [v].toArray) (k : Q (.ref (s.heap.objs.size + 1)) { s with heap := sortedAll s.heap [v] #[v] }) : wpAny (model prog w) A (call (.builtin "sorted") [.ref l]) Q E s := by
  refine Calls.call_function_entry kind_sorted plain_sorted entry_sorted (args_sorted1 _) ?_
  unfold Builtin.«sorted»
  refine wpAny_bind (m := checkCount "sorted" 1 1 _) (wpAny_pure (wpAny_bind (collect_list hl (wpAny_bind (wpAny_newList ?_)))))
  have hz : ((s.heap.push (seqObj "list" #[] 0)).update s.heap.objs.size (Obj.mapSeq (· ++ [v].toArray))).objs.size = s.heap.objs.size + 1 := (Heap.size_update _ _ _).trans (size_push' _ _)
  have ho : (((s.heap.push (seqObj "list" #[] 0)).update s.heap.objs.size (Obj.mapSeq (· ++ [v].toArray))).push (seqObj "list" [v].toArray 0)).get? (s.heap.objs.size + 1) = some (seqObj "list" [v].toArray 0) := hz ▸ Heap.get?_push_size _ rfl
  show wpAny _ _ _ _ _ { s with heap := ((s.heap.push (seqObj "list" #[] 0)).update s.heap.objs.size (Obj.mapSeq (· ++ [v].toArray))).push (seqObj "list" [v].toArray 0) }
  rw [hz]
  exact wpAny_bind (wpAny_holding (wpAny_call_entry slot_list_sort ⟨_, ho, rfl⟩ entry_list_sort (sort_one ho ⟨_, rfl, wpAny_pure ⟨_, rfl, k⟩⟩) (args_list_sort _)))
end
/-- triples at places -/
def TrisAt (K : PySem.W.Frag) (H : Hp) (qs : List Addr) (ts : List T3) : Prop := qs.length = ts.length ∧ ∀ (i : Nat) q t, qs[i]? = some q → ts[i]? = some t → SqT K H q (t3V t)
theorem TrisAt.mono {K : PySem.W.Frag} {H H' : Hp} {qs : List Addr} {ts : List T3} (s : Same H H') (h : TrisAt K H qs ts) : TrisAt K H' qs ts := ⟨h.1, fun i q t a b => s.seqT (h.2 i q t a b)⟩
def Sorted3 (ts : List T3) : Prop := ∀ (i j : Nat) (x y : T3), i < j → ts[i]? = some x → ts[j]? = some y → lt3 y x = false
section
variable {X : Cx}
def rSorted3 (K : PySem.W.Frag) : List V → Hp → VK → Prop := fun xs H Q => ∃ (a : Addr) (qs : List Addr) (ts : List T3), xs = [.ref a] ∧ SqL K H a (qs.map V.ref) ∧ TrisAt K H qs ts ∧ ts.length < 64 ∧
  ∀ l (qs' : List Addr) (ts' : List T3), H l = none → ts'.Perm ts → Sorted3 ts' → TrisAt K H qs' ts' → Q (.ref l) (upd H l (.lst (qs'.map V.ref)))
theorem refs_of : ∀ {qs : List Addr} {its : List Value}, Vals (qs.map V.ref) its → its = qs.map Value.ref
  | [], _, r => by cases r; rfl
  | q :: qs, _, r => by
    cases r with
    | cons h t =>
      have h : _ = Value.ref q := h
      rw [h, refs_of t]
      rfl
theorem vals_refs : ∀ qs : List Addr, Vals (qs.map V.ref) (qs.map Value.ref)
  | [] => .nil
  | q :: qs => .cons rfl (vals_refs qs)
theorem map_getD {α : Type} (d : α) : ∀ l : List α, (List.range l.length).map (fun i => l.getD i d) = l := fun l => by
  apply List.ext_getElem
  · simp
  · intro i h1 h2
    simp at h1
    simp [h1]
theorem call_sorted3 : CallR X (.builtin "sorted") (rSorted3 X.K) := by
  intro pins s σ H xs us Q I r ⟨a, qs, ts, e, hq, ht, h64, q⟩
  subst e
  obtain ⟨u, e, ru⟩ := Vals.one r
  subst e
  cases ru
  obtain ⟨its, rv, p, hz⟩ := I.list hq
  have eits := refs_of rv
  subst eits
  have hlen := ht.1
  by_cases h0 : ts.length = 0
  · have e1 : qs = [] := List.length_eq_zero_iff.mp (by omega)
    subst e1
    have e2 : ts = [] := List.length_eq_zero_iff.mp h0
    subst e2
    refine call_sorted pins s σ H [V.ref a] [Value.ref a] Q I (.cons rfl .nil) ⟨a, [], rfl, hq, by decide, fun l ns' hl hp _ => ?_⟩
    have : ns' = [] := List.Perm.eq_nil hp
    subst this
    exact q l [] [] hl (List.Perm.refl _) (fun i j x y _ h => by simp at h) ⟨rfl, fun i q t h => by simp at h⟩
  by_cases h1 : ts.length = 1
  · obtain ⟨q0, e1⟩ : ∃ q0, qs = [q0] := List.length_eq_one_iff.mp (by omega)
    subst e1
    refine sorted_one (v := .ref q0) p.isList ?_
    obtain ⟨e, he⟩ := sortedAll_at s.heap [.ref q0] #[.ref q0]
    refine ⟨.ref (s.heap.objs.size + 1), _, I.laid (a := s.heap.objs.size + 1) (o := .lst [.ref q0]) (t' := s.toks) (fun b o e => sortedAll_old e) (Nat.le_succ _) ⟨?_, [.ref q0], e, .cons rfl .nil, he⟩, rfl, q _ [q0] ts (I.hok.fresh (Nat.le_succ _)) (List.Perm.refl _) (fun i j x y hij h1' h2' => ?_) ht⟩
    · show 1 ≤ sizeLine
      decide
    · have := (List.getElem?_eq_some_iff.mp h2').1
      omega
  have h2 : 2 ≤ ts.length := by omega
  obtain ⟨m, F⟩ := I.fr
  have tri0 : ∀ (i : Nat) v x, (qs.map Value.ref)[i]? = some v → ts[i]? = some x → Tri s.heap v x := fun i v x e1 e2 => by
    rw [List.getElem?_map] at e1
    cases e3 : qs[i]? with
    | none => rw [e3] at e1; cases e1
    | some q0 =>
      rw [e3] at e1
      cases e1
      obtain ⟨jt, rj, tp, _⟩ := I.tuple (ht.2 i q0 x e3 e2)
      obtain ⟨o, ho, hc, n, hd⟩ := tp
      cases rj with
      | cons x1 r1 => cases r1 with
        | cons x2 r2 => cases r2 with
          | cons x3 r3 =>
            cases r3
            obtain ⟨t1, rfl⟩ := x1
            obtain ⟨t2, rfl⟩ := x2
            obtain ⟨t3, rfl⟩ := x3
            exact ⟨q0, o, n, t1, t2, t3, rfl, ho, hc, hd⟩
  have keepN : ∀ {h' : Heap} {m' : Str → Option Value}, Fr X.base X.env.locals h' m' → (∀ p ∈ allNews X.base s.heap X.env.locals, h'.get? p.1 = some p.2) → ∀ b o, b ≠ X.env.locals → s.heap.get? b = some o → h'.get? b = some o := fun {h' m'} F' N' b o hb e => by
    cases g : X.base.get? b with
    | some u =>
      have := I.bk b u g
      rw [e] at this
      cases this
      exact F'.keep b _ g
    | none => exact N' (b, o) (mem_allNews hb g e)
  have triK : ∀ {h' : Heap}, (∀ b o, b ≠ X.env.locals → s.heap.get? b = some o → h'.get? b = some o) → ∀ (i : Nat) v x, (qs.map Value.ref)[i]? = some v → ts[i]? = some x → Tri h' v x := fun {h'} kp i v x e1 e2 => by
    obtain ⟨q0, o, n, t1, t2, t3, rfl, ho, hc, hd⟩ := tri0 i v x e1 e2
    refine ⟨q0, o, n, t1, t2, t3, rfl, kp q0 o (fun z => ?_) ho, hc, hd⟩
    obtain ⟨m0, ⟨oL, es, ep, hoL, hdL, _⟩, _⟩ := I.loc
    rw [z, hoL] at ho
    cases ho
    rw [hdL] at hd
    cases hd
  refine kat_sorted (vs := qs.map Value.ref) F (news_all (g := X.base) (h := s.heap) (L := X.env.locals)) p.isList (by rw [List.length_map]; omega) (by rw [List.length_map]; omega) fun D e1 h' F' N' hD => ?_
  have kp' := keepN F' fun p hp => (N' p (.tail _ hp)).1
  have tri' := triK kp'
  obtain ⟨fs, kt, fl, fi⟩ := tri_firsts (h := h') (vs := qs.map Value.ref) (ts := ts) (by rw [List.length_map]; exact hlen) tri'
  refine kat_kind (s := { s with heap := h' }) (T := .type "int") kt (by rw [fl, List.length_map]; omega) (fun f hf => ?_) rfl ?_
  · obtain ⟨i, t, rfl⟩ := fi f hf
    exact Looks.of_pure rfl
  have eint : (Value.type "int" != Value.type "tuple") = true := by decide
  rw [eint]
  have hn : (qs.map Value.ref).length = ts.length := by rw [List.length_map]; exact hlen
  have at_ : ∀ i, i < ts.length → (qs.map Value.ref)[i]? = some ((qs.map Value.ref).getD i Value.none) ∧ ts[i]? = some (ts.getD i (0, 0, 0)) := fun i hi => by
    constructor
    · rw [List.getD_eq_getElem?_getD, List.getElem?_eq_getElem (by omega)]; rfl
    · rw [List.getD_eq_getElem?_getD, List.getElem?_eq_getElem hi]; rfl
  refine sort_ok (n := (qs.map Value.ref).length) (r := fun i => rank3 ts (ts.getD i (0, 0, 0))) (fun i j C hi hj k => ?_) (by omega) fun pp hp hu => ?_
  · rw [hn] at hi hj
    unfold kas_ask
    refine tri_lt (x := ts.getD i (0, 0, 0)) (y := ts.getD j (0, 0, 0)) (tri' i _ _ (at_ i hi).1 (at_ i hi).2) (tri' j _ _ (at_ j hj).1 (at_ j hj).2) ?_
    rw [← rank3_lt (ts := ts) (List.mem_of_getElem? (at_ i hi).2)]
    exact k
  have hDn : s.heap.get? D = none := by
    cases g : s.heap.get? D with
    | none => rfl
    | some o =>
      have hx := N' (D, seqObj "list" #[] e1) (.head _)
      have := hD (D, o) (mem_allNews hx.2.1 hx.2.2 g)
      exact absurd this (Nat.lt_irrefl _)
  have hHD : H D = none := by
    cases g : H D with
    | none => rfl
    | some o =>
      obtain ⟨ob, hob⟩ := (I.hok D o g).there
      rw [hDn] at hob
      cases hob
  have hpl : pp.toList.Perm (List.range ts.length) := by
    have := hp.toList
    rw [hn] at this
    simpa using this
  refine KasFin.intro F' N' (UpdF.head fun p hp => Nat.ne_of_lt (hD p hp)) fun h2' c F2 N2 => ?_
  have kp2 := keepN F2 fun p hp => (N2 p (.tail _ hp)).1
  have hgD := (N2 _ (.head _)).1
  have eout : (pp.toList.map fun i => (qs.map Value.ref).getD i Value.none) = (pp.toList.map fun i => qs.getD i 0).map Value.ref := by
    rw [List.map_map]
    refine List.map_congr_left fun i hi => ?_
    have hil : i < qs.length := by
      have := (hpl.mem_iff).mp hi
      rw [List.mem_range] at this
      omega
    show (qs.map Value.ref).getD i Value.none = Value.ref (qs.getD i 0)
    rw [List.getD_eq_getElem?_getD, List.getD_eq_getElem?_getD, List.getElem?_map, List.getElem?_eq_getElem hil]
    rfl
  rw [eout] at hgD
  have hplen : pp.toList.length = ts.length := by rw [hpl.length_eq, List.length_range]
  have neD : ∀ b o, s.heap.get? b = some o → b ≠ D := fun b o e z => by rw [z, hDn] at e; cases e
  have neH : ∀ b o, H b = some o → b ≠ D := fun b o e => ne_of_none e hHD
  have neL : ∀ b o, H b = some o → b ≠ X.env.locals := fun b o e => ne_of_none e I.free
  refine ⟨.ref D, upd H D (.lst ((pp.toList.map fun i => qs.getD i 0).map V.ref)), ?_, rfl, q D (pp.toList.map fun i => qs.getD i 0) (pp.toList.map fun i => ts.getD i (0, 0, 0)) hHD ?_ ?_ ?_⟩
  · show Inv X pins σ _ { s with heap := h2', gens := s.gens, drawn := s.drawn, toks := s.toks }
    refine I.step (s := s) (t' := s.toks) (g' := s.gens) (d' := s.drawn) (h' := h2') (ch := []) (fun _ z => nomatch z) (fun b o hb _ _ e _ => kp2 b o hb e) (fun b o hb _ _ e _ => ⟨o.slots, kp2 b o hb e⟩) (fun b o _ e n => by rw [upd_ne (neD b o e)]; exact n) (fun b o _ e => ?_)
      (fun b xs e => by rw [upd_ne (neH b _ e)]; exact e) (fun b o u e => by rw [upd_ne (neH b _ e)]; exact e) (fun b ps e => ⟨#[], by rw [upd_ne (neH b _ e), e]; simp⟩) (fun m' hm' => ?_) (fun b o e => ?_) I.bare
    · by_cases hb : b = X.env.locals
      · obtain ⟨o', _, _, ho', _⟩ := F2.ns
        exact ⟨o', by rw [hb]; exact ho'⟩
      · exact ⟨o, kp2 b o hb e⟩
    · have em : m' = m := by
        obtain ⟨o1, es1, ep1, g1, d1, k1, f1⟩ := hm'
        obtain ⟨o2, es2, ep2, g2, d2, k2, f2⟩ := F.ns
        rw [g1] at g2
        cases g2
        rw [d1] at d2
        cases d2
        funext x
        rw [← f1 x, ← f2 x]
      rw [em]
      exact F2.ns
    · by_cases hb : b = D
      · subst hb
        rw [upd_same] at e
        cases e
        refine ⟨?_, (pp.toList.map fun i => qs.getD i 0).map Value.ref, c, vals_refs _, hgD⟩
        rw [List.length_map, List.length_map, hplen]
        exact Nat.le_of_lt (small1000 (by omega))
      · rw [upd_ne hb] at e
        refine (I.hok b o e).stay (fun c u hc r => ?_) (fun c r => by rw [upd_ne (neH c _ r)]; exact r) fun c xs r => by rw [upd_ne (neH c _ r)]; exact r
        rcases hc with z | z
        · rw [z] at r ⊢
          exact kp2 b u (neL b o e) r
        · exact kp2 c u (neL c _ z) r
  · have := hpl.map fun i => ts.getD i (0, 0, 0)
    rw [map_getD] at this
    exact this
  · intro i j x y hij e1 e2
    rw [List.getElem?_map] at e1 e2
    cases g1 : pp.toList[i]? with
    | none => rw [g1] at e1; cases e1
    | some a1 =>
      cases g2 : pp.toList[j]? with
      | none => rw [g2] at e2; cases e2
      | some a2 =>
        rw [g1] at e1
        rw [g2] at e2
        cases e1
        cases e2
        have hj := (List.getElem?_eq_some_iff.mp g2).1
        have z := hu i j hij (by omega)
        have z : rank3 ts (ts.getD (pp.getD i 0) (0, 0, 0)) ≤ rank3 ts (ts.getD (pp.getD j 0) (0, 0, 0)) := z
        show lt3 (ts.getD a2 (0, 0, 0)) (ts.getD a1 (0, 0, 0)) = false
        have k1 : pp.getD i 0 = a1 := by rw [Array.getD_eq_getD_getElem?, ← Array.getElem?_toList, g1]; rfl
        have k2 : pp.getD j 0 = a2 := by rw [Array.getD_eq_getD_getElem?, ← Array.getElem?_toList, g2]; rfl
        rw [k1, k2] at z
        have m2 : a2 < ts.length := by
          have := (hpl.mem_iff).mp (List.mem_of_getElem? g2)
          rwa [List.mem_range] at this
        rw [← rank3_lt (ts := ts) (List.mem_of_getElem? (at_ a2 m2).2)]
        exact decide_eq_false (by omega)
  · refine ⟨by rw [List.length_map, List.length_map], fun i q0 t0 e1 e2 => ?_⟩
    rw [List.getElem?_map] at e1 e2
    cases g1 : pp.toList[i]? with
    | none => rw [g1] at e1; cases e1
    | some a1 =>
      rw [g1] at e1 e2
      cases e1
      cases e2
      have m1 : a1 < ts.length := by
        have := (hpl.mem_iff).mp (List.mem_of_getElem? g1)
        rwa [List.mem_range] at this
      refine ht.2 a1 _ _ ?_ (at_ a1 m1).2
      show qs[a1]? = some (qs.getD a1 0)
      rw [List.getD_eq_getElem?_getD, List.getElem?_eq_getElem (by omega)]
      rfl
end
end L2

set_option Elab.async false
set_option linter.all false
set_option maxRecDepth 100000
/-! EXTENSION 22: the items of a dict whose keys are tuples -/
namespace L2
open PySem PySem.W PySem.Spec PyProof.Rows
section
variable {X : Cx} {pins : List (Addr × Obj)} {σ : St} {H : Hp} {s : Shared}
/-- a thing that is no more walked may be written again -/
theorem Inv.thaw {d : Addr} {o : Obj} {u : HO} (I : Inv X pins σ H s) (hd : H d = some (.frz o u)) (h0 : ∀ o' u', X.H₀ d ≠ some (.frz o' u')) : Inv X pins σ (upd H d u) s := by
  have ne : ∀ b v, H b = some v → (∀ o' u', v ≠ .frz o' u') → b ≠ d := fun b v e hv z => by
    rw [z, hd] at e
    cases e
    exact hv _ _ rfl
  have non : ∀ b, H b = none → (upd H d u) b = none := fun b e => by
    rw [upd_ne (fun z => by rw [z, hd] at e; cases e)]
    exact e
  have ho : ∀ b y, H b = some (.own y) → (upd H d u) b = some (.own y) := fun b y e => by rw [upd_ne (ne b _ e (by intro _ _ z; cases z))]; exact e
  have ht : ∀ b xs, H b = some (.tup xs) → (upd H d u) b = some (.tup xs) := fun b xs e => by rw [upd_ne (ne b _ e (by intro _ _ z; cases z))]; exact e
  refine ⟨I.ok, I.os, I.bare, ⟨I.base.keep, I.base.slot, fun b o' e n hx => non b (I.base.free b o' e n hx), I.base.there, fun b xs e => ht b xs (I.base.tups b xs e), fun b o' u' e => ?_, fun b ps e => ?_⟩, I.loc, I.cell, non _ I.free, fun x c e => non c (I.freeC x c e), fun p hp => ?_, fun b v e => ?_, I.len⟩
  · have e1 := I.base.frzs b o' u' e
    rw [upd_ne (fun z => h0 o' u' (by rw [← z]; exact e))]
    exact e1
  · obtain ⟨more, e1⟩ := I.base.tbls b ps e
    exact ⟨more, by rw [upd_ne (ne b _ e1 (by intro _ _ z; cases z))]; exact e1⟩
  · obtain ⟨a, b, c⟩ := I.pin p hp
    exact ⟨a, non _ b, c⟩
  · by_cases hb : b = d
    · subst hb
      rw [upd_same] at e
      cases e
      obtain ⟨_, q⟩ := I.hok b _ hd
      exact q.stay (fun c v _ r => r) (fun c r => ho c _ r) ht
    · rw [upd_ne hb] at e
      exact (I.hok b v e).stay (fun c v _ r => r) (fun c r => ho c _ r) ht
def tThaw (t : TE) : TE := fun σ H Q => ∃ d kvs, H d = some (.dT kvs) ∧ t σ H fun v H1 => ∃ o, H1 d = some (.frz o (.dT kvs)) ∧ Q v (upd H1 d (.dT kvs))
theorem pe_thaw {e : Expr} {t : TE} (h : PE X e t) : PE X e (tThaw t) := by
  intro pins s σ H Q I ⟨d, kvs, hd, q⟩
  refine thn (h pins s σ H _ I q) fun v s1 ⟨x, H1, I1, r1, o, e1, q1⟩ => ⟨x, _, I1.thaw e1 (fun o' u' z => ?_), r1, q1⟩
  have := I.base.frzs d o' u' z
  rw [hd] at this
  cases this
end
/-! ### the machine's own steps, for any dict -/
section
variable {prog : Program} {w : World} {A : Around} {E : Value → Shared → Prop} {s : Shared} {d v it : Addr} {od : Obj} {es : Array DictEntry} {ep : Nat}
theorem items_view {Q : Value → Shared → Prop} (lo : (d == sysModules) = false) (h1 : s.heap.get? d = some od) (h2 : od.ExactDict) (h3 : od.data = .dict es ep)
    (k : Q (.ref s.heap.objs.size) { s with heap := s.heap.push { cls := .type "dict_items", data := .fields #[.ref d] } }) : wpAny (model prog w) A (call (.builtin "dict.items") [.ref d]) Q E s := by
  have ty : s.TypeIs (.ref d) "dict" := ⟨od, h1, h2.1⟩
  refine wpAny_call_entry F.slot_dict_items ty F.entry_dict_items ?_ (F.args_dict_items_1 _)
  unfold Builtin.«dict.items» Builtin.Dict.noArgs Builtin.Dict.showsAll
  refine wpAny_bind (wpAny_bind (wpAny_notOrdered_dict ty (wpAny_pure ?_)))
  rw [if_neg (by rw [lo]; exact Bool.false_ne_true)]
  exact wpAny_bind (wpAny_pure (wpAny_bind (wpAny_newObj_type (wpAny_pure ⟨_, rfl, k⟩))))
theorem items_iter {Q : Value → Shared → Prop} (hv : s.heap.IsItemsView v d) (h1 : s.heap.get? d = some od) (h3 : od.data = .dict es ep)
    (k : Q (.ref s.heap.objs.size) { s with heap := s.heap.push { cls := .type "dict_itemiterator", data := .fields #[.none, .bool false, .ref d, .int 0 0, .int es.size 0, .int ep 0, .none, .none] } }) : wpAny (model prog w) A (pyIter (.ref v)) Q E s := by
  obtain ⟨vo, g1, g2, g3⟩ := id hv
  have own : Builtin.Dict_items.ownsTuple "dict_itemiterator" = true := by decide
  refine wpAny_pyIter_slot hv.typeIs F.slot_dict_items_iter (wpAny_call_entry F.slot_dict_items_iter hv.typeIs F.entry_dict_items_iter ?_ (F.args_dict_items_iter_1 _))
  unfold Builtin.«dict_items.__iter__» Builtin.Dict_items.dictOf Builtin.Dict_items.newIterator
  refine wpAny_bind (wpAny_pure (wpAny_bind (wpAny_bind (wpAny_field g1 g3 (x := .ref d) rfl (wpAny_pure (wpAny_bind (wpAny_bind (wpAny_dictEntries h1 h3 (wpAny_bind (wpAny_dictEpoch h1 h3 ?_))))))))))
  simp only [own, if_true]
  refine wpAny_newObj_type (wpAny_pure ⟨_, rfl, "dict_itemiterator", _, ⟨_, Heap.get?_push_size _ rfl, rfl⟩, F.slot_dict_itemiterator_next.lookup, ?_⟩) ?_
  · simpa [rawInt, Builtin.Dict_items.ownedTupleFields] using k
  · simp [sizeOk, Builtin.Dict_items.ownedTupleFields, sizeLine_eq]
/-- the next pair, a new tuple -/
theorem items_next {i : Nat} {en : DictEntry} {ok ov : Value} {Q : Option Value → Shared → Prop} (hi : IsItemIter s.heap it d i es.size ep ok ov) (h1 : s.heap.get? d = some od) (h3 : od.data = .dict es ep) (he : es[i]? = some en)
    (k : ∀ h', IsItemIterOut h' it d (i + 1) es.size ep en.key en.val s.heap.objs.size → h'.get? s.heap.objs.size = some { cls := .type "tuple", data := .seq #[en.key, en.val] } → h'.objs.size = s.heap.objs.size + 1 →
      (∀ b o, b ≠ it → s.heap.get? b = some o → h'.get? b = some o) → Q (some (.ref s.heap.objs.size)) { s with heap := h' }) : wpAny (model prog w) A (pyNext (.ref it)) Q E s := by
  obtain ⟨h, g, dr, tk, os⟩ := s
  have ty : Shared.TypeIs ⟨h, g, dr, tk, os⟩ (.ref it) "dict_itemiterator" := ⟨_, hi, rfl⟩
  have own : Builtin.Dict_items.ownsTuple "dict_itemiterator" = true := by decide
  obtain ⟨hlt, hen⟩ := Array.getElem?_eq_some_iff.mp he
  unfold pyNext
  refine wpAny_bind (wpAny_attempt (wpAny_callSpecial?_slot (name := Str.ofString "__next__") ty F.slot_dict_itemiterator_next (wpAny_call_entry F.slot_dict_itemiterator_next ty F.entry_dict_itemiterator_next ?_ (F.args_dict_itemiterator_next_1 _))))
  refine wpAny_bind (wpAny_pure (wpAny_bind (wpAny_bind (wpAny_bind (wpAny_typeNameOfWhole_itemiter ty (wpAny_pure (wpAny_bind (wpAny_fieldsOf hi rfl ?_))))))))
  simp only [own, if_true]
  have nn : ¬ (Value.ref d == Value.none) = true := Bool.false_ne_true
  have ne1 : ¬ (i : Int) < 0 := by omega
  show wpAny (model prog w) A.in1 (if (Value.ref d == Value.none) = true then _ else _) _ _ _
  rw [if_neg nn]
  refine wpAny_bind (wpAny_pure (wpAny_bind (wpAny_dictEntries h1 h3 ?_)))
  rw [if_neg (by simp)]
  refine wpAny_bind (wpAny_pure (wpAny_bind (wpAny_dictEpoch h1 h3 ?_)))
  rw [if_neg (by simp)]
  refine wpAny_pure ?_
  simp only [ne1, if_false, Int.toNat_natCast, he]
  refine wpAny_bind (wpAny_bind (wpAny_typeNameOfWhole_itemiter ty (wpAny_pure (wpAny_bind (wpAny_isOneOf_itemiter ty ?_)))))
  have t0 : (rawInt ((i : Int) + 1)) = Value.int ((i + 1 : Nat) : Int) 0 := by
    show Value.int ((i : Int) + 1) 0 = _
    rw [show ((i + 1 : Nat) : Int) = (i : Int) + 1 by omega]
  show wpAny _ _ (setField (.ref it) 3 (rawInt ((i : Int) + 1)) >>= _) _ _ ⟨h, g, dr, tk, os⟩
  rw [t0]
  refine wpAny_bind (wpAny_setField_rec hi (by simp) fun h4 g4 sb4 => wpAny_bind (wpAny_holding ?_))
  have g4 : IsItemIter h4 it d (i + 1) es.size ep ok ov := g4
  have sb4 : Heap.SameBut it h h4 := sb4
  have ty4 : Shared.TypeIs ⟨h4, g, dr, tk, os⟩ (.ref it) "dict_itemiterator" := ⟨_, g4, rfl⟩
  have z4 : h4.objs.size = h.objs.size := sb4.1
  have ilt : it < h.objs.size := Heap.lt_size hi
  refine wpAny_bind (wpAny_isOneOf_itemiter ty4 (wpAny_bind (wpAny_isOneOf_itemiter ty4 ?_)))
  show wpAny _ _ (Builtin.Dict_items.pairFromOwner (.ref it) 6 en.key en.val) _ _ ⟨h4, g, dr, tk, os⟩
  unfold Builtin.Dict_items.pairFromOwner
  refine wpAny_bind (wpAny_newTuple ?_)
  obtain ⟨h5, e5⟩ : ∃ h5, h4.push { cls := .type "tuple", data := .seq #[en.key, en.val] } = h5 := ⟨_, rfl⟩
  have g5 : IsItemIter h5 it d (i + 1) es.size ep ok ov := e5 ▸ Heap.get?_push_of_some _ g4
  have tu5 : h5.get? h.objs.size = some { cls := .type "tuple", data := .seq #[en.key, en.val] } := by
    rw [← e5, ← z4]
    exact Heap.get?_push_size _ rfl
  have z5 : h5.objs.size = h.objs.size + 1 := by rw [← e5, Heap.size_push, z4]
  have k5 : ∀ b o, b ≠ it → h.get? b = some o → h5.get? b = some o := fun b o hb q => e5 ▸ Heap.get?_push_of_some _ (sb4.extBut b o hb q)
  show wpAny _ _ (Builtin.Dict_items.ownedTupleIsFree (.ref it) >>= _) _ _ ⟨h4.push { cls := .type "tuple", data := .seq #[en.key, en.val] }, g, dr, tk, os⟩
  rw [e5, z4]
  unfold Builtin.Dict_items.ownedTupleIsFree
  refine wpAny_bind (wpAny_bind (wpAny_field g5 rfl (x := .none) rfl (wpAny_pure ?_)))
  simp only [if_true]
  refine wpAny_bind (wpAny_field g5 rfl (x := ok) rfl (wpAny_bind (wpAny_field g5 rfl (x := ov) rfl ?_)))
  refine wpAny_bind (wpAny_setField_rec g5 (by simp) fun h6 g6 sb6 => ?_)
  have g6 : IsItemIter h6 it d (i + 1) es.size ep en.key ov := g6
  refine wpAny_bind (wpAny_setField_rec g6 (by simp) fun h7 g7 sb7 => ?_)
  have g7 : IsItemIter h7 it d (i + 1) es.size ep en.key en.val := g7
  refine wpAny_bind (wpAny_setField_rec g7 (by simp) fun h8 g8 sb8 => ?_)
  have g8 : IsItemIterOut h8 it d (i + 1) es.size ep en.key en.val h.objs.size := g8
  refine wpAny_bind (wpAny_setField_rec g8 (by simp) fun h9 g9 sb9 => ?_)
  have g9 : IsItemIterOut h9 it d (i + 1) es.size ep en.key en.val h.objs.size := g9
  have s6 : Heap.SameBut it h5 h6 := sb6
  have s7 : Heap.SameBut it h6 h7 := sb7
  have s8 : Heap.SameBut it h7 h8 := sb8
  have s9 : Heap.SameBut it h8 h9 := sb9
  have k9 : ∀ b o, b ≠ it → h5.get? b = some o → h9.get? b = some o := fun b o hb q => s9.extBut b o hb (s8.extBut b o hb (s7.extBut b o hb (s6.extBut b o hb q)))
  refine wpAny_bind (wpAny_letGo (wpAny_pure (wpAny_pure ⟨_, rfl, wpAny_pure (k h9 g9 (k9 _ _ (Nat.ne_of_gt ilt) tu5) ?_ fun b o hb q => k9 b o hb (k5 b o hb q))⟩)))
  show h9.objs.size = h.objs.size + 1
  rw [s9.1, s8.1, s7.1, s6.1, z5]
theorem items_end {i : Nat} {ok ov : Value} {Q : Option Value → Shared → Prop} (hh : A.handled = none) (hi : IsItemIter s.heap it d i es.size ep ok ov) (h1 : s.heap.get? d = some od) (h3 : od.data = .dict es ep) (he : es.size ≤ i)
    (k : ∀ h', Heap.ExtBut it s.heap h' → Q none { s with heap := h' }) : wpAny (model prog w) A (pyNext (.ref it)) Q E s := by
  have ty : s.TypeIs (.ref it) "dict_itemiterator" := ⟨_, hi, rfl⟩
  have own : Builtin.Dict_items.ownsTuple "dict_itemiterator" = true := by decide
  have nn : ¬ (Value.ref d == Value.none) = true := Bool.false_ne_true
  have ne1 : ¬ (i : Int) < 0 := by omega
  unfold pyNext
  refine wpAny_bind (wpAny_attempt (wpAny_callSpecial?_slot (name := Str.ofString "__next__") ty F.slot_dict_itemiterator_next (wpAny_call_entry F.slot_dict_itemiterator_next ty F.entry_dict_itemiterator_next ?_ (F.args_dict_itemiterator_next_1 _))))
  refine wpAny_bind (wpAny_pure (wpAny_bind (wpAny_bind (wpAny_bind (wpAny_typeNameOfWhole_itemiter ty (wpAny_pure (wpAny_bind (wpAny_fieldsOf hi rfl ?_))))))))
  simp only [own, if_true]
  show wpAny (model prog w) A.in1 (if (Value.ref d == Value.none) = true then _ else _) _ _ _
  rw [if_neg nn]
  refine wpAny_bind (wpAny_pure (wpAny_bind (wpAny_dictEntries h1 h3 ?_)))
  rw [if_neg (by simp)]
  refine wpAny_bind (wpAny_pure (wpAny_bind (wpAny_dictEpoch h1 h3 ?_)))
  rw [if_neg (by simp)]
  refine wpAny_pure ?_
  simp only [ne1, if_false, Int.toNat_natCast, Array.getElem?_eq_none he]
  refine wpAny_bind (wpAny_bind (wpAny_typeNameOfWhole_itemiter ty (wpAny_pure ?_)))
  show wpAny _ _ (setField (.ref it) 2 .none >>= _) _ _ s
  refine wpAny_bind (wpAny_setField hi rfl (by simp) ?_)
  unfold newExc newTuple raiseNew
  refine wpAny_bind (wpAny_bind (wpAny_newObj_type (wpAny_bind (m := firstArgMember _ _) (wpAny_of_eq (a := Value.none) rfl (wpAny_newObj_type (wpAny_bind (wpAny_handled ?_)) (by size_fits)))) (by size_fits)))
  rw [show A.in1.handled = none from hh]
  refine wpAny_bind (wpAny_pure (wpAny_throw ?_))
  refine wpAny_bind ?_
  refine wpAny_isInstance (T := "StopIteration") (b := true) ⟨_, Heap.get?_push_size _ rfl, rfl⟩ isSubtype_stop ?_
  have up := (Heap.SameBut.update s.heap it (Obj.mapFields fun x => x.setIfInBounds 2 Value.none)).extBut
  exact wpAny_pure (k _ ((up.push _).push _))
end
end L2

set_option Elab.async false
set_option linter.all false
set_option maxRecDepth 100000
/-! EXTENSION 23: for k, v in d.items() -/
namespace L2
open PySem PySem.W PySem.Spec PyProof.Rows
def ViewO (v d : Addr) : HO := .ext fun h => h.IsItemsView v d
section
variable {X : Cx}
def rItems : V → List V → Hp → VK → Prop := fun x vs H Q => ∃ d kvs, x = .ref d ∧ vs = [] ∧ H d = some (.dT kvs) ∧ ∀ v, H v = none → Q (.ref v) (upd H v (ViewO v d))
theorem mt_items : MtR X "dict.items" rItems := by
  intro pins s σ H x vs v us Q I rx rv h
  obtain ⟨d, kvs, rfl, rfl, hd, q⟩ := h
  cases rx
  have hus := rv.zero
  subst hus
  obtain ⟨z, lo, xs, rel, o, es, ep, h1, h2, h3, _⟩ := (show ObjOk X.prog X.w H s.heap d (.dT kvs) from I.hok d _ hd)
  refine items_view lo h1 h2 h3 ⟨.ref s.heap.objs.size, _, I.laid (a := s.heap.objs.size) (o := ViewO s.heap.objs.size d) (t' := s.toks) (fun b o e => Heap.get?_push_of_some _ e) (Nat.le_refl _) ⟨⟨_, Heap.get?_push_size _ rfl, rfl, rfl⟩, ⟨_, Heap.get?_push_size _ rfl⟩, fun g1 g2 ⟨o', a1, a2, a3⟩ k => ⟨o', k _ a1, a2, a3⟩⟩, rfl, q _ (I.hok.fresh (Nat.le_refl _))⟩
/-- a pair of a key and its value, a new tuple at each turn -/
def Itx (d : Addr) (o : Obj) (kvs : List (List Key × V)) : It :=
  ⟨fun i H => H d = some (.frz o (.dT kvs)) ∧ i < kvs.length,
   fun i H x H' => ∃ p kb k v, H p = none ∧ x = .ref p ∧ H' = upd H p (.tup [.ref kb, v]) ∧ kvs[i]? = some (k, v) ∧ H kb = some (.tup (k.map kV)),
   fun i H => H d = some (.frz o (.dT kvs)) ∧ kvs.length ≤ i⟩
theorem paired_get {α β : Type} {F : α → β → Prop} : ∀ {l₁ : List α} {l₂ : List β}, Paired F l₁ l₂ → ∀ {i : Nat} {a : α}, l₁[i]? = some a → ∃ b, l₂[i]? = some b ∧ F a b
  | _, _, .cons h t, 0, a, e => by cases e; exact ⟨_, rfl, h⟩
  | _, _, .cons h t, i + 1, a, e => paired_get t (by simpa using e)
theorem turn_items {P : Program} {w : World} {K : PySem.W.Frag} {elts : List Expr} {x1} {pos : Pos} (d it : Addr) {o : Obj} {es : Array DictEntry} {ep : Nat} {kvs : List (List Key × V)} (ho : o.data = .dict es ep) :
    Turn P w K (.Tuple elts x1 pos) (Itx d o kvs) [it] it (fun i h => ∃ ok ov, IsItemIter h it d i es.size ep ok ov) where
  mem := by simp
  obj := fun i h ⟨ok, ov, st⟩ b hb => by
    have e : b = it := by simpa using hb
    subst e
    exact ⟨_, st, fun v z => by
      have z' : Data.fields _ = Data.cell v := z
      cases z'⟩
  keep := fun i h h' ⟨ok, ov, st⟩ k => ⟨ok, ov, k it (by simp) _ st⟩
  item := by
    intro X hP hw hK hc i pins s σ H E I hf ⟨ok, ov, st⟩ hg
    subst hP hw hK
    obtain ⟨e, hlt⟩ := hg
    obtain ⟨g1, z, lo, xs, rel, o', es', ep', g2, g3, g4, g5, g6⟩ := (show ObjOk X.prog X.w H s.heap d (.frz o (.dT kvs)) from I.hok d _ e)
    rw [g1] at g2; cases g2
    rw [ho] at g4; cases g4
    obtain ⟨f0, f1, f2, f3, f4, f5⟩ := hf it (by simp)
    obtain ⟨⟨k2, kb, u⟩, hx, hk1, hk2, hk3⟩ := paired_get rel (List.getElem?_eq_getElem hlt)
    have he : es[i]? = some (entryOfKey (tupleKind (mixKind X.prog X.w)) (k2, kb, u)) := by
      rw [← Array.getElem?_toList, g5, List.getElem?_map, hx]
      rfl
    refine items_next st g1 ho he fun h' io tu sz kp => ⟨_, rfl, wpAny_letOwnedTupleGo_items io fun hh e2 sb2 => ?_⟩
    have hfr : H s.heap.objs.size = none := I.hok.fresh (Nat.le_refl _)
    have lt : it < s.heap.objs.size := Heap.lt_size st
    have kp2 : ∀ b q, b ≠ it → s.heap.get? b = some q → hh.get? b = some q := fun b q hb r => (sb2.2 b hb).trans (kp b q hb r)
    have nit : ∀ b q, H b = some q → b ≠ it := fun b q r z => by rw [z, f0] at r; cases r
    have tu2 : hh.get? s.heap.objs.size = some { cls := .type "tuple", data := .seq #[.ref kb, u] } := (sb2.2 _ (Nat.ne_of_gt lt)).trans tu
    have I1 : Inv X pins σ (upd H s.heap.objs.size (.tup [.ref kb, kvs[i].2])) { s with heap := hh, toks := s.toks } := by
      refine I.step (g' := s.gens) (d' := s.drawn) (ch := [it]) (fun b hb => ?_) (fun b q _ _ hc r _ => kp2 b q (fun z => hc (by simp [z])) r) (fun b q _ _ hc r _ => ⟨q.slots, kp2 b q (fun z => hc (by simp [z])) r⟩)
        (fun b q _ r n => by rw [upd_ne (Nat.ne_of_lt (Heap.lt_size r))]; exact n) (fun b q hc r => ⟨q, kp2 b q (fun z => hc (by simp [z])) r⟩) (fun b ys r => by rw [upd_ne (ne_of_none r hfr)]; exact r) (fun b q y r => by rw [upd_ne (ne_of_none r hfr)]; exact r)
        (fun b ps r => ⟨#[], by rw [upd_ne (ne_of_none r hfr), r]; simp⟩) (fun m hm => ?_) (fun b q r => ?_) I.bare
      · have e : b = it := by simpa using hb
        subst e
        exact ⟨f3, f1, f4, f5⟩
      · obtain ⟨q, es2, ep2, hq, r⟩ := hm
        exact ⟨q, es2, ep2, kp2 _ q (Ne.symm f1) hq, r⟩
      · by_cases hb : b = s.heap.objs.size
        · subst hb
          rw [upd_same] at r
          cases r
          exact ⟨by show 2 ≤ sizeLine; decide, [.ref kb, u], .cons rfl (.cons hk3 .nil), ⟨_, tu2, rfl, _, rfl⟩⟩
        · rw [upd_ne hb] at r
          refine (I.hok b q r).stay (fun c y hc t => ?_) (fun c t => by rw [upd_ne (ne_of_none t hfr)]; exact t) fun c ys t => by rw [upd_ne (ne_of_none t hfr)]; exact t
          rcases hc with e | e
          · rw [e] at t ⊢; exact kp2 b y (nit b q r) t
          · exact kp2 c y (nit c _ e) t
    refine ⟨.ref s.heap.objs.size, _, I1, rfl, ⟨_, kb, kvs[i].1, kvs[i].2, hfr, rfl, rfl, List.getElem?_eq_getElem hlt, hk2⟩, ⟨_, _, e2⟩, fun b hb => ?_⟩
    have e : b = it := by simpa using hb
    subst e
    rw [upd_ne (Nat.ne_of_lt lt)]
    exact f0
  done := by
    intro X hP hw hK hc i pins s σ H E I hf ⟨ok, ov, st⟩ hg
    subst hP hw hK
    obtain ⟨e, hle⟩ := hg
    obtain ⟨g1, z, lo, xs, rel, o', es', ep', g2, g3, g4, g5, g6⟩ := (show ObjOk X.prog X.w H s.heap d (.frz o (.dT kvs)) from I.hok d _ e)
    rw [g1] at g2; cases g2
    rw [ho] at g4; cases g4
    obtain ⟨f0, f1, f2, f3, f4, f5⟩ := hf it (by simp)
    have hl : es.size = kvs.length := by
      have := congrArg List.length g5
      rw [List.length_map, ← Paired.length rel] at this
      simpa using this
    exact items_end (I.ok.hd hc) st g1 ho (by omega) fun h' eb => ⟨rfl, I.turned (t' := s.toks) (fun b o hb e => eb b o hb e) f0 f1 f3 f4 f5⟩
  self := fun _ _ _ _ _ ⟨_, _, st⟩ h => kcp_self st h
def iItems (td : TE) : TI := fun σ H R => td σ H fun x H1 => ∃ v d kvs, x = .ref v ∧ H1 v = some (ViewO v d) ∧ H1 d = some (.dT kvs) ∧ ∀ o, R (Itx d o kvs) (upd H1 d (.frz o (.dT kvs)))
theorem pi_items {l : Expr} {td : TE} {elts : List Expr} {x1} {tpos : Pos} (hl : PE X l td) : PI X (.Tuple elts x1 tpos) l (iItems td) := by
  intro pins s σ H R I h
  refine thn (hl pins s σ H _ I h) fun v s1 ⟨x, H1, I1, r1, q1⟩ => ?_
  obtain ⟨w', d, kvs, e, hv, hd, q⟩ := q1
  subst e
  cases r1
  obtain ⟨z, lo, xs, rel, o, es, ep, g1, g3, g4, g5⟩ := (show ObjOk X.prog X.w H1 s1.heap d (.dT kvs) from I1.hok d _ hd)
  obtain ⟨iv, _, _⟩ := (show ObjOk X.prog X.w H1 s1.heap w' (ViewO w' d) from I1.hok w' _ hv)
  have I2 : Inv X pins σ (upd H1 d (.frz o (.dT kvs))) s1 := I1.write (t' := s1.toks) (h' := s1.heap) (x := d) (e := d) (by rw [hd]; exact True.intro) (.inl rfl) (fun b u _ q => q) ⟨o, g1⟩ ⟨g1, z, lo, xs, Paired.mapP rel fun p q y => ⟨y.1, by rw [upd_ne (ne_of y.2.1 hd (by intro z; cases z))]; exact y.2.1, y.2.2⟩, o, es, ep, g1, g3, g4, g5⟩
  have hn : (upd H1 d (.frz o (.dT kvs))) s1.heap.objs.size = none := by
    rw [upd_ne (Ne.symm (Nat.ne_of_lt (Heap.lt_size g1)))]; exact I1.hok.fresh (Nat.le_refl _)
  refine items_iter iv g1 g4 ?_
  refine ⟨s1.heap.objs.size, [s1.heap.objs.size], _, _, _, rfl, I2.kept (t' := s1.toks) fun b o e => Heap.get?_push_of_some _ e, turn_items d _ g4, ⟨_, _, Heap.get?_push_size _ rfl⟩, fun b hb => ?_, q o⟩
  have e : b = s1.heap.objs.size := by simpa using hb
  subst e
  exact I2.fpOk (Nat.le_refl _) hn
theorem itx_go {d : Addr} {o : Obj} {kvs : List (List Key × V)} {H1 : Hp} (h : H1 d = some (.frz o (.dT kvs))) : ∀ i H, i < kvs.length → Same H1 H → (Itx d o kvs).go i H := fun i H hi s => ⟨s _ _ h, hi⟩
theorem itx_stop {d : Addr} {o : Obj} {kvs : List (List Key × V)} {H1 : Hp} (h : H1 d = some (.frz o (.dT kvs))) : ∀ H, Same H1 H → (Itx d o kvs).stop kvs.length H := fun H s => ⟨s _ _ h, Nat.le_refl _⟩
end
end L2

set_option Elab.async false
set_option linter.all false
set_option maxRecDepth 100000
namespace L2
theorem op_catTK {X : Cx} (K : PySem.W.Frag) (hK : X.K = K) : OpR X (PySem.binaryOp .Add) (rCatT K) := by
  subst hK
  exact op_catT
end L2
/-! notes -/
namespace TW
open PySem L2 PyProof.Rows
theorem sorted3_uniq {xs ys : List T3} (h : xs.Perm ys) (hx : Sorted3 xs) (hy : Sorted3 ys) : xs = ys := by
  have anti : ∀ a b : T3, lt3 a b = false → lt3 b a = false → a = b := fun a b h1 h2 => by
    have n1 : ¬ lt3 a b = true := by rw [h1]; exact Bool.false_ne_true
    have n2 : ¬ lt3 b a = true := by rw [h2]; exact Bool.false_ne_true
    rw [lt3_iff] at n1 n2
    obtain ⟨a1, a2, a3⟩ := a
    obtain ⟨b1, b2, b3⟩ := b
    have e1 : a1 = b1 := by simp at n1 n2; omega
    subst e1
    have e2 : a2 = b2 := by simp at n1 n2; omega
    subst e2
    have e3 : a3 = b3 := by simp at n1 n2; omega
    rw [e3]
  have px : ∀ {l : List T3}, Sorted3 l → l.Pairwise fun a b => lt3 b a = false := fun {l} hl => by
    rw [List.pairwise_iff_getElem]
    intro i j hi hj hij
    exact hl i j _ _ hij (List.getElem?_eq_getElem hi) (List.getElem?_eq_getElem hj)
  exact List.Perm.eq_of_pairwise (fun a b _ _ h1 h2 => anti a b h2 h1) (px hx) (px hy) h
/-- the dict's pairs of notes -/
def noteK (t : T3) : List Key × V := ([.inl t.1, .inl t.2.1], .int t.2.2)
abbrev keyOf (h c : Int) : List Key := [.inl h, .inl c]
def OneEach (ts : List T3) : Prop := (ts.map fun t => (t.1, t.2.1)).Nodup
def known3 (ts : List T3) (h c : Int) : Option Int := (ts.find? fun t => decide (t.1 = h ∧ t.2.1 = c)).map fun t => t.2.2
def put3 (ts : List T3) (h c r : Int) : List T3 := (ts.filter fun t => !decide (t.1 = h ∧ t.2.1 = c)) ++ [(h, c, r)]
theorem mem_known {ts : List T3} (n : OneEach ts) {h c r : Int} : known3 ts h c = some r ↔ (h, c, r) ∈ ts := by
  unfold known3
  constructor
  · intro e
    cases f : ts.find? fun t => decide (t.1 = h ∧ t.2.1 = c) with
    | none => rw [f] at e; cases e
    | some t =>
      rw [f] at e
      cases e
      have h1 := List.find?_some f
      have h2 := List.mem_of_find?_eq_some f
      have h1 : t.1 = h ∧ t.2.1 = c := by simpa using h1
      obtain ⟨t1, t2, t3⟩ := t
      obtain ⟨rfl, rfl⟩ := h1
      exact h2
  · intro e
    cases f : ts.find? fun t => decide (t.1 = h ∧ t.2.1 = c) with
    | none =>
      have := List.find?_eq_none.mp f _ e
      simp at this
    | some t =>
      have h1 := List.find?_some f
      have h2 := List.mem_of_find?_eq_some f
      have h1 : t.1 = h ∧ t.2.1 = c := by simpa using h1
      obtain ⟨i, hi⟩ := List.getElem?_of_mem e
      obtain ⟨j, hj⟩ := List.getElem?_of_mem h2
      have ei : (ts.map fun t => (t.1, t.2.1))[i]? = some (h, c) := by rw [List.getElem?_map, hi]; rfl
      have ej : (ts.map fun t => (t.1, t.2.1))[j]? = some (h, c) := by rw [List.getElem?_map, hj, ← h1.1, ← h1.2]; rfl
      have : i = j := (List.getElem?_inj (List.getElem?_eq_some_iff.mp ei).1 n).mp (ei.trans ej.symm)
      subst this
      rw [hi] at hj
      cases hj
      rfl
theorem put3_one {ts : List T3} (n : OneEach ts) {h c r : Int} : OneEach (put3 ts h c r) := by
  unfold OneEach put3
  rw [List.map_append, List.nodup_append]
  refine ⟨?_, by simp, fun x hx y hy => ?_⟩
  · exact List.Nodup.sublist ((List.filter_sublist).map _) n
  · obtain ⟨t, ht, rfl⟩ := List.mem_map.mp hx
    have h2 := (List.mem_filter.mp ht).2
    have e : y = (h, c) := by simpa using hy
    rw [e]
    intro z
    have z1 : t.1 = h ∧ t.2.1 = c := ⟨(Prod.mk.inj z).1, (Prod.mk.inj z).2⟩
    simp [z1] at h2
theorem noteK_key (t : T3) (h c : Int) : (noteK t).1 = keyOf h c ↔ t.1 = h ∧ t.2.1 = c := by
  unfold noteK keyOf
  constructor
  · intro e
    have e1 := (List.cons.inj e).1
    have e2 := (List.cons.inj (List.cons.inj e).2).1
    exact ⟨Sum.inl.inj e1, Sum.inl.inj e2⟩
  · rintro ⟨rfl, rfl⟩
    rfl
theorem valV_notes : ∀ (ts : List T3) (h c : Int), valV (ts.map noteK) (keyOf h c) = (known3 ts h c).map V.int
  | [], h, c => rfl
  | t :: ts, h, c => by
    rw [List.map_cons]
    by_cases e : t.1 = h ∧ t.2.1 = c
    · rw [valV_pos ((noteK_key t h c).mpr e)]
      unfold known3
      rw [List.find?_cons_of_pos (by simp [e])]
      rfl
    · rw [valV_neg (fun z => e ((noteK_key t h c).mp z)), valV_notes ts h c]
      unfold known3
      rw [List.find?_cons_of_neg (by rw [decide_eq_false e]; exact Bool.false_ne_true)]
def upd3 (h c r : Int) (t : T3) : T3 := if t.1 = h ∧ t.2.1 = c then (h, c, r) else t
theorem upd3_key (h c r : Int) (t : T3) : ((upd3 h c r t).1, (upd3 h c r t).2.1) = (t.1, t.2.1) := by
  unfold upd3
  split
  · rename_i e
    show (h, c) = (t.1, t.2.1)
    rw [e.1, e.2]
  · rfl
theorem upd3_perm {h c r : Int} : ∀ {ts : List T3}, OneEach ts → (∃ t ∈ ts, t.1 = h ∧ t.2.1 = c) → (ts.map (upd3 h c r)).Perm (put3 ts h c r)
  | [], _, ⟨_, h, _⟩ => by cases h
  | t :: ts, n, hx => by
    have n' : OneEach ts := (List.nodup_cons.mp n).2
    have nt := (List.nodup_cons.mp n).1
    unfold put3
    by_cases e : t.1 = h ∧ t.2.1 = c
    · have no : ∀ u ∈ ts, ¬ (u.1 = h ∧ u.2.1 = c) := fun u hu z => nt (List.mem_map.mpr ⟨u, hu, Prod.ext (z.1.trans e.1.symm) (z.2.trans e.2.symm)⟩)
      have e1 : ts.map (upd3 h c r) = ts := by
        refine (List.map_congr_left fun u hu => ?_).trans (List.map_id ts)
        unfold upd3
        rw [if_neg (no u hu)]
        rfl
      have e2 : ts.filter (fun u => !decide (u.1 = h ∧ u.2.1 = c)) = ts := List.filter_eq_self.mpr fun u hu => by rw [decide_eq_false (no u hu)]; rfl
      rw [List.map_cons, e1, List.filter_cons, if_neg (by simp [e]), e2]
      have e3 : upd3 h c r t = (h, c, r) := by unfold upd3; rw [if_pos e]
      rw [e3]
      exact (List.perm_append_comm (l₁ := [(h, c, r)]) (l₂ := ts))
    · have e3 : upd3 h c r t = t := by unfold upd3; rw [if_neg e]
      rw [List.map_cons, e3, List.filter_cons, if_pos (by rw [decide_eq_false e]; rfl)]
      refine List.Perm.cons t (upd3_perm n' ?_)
      obtain ⟨u, hu, z⟩ := hx
      rcases List.mem_cons.mp hu with rfl | hu
      · exact absurd z e
      · exact ⟨u, hu, z⟩
theorem put3_perm {xs ys : List T3} (hp : xs.Perm ys) (h c r : Int) : (put3 xs h c r).Perm (put3 ys h c r) := (hp.filter _).append_right _
theorem putK_notes {ts ks : List T3} {h c r : Int} (hp : ts.Perm ks) (n : OneEach ts) : ∃ ts', putK (ts.map noteK) (keyOf h c) (V.int r) = ts'.map noteK ∧ ts'.Perm (put3 ks h c r) ∧ OneEach ts' := by
  unfold putK
  by_cases a : ((ts.map noteK).any fun kv => decide (kv.1 = keyOf h c)) = true
  · rw [if_pos a]
    refine ⟨ts.map (upd3 h c r), ?_, ?_, ?_⟩
    · rw [List.map_map, List.map_map]
      refine List.map_congr_left fun t _ => ?_
      show (if (noteK t).1 = keyOf h c then ((noteK t).1, V.int r) else noteK t) = noteK (upd3 h c r t)
      unfold upd3
      by_cases e : t.1 = h ∧ t.2.1 = c
      · rw [if_pos ((noteK_key t h c).mpr e), if_pos e, (noteK_key t h c).mpr e]
        rfl
      · rw [if_neg (fun z => e ((noteK_key t h c).mp z)), if_neg e]
    · refine (upd3_perm n ?_).trans (put3_perm hp h c r)
      obtain ⟨kv, h1, h2⟩ := List.any_eq_true.mp a
      obtain ⟨t, ht, rfl⟩ := List.mem_map.mp h1
      exact ⟨t, ht, (noteK_key t h c).mp (of_decide_eq_true h2)⟩
    · unfold OneEach
      rw [List.map_map]
      have : ((fun t : T3 => (t.1, t.2.1)) ∘ upd3 h c r) = fun t : T3 => (t.1, t.2.1) := funext fun t => upd3_key h c r t
      rw [this]
      exact n
  · rw [if_neg a]
    have no : ∀ t ∈ ts, ¬ (t.1 = h ∧ t.2.1 = c) := fun t ht z => a (List.any_eq_true.mpr ⟨noteK t, List.mem_map.mpr ⟨t, ht, rfl⟩, decide_eq_true ((noteK_key t h c).mpr z)⟩)
    have e : put3 ts h c r = ts ++ [(h, c, r)] := by
      unfold put3
      rw [List.filter_eq_self.mpr fun u hu => by rw [decide_eq_false (no u hu)]; rfl]
    refine ⟨ts ++ [(h, c, r)], by rw [List.map_append]; rfl, e ▸ put3_perm hp h c r, e ▸ put3_one n⟩
theorem put3_len (ts : List T3) (h c r : Int) : (put3 ts h c r).length ≤ ts.length + 1 := by
  unfold put3
  rw [List.length_append]
  have := List.length_filter_le (fun t : T3 => !decide (t.1 = h ∧ t.2.1 = c)) ts
  show _ + 1 ≤ _
  omega
/-- a book at p, its dict at d -/
structure BookAt (C : Addr) (H : Hp) (p d : Addr) (ts : List T3) : Prop where
  ob : ∃ dx, H p = some (.ins C dx [("kept", .ref d)])
  di : H d = some (.dT (ts.map noteK))
theorem BookAt.mono {C : Addr} {H H' : Hp} {p d : Addr} {ts : List T3} (s : Same H H') (h : BookAt C H p d ts) : BookAt C H' p d ts := by
  obtain ⟨⟨dx, h1⟩, h2⟩ := h
  exact ⟨⟨dx, s _ _ h1⟩, s _ _ h2⟩
/-- the law's list of notes -/
def KeepAt (K : PySem.W.Frag) (H : Hp) (l : Addr) (ts : List T3) : Prop := ∃ qs : List Addr, H l = some (.lst (qs.map V.ref)) ∧ TrisAt K H qs ts
theorem KeepAt.mono {K : PySem.W.Frag} {H H' : Hp} {l : Addr} {ts : List T3} (s : Same H H') (h : KeepAt K H l ts) : KeepAt K H' l ts := by
  obtain ⟨qs, h1, h2⟩ := h
  exact ⟨qs, s _ _ h1, h2.mono s⟩
def NoTup (u : HO) : Prop := ∀ xs, u ≠ .tup xs ∧ ∀ o, u ≠ .frz o (.tup xs)
theorem nt_lst {ys : List V} : NoTup (.lst ys) := fun xs => ⟨fun e => (by cases e), fun o e => (by cases e)⟩
theorem nt_dT {kvs : List (List Key × V)} : NoTup (.dT kvs) := fun xs => ⟨fun e => (by cases e), fun o e => (by cases e)⟩
theorem nt_frz {o : Obj} {kvs : List (List Key × V)} : NoTup (.frz o (.dT kvs)) := fun xs => ⟨fun e => (by cases e), fun o e => (by cases e)⟩
theorem SqT.past {K : PySem.W.Frag} {H H' : Hp} {z a : Addr} {u : HO} {xs : List V} (hz : H z = some u) (nt : NoTup u) (keep : ∀ b v, H b = some v → b ≠ z → H' b = some v) (h : SqT K H a xs) : SqT K H' a xs := by
  rcases h with (h | ⟨o, h⟩) | h
  · exact .inl (.inl (keep _ _ h fun e => by subst e; rw [hz] at h; exact (nt xs).1 (Option.some.inj h)))
  · exact .inl (.inr ⟨o, keep _ _ h fun e => by subst e; rw [hz] at h; exact (nt xs).2 o (Option.some.inj h)⟩)
  · exact .inr h
theorem TrisAt.past {K : PySem.W.Frag} {H H' : Hp} {z : Addr} {u : HO} {qs : List Addr} {ts : List T3} (hz : H z = some u) (nt : NoTup u) (keep : ∀ b v, H b = some v → b ≠ z → H' b = some v) (h : TrisAt K H qs ts) : TrisAt K H' qs ts :=
  ⟨h.1, fun i q t a b => SqT.past hz nt keep (h.2 i q t a b)⟩
theorem upd_keep {H : Hp} {z : Addr} {o : HO} : ∀ b v, H b = some v → b ≠ z → (upd H z o) b = some v := fun b v e nb => by rw [upd_ne nb]; exact e
theorem TrisAt.snoc {K : PySem.W.Frag} {H : Hp} {qs : List Addr} {ts : List T3} {q : Addr} {t : T3} (h : TrisAt K H qs ts) (hq : SqT K H q (t3V t)) : TrisAt K H (qs ++ [q]) (ts ++ [t]) := by
  refine ⟨by rw [List.length_append, List.length_append, h.1]; rfl, fun i a u ha hu => ?_⟩
  by_cases z : i < qs.length
  · rw [List.getElem?_append_left z] at ha
    rw [List.getElem?_append_left (h.1 ▸ z)] at hu
    exact h.2 i a u ha hu
  · have e : i = qs.length := by
      have := (List.getElem?_eq_some_iff.mp ha).1
      rw [List.length_append] at this
      have : i < qs.length + 1 := this
      omega
    subst e
    rw [List.getElem?_concat_length] at ha
    rw [h.1, List.getElem?_concat_length] at hu
    cases ha
    cases hu
    exact hq
theorem TrisAt.nil {K : PySem.W.Frag} {H : Hp} : TrisAt K H [] [] := ⟨rfl, fun i q t hq => by cases hq⟩
def triD (t : T3) : PyData := .tuple [.int t.1, .int t.2.1, .int t.2.2]
theorem rep_tri {K : PySem.W.Frag} {H : Hp} {q : Addr} {t : T3} (h : SqT K H q (t3V t)) : Rep K H (triD t) (.ref q) := Rep.intsT (ns := [t.1, t.2.1, t.2.2]) h
theorem tri_lay (t : T3) : PyData.canLay0 (triD t) = true := ints_lay [t.1, t.2.1, t.2.2]
theorem tri_deep (t : T3) : PyData.depth (triD t) ≤ 1 := by
  show PyData.depthAll ([t.1, t.2.1, t.2.2].map .int) + 1 ≤ 1
  rw [ints_deep]
  decide
theorem tris_lay : ∀ ts : List T3, PyData.canLayAll0 (ts.map triD) = true
  | [] => rfl
  | t :: ts => by
    show (PyData.canLay0 (triD t) && PyData.canLayAll0 (ts.map triD)) = true
    rw [tris_lay ts, tri_lay t]; rfl
theorem tris_deep : ∀ ts : List T3, PyData.depthAll (ts.map triD) ≤ 1
  | [] => by show 0 ≤ 1; decide
  | t :: ts => by
    show max (PyData.depth (triD t)) (PyData.depthAll (ts.map triD)) ≤ 1
    exact Nat.max_le.mpr ⟨tri_deep t, tris_deep ts⟩
theorem rep_tris {K : PySem.W.Frag} {H : Hp} : ∀ {qs : List Addr} {ts : List T3}, TrisAt K H qs ts → RepAll K H (ts.map triD) (qs.map V.ref)
  | [], [], _ => rfl
  | [], _ :: _, h => by cases h.1
  | _ :: _, [], h => by cases h.1
  | q :: qs, t :: ts, h => ⟨.ref q, _, rfl, rep_tri (h.2 0 q t rfl rfl), rep_tris ⟨Nat.succ.inj h.1, fun i a u ha hu => h.2 (i + 1) a u (by simpa using ha) (by simpa using hu)⟩⟩
theorem rep_keep {K : PySem.W.Frag} {H : Hp} {l : Addr} {ts : List T3} (h : KeepAt K H l ts) : Rep K H (.list (ts.map triD)) (.ref l) := by
  obtain ⟨qs, h1, h2⟩ := h
  exact ⟨l, _, rfl, SqL.of h1, rep_tris h2⟩
/-! two books -/
theorem ne_obj {H : Hp} {a b : Addr} {u v : HO} (ha : H a = some u) (hb : H b = some v) (n : u ≠ v) : a ≠ b := fun e => by
  subst e
  rw [ha] at hb
  exact n (Option.some.inj hb)
end TW

set_option Elab.async false
set_option linter.all false
set_option maxRecDepth 100000
/-! EXTENSION 24: a walk over the keys of a dict whose keys are tuples -/
namespace L2
open PySem PySem.W PySem.Spec PyProof.Rows
section
variable {prog : Program} {w : World} {A : Around} {E : Value → Shared → Prop} {s : Shared} {d v it : Addr} {od : Obj} {es : Array DictEntry} {ep : Nat}
theorem keys_iter {Q : Value → Shared → Prop} (lo : (d == sysModules) = false) (h1 : s.heap.get? d = some od) (h2 : od.ExactDict) (h3 : od.data = .dict es ep)
    (k : Q (.ref s.heap.objs.size) { s with heap := s.heap.push { cls := .type "dict_keyiterator", data := .fields #[.ref d, .int 0 0, .int es.size 0, .int ep 0] } }) : wpAny (model prog w) A (pyIter (.ref d)) Q E s := by
  have ty : s.TypeIs (.ref d) "dict" := ⟨od, h1, h2.1⟩
  refine wpAny_pyIter_slot ty F.slot_dict_iter (wpAny_call_entry F.slot_dict_iter ty F.entry_dict_iter ?_ (F.args_dict_iter_1 _))
  unfold Builtin.«dict.__iter__» Builtin.Dict.dictSlotNone
  refine wpAny_bind (wpAny_bind (wpAny_notOrdered_dict ty ?_))
  show wpAny _ _ (pure (Value.ref d)) _ _ s
  refine wpAny_pure ?_
  show wpAny _ _ (Builtin.Dict.showsAll d >>= _) _ _ s
  unfold Builtin.Dict.showsAll
  rw [if_neg (by rw [lo]; exact Bool.false_ne_true)]
  refine wpAny_bind (wpAny_pure (wpAny_bind (wpAny_dictEntries h1 h3 (wpAny_bind (wpAny_dictEpoch h1 h3 ?_)))))
  refine wpAny_bind (wpAny_newObj_type (wpAny_pure ⟨_, rfl, "dict_keyiterator", _, ⟨_, Heap.get?_push_size _ rfl, rfl⟩, F.slot_dict_keyiterator_next.lookup, ?_⟩))
  simpa [rawInt] using k
theorem keys_next {i : Nat} {en : DictEntry} {Q : Option Value → Shared → Prop} (hi : s.heap.IsKeyIter it d i es.size ep) (h1 : s.heap.get? d = some od) (h3 : od.data = .dict es ep) (he : es[i]? = some en)
    (k : ∀ h', h'.IsKeyIter it d (i + 1) es.size ep → Heap.SameBut it s.heap h' → Q (some en.key) { s with heap := h' }) : wpAny (model prog w) A (pyNext (.ref it)) Q E s := by
  obtain ⟨o, ho, hc, hf⟩ := id hi
  have ty := hi.typeIs
  have own : Builtin.Dict_items.ownsTuple "dict_keyiterator" = false := by decide
  have nn : ¬ (Value.ref d == Value.none) = true := Bool.false_ne_true
  have ne1 : ¬ (i : Int) < 0 := by omega
  obtain ⟨hlt, hen⟩ := Array.getElem?_eq_some_iff.mp he
  unfold pyNext
  refine wpAny_bind (wpAny_attempt (wpAny_callSpecial?_slot (name := Str.ofString "__next__") ty F.slot_dict_keyiterator_next (wpAny_call_entry F.slot_dict_keyiterator_next ty F.entry_dict_keyiterator_next ?_ (F.args_dict_keyiterator_next_1 _))))
  refine wpAny_bind (wpAny_pure (wpAny_bind (wpAny_bind (wpAny_bind (wpAny_typeNameOfWhole_keyiter ty (wpAny_pure (wpAny_bind (wpAny_fieldsOf ho hf ?_))))))))
  simp only [own, Bool.false_eq_true, if_false]
  show wpAny (model prog w) A.in1 (if (Value.ref d == Value.none) = true then _ else _) _ _ s
  rw [if_neg nn]
  refine wpAny_bind (wpAny_pure (wpAny_bind (wpAny_dictEntries h1 h3 ?_)))
  rw [if_neg (by simp)]
  refine wpAny_bind (wpAny_pure (wpAny_bind (wpAny_dictEpoch h1 h3 ?_)))
  rw [if_neg (by simp)]
  refine wpAny_pure ?_
  simp only [ne1, if_false, Int.toNat_natCast, he]
  refine wpAny_bind (wpAny_bind (wpAny_typeNameOfWhole_keyiter ty (wpAny_pure (wpAny_bind (wpAny_isOneOf_keyiter ty ?_)))))
  show wpAny _ _ (setField (.ref it) 1 (rawInt ((i : Int) + 1)) >>= _) _ _ s
  refine wpAny_bind (wpAny_setField ho hf (by simp) ?_)
  have hi2 : (s.heap.update it (Obj.mapFields (·.setIfInBounds 1 (rawInt ((i : Int) + 1))))).IsKeyIter it d (i + 1) es.size ep :=
    ⟨_, Heap.get?_update_self _ ho (Obj.isFreed_of_fields (Obj.data_mapFields hf _)), (Obj.cls_mapFields ..).trans hc, by rw [Obj.data_mapFields hf]; simp [rawInt]⟩
  refine wpAny_bind (wpAny_holding ?_)
  refine wpAny_bind (wpAny_isOneOf_keyiter (s := { s with heap := s.heap.update it (Obj.mapFields (·.setIfInBounds 1 (rawInt ((i : Int) + 1)))) }) hi2.typeIs ?_)
  show wpAny _ _ (pure en.key) _ _ _
  exact wpAny_pure (wpAny_pure ⟨_, rfl, wpAny_pure (k _ hi2 (Heap.SameBut.update ..))⟩)
theorem keys_end {i : Nat} {Q : Option Value → Shared → Prop} (hh : A.handled = none) (hi : s.heap.IsKeyIter it d i es.size ep) (h1 : s.heap.get? d = some od) (h3 : od.data = .dict es ep) (he : es.size ≤ i)
    (k : ∀ h', Heap.ExtBut it s.heap h' → Q none { s with heap := h' }) : wpAny (model prog w) A (pyNext (.ref it)) Q E s := by
  obtain ⟨o, ho, hc, hf⟩ := id hi
  have ty := hi.typeIs
  have own : Builtin.Dict_items.ownsTuple "dict_keyiterator" = false := by decide
  have nn : ¬ (Value.ref d == Value.none) = true := Bool.false_ne_true
  have ne1 : ¬ (i : Int) < 0 := by omega
  unfold pyNext
  refine wpAny_bind (wpAny_attempt (wpAny_callSpecial?_slot (name := Str.ofString "__next__") ty F.slot_dict_keyiterator_next (wpAny_call_entry F.slot_dict_keyiterator_next ty F.entry_dict_keyiterator_next ?_ (F.args_dict_keyiterator_next_1 _))))
  refine wpAny_bind (wpAny_pure (wpAny_bind (wpAny_bind (wpAny_bind (wpAny_typeNameOfWhole_keyiter ty (wpAny_pure (wpAny_bind (wpAny_fieldsOf ho hf ?_))))))))
  simp only [own, Bool.false_eq_true, if_false]
  show wpAny (model prog w) A.in1 (if (Value.ref d == Value.none) = true then _ else _) _ _ s
  rw [if_neg nn]
  refine wpAny_bind (wpAny_pure (wpAny_bind (wpAny_dictEntries h1 h3 ?_)))
  rw [if_neg (by simp)]
  refine wpAny_bind (wpAny_pure (wpAny_bind (wpAny_dictEpoch h1 h3 ?_)))
  rw [if_neg (by simp)]
  refine wpAny_pure ?_
  simp only [ne1, if_false, Int.toNat_natCast, Array.getElem?_eq_none he]
  refine wpAny_bind (wpAny_bind (wpAny_typeNameOfWhole_keyiter ty (wpAny_pure ?_)))
  show wpAny _ _ (setField (.ref it) 0 .none >>= _) _ _ s
  refine wpAny_bind (wpAny_setField ho hf (by simp) ?_)
  unfold newExc newTuple raiseNew
  refine wpAny_bind (wpAny_bind (wpAny_newObj_type (wpAny_bind (m := firstArgMember _ _) (wpAny_of_eq (a := Value.none) rfl (wpAny_newObj_type (wpAny_bind (wpAny_handled ?_)) (by size_fits)))) (by size_fits)))
  rw [show A.in1.handled = none from hh]
  refine wpAny_bind (wpAny_pure (wpAny_throw ?_))
  refine wpAny_bind ?_
  refine wpAny_isInstance (T := "StopIteration") (b := true) ⟨_, Heap.get?_push_size _ rfl, rfl⟩ isSubtype_stop ?_
  have up := (Heap.SameBut.update s.heap it (Obj.mapFields fun x => x.setIfInBounds 0 Value.none)).extBut
  exact wpAny_pure (k _ ((up.push _).push _))
end
/-- a key at each turn, the tuple itself -/
def Ity (d : Addr) (o : Obj) (kvs : List (List Key × V)) : It :=
  ⟨fun i H => H d = some (.frz o (.dT kvs)) ∧ i < kvs.length,
   fun i H x H' => H' = H ∧ ∃ kb k v, x = .ref kb ∧ kvs[i]? = some (k, v) ∧ H kb = some (.tup (k.map kV)),
   fun i H => H d = some (.frz o (.dT kvs)) ∧ kvs.length ≤ i⟩
section
variable {X : Cx}
theorem turn_keysT {P : Program} {w : World} {K : PySem.W.Frag} {tg : Expr} (d it : Addr) {o : Obj} {es : Array DictEntry} {ep : Nat} {kvs : List (List Key × V)} (ho : o.data = .dict es ep) :
    Turn P w K tg (Ity d o kvs) [it] it (fun i h => h.IsKeyIter it d i es.size ep) where
  mem := by simp
  obj := fun i h st b hb => by
    have e : b = it := by simpa using hb
    subst e
    obtain ⟨q, e, c, dd⟩ := st
    exact ⟨q, e, fun v z => by rw [dd] at z; cases z⟩
  keep := fun i h h' st k => by
    obtain ⟨q, e, c, dd⟩ := st
    exact ⟨q, k it (by simp) _ e, c, dd⟩
  item := by
    intro X hP hw hK hc i pins s σ H E I hf st hg
    subst hP hw hK
    obtain ⟨e, hlt⟩ := hg
    obtain ⟨g1, z, lo, xs, rel, o', es', ep', g2, g3, g4, g5, g6⟩ := (show ObjOk X.prog X.w H s.heap d (.frz o (.dT kvs)) from I.hok d _ e)
    rw [g1] at g2; cases g2
    rw [ho] at g4; cases g4
    obtain ⟨f0, f1, f2, f3, f4, f5⟩ := hf it (by simp)
    obtain ⟨⟨k2, kb, u⟩, hx, hk1, hk2, hk3⟩ := paired_get rel (List.getElem?_eq_getElem hlt)
    have he : es[i]? = some (entryOfKey (tupleKind (mixKind X.prog X.w)) (k2, kb, u)) := by
      rw [← Array.getElem?_toList, g5, List.getElem?_map, hx]
      rfl
    refine keys_next st g1 ho he fun h' st' sb => ?_
    have I1 : Inv X pins σ H { s with heap := h' } := I.turned (t' := s.toks) (fun b q hb r => (sb.2 b hb).trans r) f0 f1 f3 f4 f5
    obtain ⟨q2, e2, c2, d2⟩ := id st'
    exact ⟨.ref kb, rfl, go_of (s := { s with heap := h' }) e2 c2 d2 (by decide) ⟨.ref kb, H, I1, rfl, ⟨rfl, kb, kvs[i].1, kvs[i].2, rfl, List.getElem?_eq_getElem hlt, hk2⟩, st', fun b hb => (hf b hb).1⟩⟩
  done := by
    intro X hP hw hK hc i pins s σ H E I hf st hg
    subst hP hw hK
    obtain ⟨e, hle⟩ := hg
    obtain ⟨g1, z, lo, xs, rel, o', es', ep', g2, g3, g4, g5, g6⟩ := (show ObjOk X.prog X.w H s.heap d (.frz o (.dT kvs)) from I.hok d _ e)
    rw [g1] at g2; cases g2
    rw [ho] at g4; cases g4
    obtain ⟨f0, f1, f2, f3, f4, f5⟩ := hf it (by simp)
    have hl : es.size = kvs.length := by
      have := congrArg List.length g5
      rw [List.length_map, ← Paired.length rel] at this
      simpa using this
    exact keys_end (I.ok.hd hc) st g1 ho (by omega) fun h' eb => ⟨rfl, I.turned (t' := s.toks) (fun b q hb r => eb b q hb r) f0 f1 f3 f4 f5⟩
  self := fun _ _ _ _ _ st h => wpAny_pyIter_keyiter st h
def iKeysT (td : TE) : TI := fun σ H R => td σ H fun x H1 => ∃ d kvs, x = .ref d ∧ H1 d = some (.dT kvs) ∧ ∀ o, R (Ity d o kvs) (upd H1 d (.frz o (.dT kvs)))
theorem pi_keysT {l tg : Expr} {td : TE} (hl : PE X l td) : PI X tg l (iKeysT td) := by
  intro pins s σ H R I h
  refine thn (hl pins s σ H _ I h) fun v s1 ⟨x, H1, I1, r1, q1⟩ => ?_
  obtain ⟨d, kvs, e, hd, q⟩ := q1
  subst e
  cases r1
  obtain ⟨z, lo, xs, rel, o, es, ep, g1, g3, g4, g5⟩ := (show ObjOk X.prog X.w H1 s1.heap d (.dT kvs) from I1.hok d _ hd)
  have I2 : Inv X pins σ (upd H1 d (.frz o (.dT kvs))) s1 := I1.write (t' := s1.toks) (h' := s1.heap) (x := d) (e := d) (by rw [hd]; exact True.intro) (.inl rfl) (fun b u _ q => q) ⟨o, g1⟩ ⟨g1, z, lo, xs, Paired.mapP rel fun p q y => ⟨y.1, by rw [upd_ne (ne_of y.2.1 hd (by intro z; cases z))]; exact y.2.1, y.2.2⟩, o, es, ep, g1, g3, g4, g5⟩
  have hn : (upd H1 d (.frz o (.dT kvs))) s1.heap.objs.size = none := by
    rw [upd_ne (Ne.symm (Nat.ne_of_lt (Heap.lt_size g1)))]; exact I1.hok.fresh (Nat.le_refl _)
  refine keys_iter lo g1 g3 g4 ?_
  refine ⟨s1.heap.objs.size, [s1.heap.objs.size], _, _, _, rfl, I2.kept (t' := s1.toks) fun b o e => Heap.get?_push_of_some _ e, turn_keysT d _ g4, ⟨_, Heap.get?_push_size _ rfl, rfl, rfl⟩, fun b hb => ?_, q o⟩
  have e : b = s1.heap.objs.size := by simpa using hb
  subst e
  exact I2.fpOk (Nat.le_refl _) hn
theorem ity_go {d : Addr} {o : Obj} {kvs : List (List Key × V)} {H1 : Hp} (h : H1 d = some (.frz o (.dT kvs))) : ∀ i H, i < kvs.length → Same H1 H → (Ity d o kvs).go i H := fun i H hi s => ⟨s _ _ h, hi⟩
theorem ity_stop {d : Addr} {o : Obj} {kvs : List (List Key × V)} {H1 : Hp} (h : H1 d = some (.frz o (.dT kvs))) : ∀ H, Same H1 H → (Ity d o kvs).stop kvs.length H := fun H s => ⟨s _ _ h, Nat.le_refl _⟩
end
end L2

set_option Elab.async false
set_option linter.all false
set_option maxRecDepth 100000
/-! comprehensions whose items are flat; what a house does with a letter -/
namespace TW
open PySem L2 PyProof.Rows
theorem comp_opt {J : It} {n : Nat} {cap : List (Option Nat)} {g : TG} {tc : TT} {te : TE} {σ : L2.St} {Qr : Hp → Prop} {H1 : Hp} {acc : Addr} (it : Nat → V) (f : Nat → Option V) (hacc : H1 acc = none)
    (go : ∀ i H, i < n → Same H1 H → J.go i H) (stop : ∀ H, Same H1 H → J.stop n H) (yld : ∀ i H x H', i < n → Same H1 H → J.yld i H x H' → H' = H ∧ x = it i) (hn : n ≤ 1000)
    (step : ∀ (i : Nat) (H : Hp) (R : V → Hp → Prop) (S : Hp → Prop), i < n → Same H1 H → (∀ y H', Same H H' → f i = some y → R y H') → (∀ H', Same H H' → f i = none → S H') →
      g (it i) (capSt cap σ) H fun σ2 H2 => tc σ2 H2 fun b H3 => if b = true then te σ2 H3 R else S H3)
    (fin : ∀ H, Same H1 H → H acc = some (.lst ((List.range n).filterMap f)) → Qr H) :
    ∃ W : Nat → Nat → Hp → Prop, (∃ m, W 0 m (upd H1 acc (.lst []))) ∧ ∀ i m H, W i m H →
      (J.stop i H ∧ Qr H) ∨ (J.go i H ∧ ∀ x H', J.yld i H x H' → g x (capSt cap σ) H' fun σ2 H2 => tc σ2 H2 fun b H3 => if b = true then te σ2 H3 fun y H4 => ∃ xs, H4 acc = some (.lst xs) ∧ xs.length < sizeLine ∧
        ∃ m', m' < m ∧ W (i + 1) m' (upd H4 acc (.lst (xs ++ [y]))) else ∃ m', m' < m ∧ W (i + 1) m' H3) := by
  have hlen : ∀ i, ((List.range i).filterMap f).length ≤ i := fun i => by
    have := List.length_filterMap_le f (List.range i)
    rwa [List.length_range] at this
  refine comp_by (n := n) (fun i ys _ => ys = (List.range i).filterMap f) hacc go stop rfl ?_ ?_
  · rintro i ys H hi s hy rfl x H' hx
    obtain ⟨rfl, rfl⟩ := yld i H x H' hi s hx
    have e : (List.range (i + 1)).filterMap f = (List.range i).filterMap f ++ (f i).toList := by
      rw [List.range_succ, List.filterMap_append]
      cases h : f i <;> simp [h]
    refine step i H' _ _ hi s (fun y H4 s4 hf => ?_) (fun H3 s3 hf => ?_)
    · refine comp_add hacc hi (s.trans s4) (s4 _ _ hy) (small1000 (Nat.le_trans (hlen i) (Nat.le_trans (Nat.le_of_lt hi) hn))) ?_
      show _ = (List.range (i + 1)).filterMap f
      rw [e, hf]
      rfl
    · refine comp_skip hi (s.trans s3) (s3 _ _ hy) ?_
      show _ = (List.range (i + 1)).filterMap f
      rw [e, hf]
      simp
  · rintro ys H s hy rfl
    exact fin H s hy
theorem range_filter {α β : Type} : ∀ (xs : List α) (F : α → Option β), (List.range xs.length).filterMap (fun i => xs[i]?.bind F) = xs.filterMap F
  | [], F => rfl
  | x :: xs, F => by
    have e : ((fun i : Nat => (x :: xs)[i]?.bind F) ∘ Nat.succ) = fun i => xs[i]?.bind F := funext fun i => by simp
    rw [List.length_cons, List.range_succ_eq_map, List.filterMap_cons, List.filterMap_map, e, range_filter xs F, List.filterMap_cons]
    rfl
/-- over a list of ints: some of them, or what comes of them -/
theorem comp_ints {K : PySem.W.Frag} {l acc : Addr} {xs : List Int} {cap : List (Option Nat)} {g : TG} {tc : TT} {te : TE} {σ : L2.St} {Qr : Hp → Prop} {H1 : Hp} (F : Int → Option V) (hacc : H1 acc = none) (hl : SqL K H1 l (xs.map V.int)) (hn : xs.length ≤ 1000)
    (step : ∀ (x : Int) (H : Hp) (R : V → Hp → Prop) (S : Hp → Prop), x ∈ xs → Same H1 H → (∀ y H', Same H H' → F x = some y → R y H') → (∀ H', Same H H' → F x = none → S H') →
      g (.int x) (capSt cap σ) H fun σ2 H2 => tc σ2 H2 fun b H3 => if b = true then te σ2 H3 R else S H3)
    (fin : ∀ H, Same H1 H → H acc = some (.lst (xs.filterMap F)) → Qr H) :
    ∃ W : Nat → Nat → Hp → Prop, (∃ m, W 0 m (upd H1 acc (.lst []))) ∧ ∀ i m H, W i m H →
      ((Itl K l).stop i H ∧ Qr H) ∨ ((Itl K l).go i H ∧ ∀ x H', (Itl K l).yld i H x H' → g x (capSt cap σ) H' fun σ2 H2 => tc σ2 H2 fun b H3 => if b = true then te σ2 H3 fun y H4 => ∃ xs, H4 acc = some (.lst xs) ∧ xs.length < sizeLine ∧
        ∃ m', m' < m ∧ W (i + 1) m' (upd H4 acc (.lst (xs ++ [y]))) else ∃ m', m' < m ∧ W (i + 1) m' H3) := by
  have hL : (xs.map V.int).length = xs.length := List.length_map _
  refine comp_opt (n := xs.length) (fun i => (xs.map V.int).getD i .non) (fun i => xs[i]?.bind F) hacc (fun i H hi s => itl_go hl i H (by rw [hL]; exact hi) s) (fun H s => by have := itl_stop hl H s; rwa [hL] at this) (fun i H x H' hi s hx => ?_) hn (fun i H R S hi s h1 h2 => ?_) (fun H s hy => fin H s (by rw [← range_filter]; exact hy))
  · obtain ⟨rfl, hx⟩ := hx
    have hx := hx _ (s.seq hl)
    exact ⟨rfl, by rw [List.getD_eq_getElem?_getD, hx]; rfl⟩
  · have e : (xs.map V.int).getD i .non = V.int xs[i] := by rw [List.getD_eq_getElem?_getD, List.getElem?_map, List.getElem?_eq_getElem hi]; rfl
    have e2 : xs[i]? = some xs[i] := List.getElem?_eq_getElem hi
    rw [e]
    refine step _ H R S (List.getElem_mem hi) s (fun y H' s' hf => h1 y H' s' ?_) (fun H' s' hf => h2 H' s' ?_)
    · show xs[i]?.bind F = _
      rw [e2]
      exact hf
    · show xs[i]?.bind F = _
      rw [e2]
      exact hf
theorem filt_ints (xs : List Int) (f : Int → Bool) : xs.filterMap (fun x => if f x = true then some (V.int x) else none) = (xs.filter f).map V.int := by
  induction xs with
  | nil => rfl
  | cons x xs ih =>
    by_cases h : f x = true
    · rw [List.filter_cons_of_pos h, List.map_cons, ← ih, List.filterMap_cons]; simp only [h, if_true]
    · rw [List.filter_cons_of_neg h, ← ih, List.filterMap_cons]; simp only [h]; rfl
/-- [x for x in xs if f(x)] -/
theorem comp_filtI {K : PySem.W.Frag} {l acc : Addr} {xs : List Int} {cap : List (Option Nat)} {g : TG} {tc : TT} {te : TE} {σ : L2.St} {Qr : Hp → Prop} {H1 : Hp} (f : Int → Bool) (hacc : H1 acc = none) (hl : SqL K H1 l (xs.map V.int)) (hn : xs.length ≤ 1000)
    (step : ∀ (x : Int) (H : Hp) (R : V → Hp → Prop) (S : Hp → Prop), x ∈ xs → Same H1 H → (∀ H', Same H H' → f x = true → R (.int x) H') → (∀ H', Same H H' → f x = false → S H') →
      g (.int x) (capSt cap σ) H fun σ2 H2 => tc σ2 H2 fun b H3 => if b = true then te σ2 H3 R else S H3)
    (fin : ∀ H, Same H1 H → H acc = some (.lst ((xs.filter f).map V.int)) → Qr H) :
    ∃ W : Nat → Nat → Hp → Prop, (∃ m, W 0 m (upd H1 acc (.lst []))) ∧ ∀ i m H, W i m H →
      ((Itl K l).stop i H ∧ Qr H) ∨ ((Itl K l).go i H ∧ ∀ x H', (Itl K l).yld i H x H' → g x (capSt cap σ) H' fun σ2 H2 => tc σ2 H2 fun b H3 => if b = true then te σ2 H3 fun y H4 => ∃ xs, H4 acc = some (.lst xs) ∧ xs.length < sizeLine ∧
        ∃ m', m' < m ∧ W (i + 1) m' (upd H4 acc (.lst (xs ++ [y]))) else ∃ m', m' < m ∧ W (i + 1) m' H3) := by
  refine comp_ints (fun x => if f x = true then some (V.int x) else none) hacc hl hn (fun x H R S hx s h1 h2 => step x H R S hx s (fun H' s' hf => h1 _ H' s' (if_pos hf)) (fun H' s' hf => h2 H' s' (if_neg (by rw [hf]; exact Bool.false_ne_true)))) (fun H s hy => fin H s (by rw [← filt_ints]; exact hy))
/-- over range(n) -/
theorem comp_rng {acc : Addr} {n : Nat} {cap : List (Option Nat)} {g : TG} {tc : TT} {te : TE} {σ : L2.St} {Qr : Hp → Prop} {H1 : Hp} (F : Nat → Option V) (hacc : H1 acc = none) (hn : n ≤ 1000)
    (step : ∀ (i : Nat) (H : Hp) (R : V → Hp → Prop) (S : Hp → Prop), i < n → Same H1 H → (∀ y H', Same H H' → F i = some y → R y H') → (∀ H', Same H H' → F i = none → S H') →
      g (.int i) (capSt cap σ) H fun σ2 H2 => tc σ2 H2 fun b H3 => if b = true then te σ2 H3 R else S H3)
    (fin : ∀ H, Same H1 H → H acc = some (.lst ((List.range n).filterMap F)) → Qr H) :
    ∃ W : Nat → Nat → Hp → Prop, (∃ m, W 0 m (upd H1 acc (.lst []))) ∧ ∀ i m H, W i m H →
      ((Itr 0 n).stop i H ∧ Qr H) ∨ ((Itr 0 n).go i H ∧ ∀ x H', (Itr 0 n).yld i H x H' → g x (capSt cap σ) H' fun σ2 H2 => tc σ2 H2 fun b H3 => if b = true then te σ2 H3 fun y H4 => ∃ xs, H4 acc = some (.lst xs) ∧ xs.length < sizeLine ∧
        ∃ m', m' < m ∧ W (i + 1) m' (upd H4 acc (.lst (xs ++ [y]))) else ∃ m', m' < m ∧ W (i + 1) m' H3) :=
  comp_opt (n := n) (fun i => V.int i) F hacc itr_go itr_stop (fun i H x H' hi s hx => by
    obtain ⟨rfl, rfl⟩ := hx
    exact ⟨rfl, by rw [Int.zero_add]⟩) hn step fin
def NoLst (u : HO) : Prop := ∀ xs, u ≠ .lst xs ∧ ∀ o, u ≠ .frz o (.lst xs)
theorem nl_dT {kvs : List (List Key × V)} : NoLst (.dT kvs) := fun xs => ⟨fun e => (by cases e), fun o e => (by cases e)⟩
theorem SqL.past {K : PySem.W.Frag} {H H' : Hp} {z a : Addr} {u : HO} {xs : List V} (hz : H z = some u) (nt : NoLst u) (keep : ∀ b v, H b = some v → b ≠ z → H' b = some v) (h : SqL K H a xs) : SqL K H' a xs := by
  rcases h with (h | ⟨o, h⟩) | h
  · exact .inl (.inl (keep _ _ h fun e => by subst e; rw [hz] at h; exact (nt xs).1 (Option.some.inj h)))
  · exact .inl (.inr ⟨o, keep _ _ h fun e => by subst e; rw [hz] at h; exact (nt xs).2 o (Option.some.inj h)⟩)
  · exact .inr h
/-! a rope or None -/
def optI (c : Option Int) : V := (c.map V.int).getD .non
theorem scal_opt (i : Int) (c : Option Int) : scal (.int i) (optI c) = true := by cases c <;> rfl
theorem flat_opt (c : Option Int) : flatV (optI c) = true := by cases c <;> rfl
theorem inV_nonI (xs : List Int) : inV .non (xs.map V.int) = false := by
  unfold inV
  rw [List.any_map, List.any_eq_false]
  intro x _
  show ¬ (eqV (.int x) .non) = true
  simp [eqV]
def notBy (c : Option Int) (r : Int) : Bool := !decide (V.int r = optI c)
/-- the ropes over which a letter goes on -/
def onP (ts : List T3) (so : Option Int) (house : Int) (came : Option Int) (os hs : List Int) : List Int :=
  match so with
  | none => os.filter (notBy came)
  | some to => if to ∈ hs then [] else match known3 ts house to with
    | some r => if r ∈ os then [r].filter (notBy came) else os.filter (notBy came)
    | none => os.filter (notBy came)
theorem onP_len (ts : List T3) (so : Option Int) (house : Int) (came : Option Int) (os hs : List Int) : (onP ts so house came os hs).length ≤ os.length + 1 := by
  have h : ∀ l : List Int, l.length ≤ os.length + 1 → (l.filter (notBy came)).length ≤ os.length + 1 := fun l hl => Nat.le_trans (List.length_filter_le _ _) hl
  unfold onP
  split
  · exact h _ (Nat.le_succ _)
  · split
    · exact Nat.zero_le _
    · split
      · split
        · exact h _ (by show 1 ≤ _; omega)
        · exact h _ (Nat.le_succ _)
      · exact h _ (Nat.le_succ _)
/-- kinds of letters: 0 bare, 1 to one, 2 to all -/
def meantB (s to k c : Int) : Bool := if k = 1 then decide (V.int c = V.int to) else if k = 2 then !decide (V.int c = V.int s) else false
def soughtO (to k : Int) : Option Int := if k = 1 then some to else none
theorem made {H : Hp} {x dx C : Addr} {fs : List (Str × V)} (hx : H x = none) (hdx : H dx = none) (hne : dx ≠ x) : Same H (upd (upd (upd H dx (.own x)) x (.ins C dx [])) x (.ins C dx fs)) := by
  rw [upd_upd]
  exact (Same.new hdx).trans (Same.new (by rw [upd_ne (Ne.symm hne)]; exact hx))
theorem rng_map (n : Nat) (c : Nat → Bool) (h : Nat → Int) : (List.range n).filterMap (fun i => if c i = true then some (V.int (h i)) else none) = (((List.range n).filter c).map h).map V.int := by
  generalize List.range n = l
  induction l with
  | nil => rfl
  | cons x xs ih =>
    by_cases e : c x = true
    · rw [List.filter_cons_of_pos e, List.map_cons, List.map_cons, ← ih, List.filterMap_cons]; simp only [e, if_true]
    · rw [List.filter_cons_of_neg e, ← ih, List.filterMap_cons]; simp only [e]; rfl
theorem filter_none {α : Type} {p : α → Bool} : ∀ {l : List α}, (∀ x ∈ l, p x = false) → l.filter p = []
  | [], _ => rfl
  | x :: xs, h => by
    rw [List.filter_cons_of_neg (by rw [h x (List.mem_cons_self ..)]; exact Bool.false_ne_true)]
    exact filter_none fun y hy => h y (List.mem_cons_of_mem _ hy)
theorem filter_one (p : Int → Bool) {r : Int} : ∀ {os : List Int}, os.Nodup → r ∈ os → (os.filter p).filter (fun x => decide (V.int x = V.int r)) = [r].filter p
  | [], _, h => by cases h
  | x :: xs, n, h => by
    have n' := (List.nodup_cons.mp n).2
    have nx := (List.nodup_cons.mp n).1
    by_cases e : x = r
    · subst e
      have z : (xs.filter p).filter (fun y => decide (V.int y = V.int x)) = [] := filter_none fun y hy => decide_eq_false fun q => nx (by rw [← V.int.inj q]; exact (List.mem_filter.mp hy).1)
      by_cases c : p x = true
      · rw [List.filter_cons_of_pos c, List.filter_cons_of_pos (p := fun y => decide (V.int y = V.int x)) (decide_eq_true rfl), z, List.filter_cons_of_pos c]
        rfl
      · rw [List.filter_cons_of_neg c, z, List.filter_cons_of_neg c]
        rfl
    · have h' : r ∈ xs := (List.mem_cons.mp h).resolve_left fun q => e q.symm
      have nd : ¬ (decide (V.int x = V.int r)) = true := by
        rw [decide_eq_false fun q => e (V.int.inj q)]
        exact Bool.false_ne_true
      by_cases c : p x = true
      · rw [List.filter_cons_of_pos c, List.filter_cons_of_neg (p := fun y => decide (V.int y = V.int r)) nd]
        exact filter_one p n' h'
      · rw [List.filter_cons_of_neg c]
        exact filter_one p n' h'
theorem neT {b : Bool} (h : ¬ b = true) : b = false := by
  cases b
  · rfl
  · exact absurd rfl h
def lawKind (kd : Int) : Int := if kd = 0 then 0 else if kd < 3 then 2 else 1
theorem pair_at (x c : Int) : ∃ y, atI [V.int x, V.int 63] (c / 2 % 2) = some (.int y) := by
  rcases (show c / 2 % 2 = 0 ∨ c / 2 % 2 = 1 by omega) with h | h
  · exact ⟨x, by rw [h]; rfl⟩
  · exact ⟨63, by rw [h]; rfl⟩
theorem ints2_lay (xs ys : List Int) : PyData.canLay0 (.list [.list (xs.map .int), .list (ys.map .int)]) = true := by
  show (PyData.canLay0 (.list (xs.map .int)) && (PyData.canLay0 (.list (ys.map .int)) && true)) = true
  rw [show PyData.canLay0 (.list (xs.map .int)) = true from ints_lay xs, show PyData.canLay0 (.list (ys.map .int)) = true from ints_lay ys]
  rfl
theorem ints2_deep (xs ys : List Int) : PyData.depth (.list [.list (xs.map .int), .list (ys.map .int)]) ≤ 64 := by
  show max (PyData.depthAll (xs.map .int) + 1) (max (PyData.depthAll (ys.map .int) + 1) 0) + 1 ≤ 64
  rw [ints_deep, ints_deep]
  decide
theorem rep_ints2 {K : PySem.W.Frag} {H : Hp} {l a b : Addr} {xs ys : List Int} (hl : H l = some (.lst [.ref a, .ref b])) (ha : SqL K H a (xs.map V.int)) (hb : SqL K H b (ys.map V.int)) : Rep K H (.list [.list (xs.map .int), .list (ys.map .int)]) (.ref l) :=
  ⟨l, _, rfl, SqL.of hl, _, _, rfl, Rep.ints ha, _, _, rfl, Rep.ints hb, rfl⟩
end TW

set_option Elab.async false
set_option linter.all false
set_option maxRecDepth 100000
set_option maxHeartbeats 4000000
namespace K26
open PySem L2
def top (i : Nat) : Stmt := PySem.Challenge.pw_knotless_k26_targets.main.body.getD i (.Pass ⟨0, 0, 0, 0⟩)
abbrev s_targets : Stmt := (top 2)
abbrev s_ropes_on : Stmt := (top 3)
abbrev s_Booku_initu : Stmt := (inClass (top 5) 0)
abbrev s_Book_learn : Stmt := (inClass (top 5) 1)
abbrev s_Book_known : Stmt := (inClass (top 5) 2)
abbrev s_Book_notes : Stmt := (inClass (top 5) 3)
abbrev s_Letteru_initu : Stmt := (inClass (top 7) 0)
abbrev s_Letter_meant : Stmt := (inClass (top 7) 1)
abbrev s_Letter_seeks : Stmt := (inClass (top 7) 2)
abbrev s_ToOneu_initu : Stmt := (inClass (top 8) 0)
abbrev s_ToOne_meant : Stmt := (inClass (top 8) 1)
abbrev s_ToOne_seeks : Stmt := (inClass (top 8) 2)
abbrev s_ToAll_meant : Stmt := (inClass (top 9) 0)
abbrev s_w_cell : Stmt := (top 11)
abbrev s_w_whole : Stmt := (top 12)
abbrev s_w_numbers : Stmt := (top 13)
abbrev s_w_some : Stmt := (top 14)
abbrev s_w_letter : Stmt := (top 15)
abbrev s_w_handed : Stmt := (top 16)
abbrev s_w_goes : Stmt := (top 17)
abbrev s_w_told : Stmt := (top 18)
abbrev s_w_asked : Stmt := (top 19)
abbrev s_law : Stmt := (top 20)
theorem sc_targets : FnScope ["book", "letter", "house", "came", "open_here", "here", "handed"] ["book", "letter", "house", "came", "open_here", "here"] (defScope s_targets) := ⟨rfl, rfl, rfl, by decide +kernel, rfl, by decide +kernel, by decide +kernel⟩
theorem nd_targets_c0 : (["caller", "letter"] : List Str).Nodup := by decide +kernel
theorem sc_ropes_on : FnScope ["book", "sought", "house", "came", "open_here", "here", "noted", "leading"] ["book", "sought", "house", "came", "open_here", "here"] (defScope s_ropes_on) := ⟨rfl, rfl, rfl, by decide +kernel, rfl, by decide +kernel, by decide +kernel⟩
theorem nd_ropes_on_c0 : (["rope", "came"] : List Str).Nodup := by decide +kernel
theorem sc_Booku_initu : FnScope ["self"] ["self"] (defScope s_Booku_initu) := ⟨rfl, rfl, rfl, by decide +kernel, rfl, by decide +kernel, by decide +kernel⟩
theorem sc_Book_learn : FnScope ["self", "house", "caller", "rope"] ["self", "house", "caller", "rope"] (defScope s_Book_learn) := ⟨rfl, rfl, rfl, by decide +kernel, rfl, by decide +kernel, by decide +kernel⟩
theorem sc_Book_known : FnScope ["self", "house", "caller"] ["self", "house", "caller"] (defScope s_Book_known) := ⟨rfl, rfl, rfl, by decide +kernel, rfl, by decide +kernel, by decide +kernel⟩
theorem sc_Book_notes : FnScope ["self"] ["self"] (defScope s_Book_notes) := ⟨rfl, rfl, rfl, by decide +kernel, rfl, by decide +kernel, by decide +kernel⟩
theorem nd_Book_notes_c0 : (["noted", "rope"] : List Str).Nodup := by decide +kernel
theorem sc_Letteru_initu : FnScope ["self", "sender"] ["self", "sender"] (defScope s_Letteru_initu) := ⟨rfl, rfl, rfl, by decide +kernel, rfl, by decide +kernel, by decide +kernel⟩
theorem sc_Letter_meant : FnScope ["self", "caller"] ["self", "caller"] (defScope s_Letter_meant) := ⟨rfl, rfl, rfl, by decide +kernel, rfl, by decide +kernel, by decide +kernel⟩
theorem sc_Letter_seeks : FnScope ["self"] ["self"] (defScope s_Letter_seeks) := ⟨rfl, rfl, rfl, by decide +kernel, rfl, by decide +kernel, by decide +kernel⟩
theorem sc_ToOneu_initu : FnScope ["self", "sender", "to"] ["self", "sender", "to"] (defScope s_ToOneu_initu) := ⟨rfl, rfl, rfl, by decide +kernel, rfl, by decide +kernel, by decide +kernel⟩
theorem sc_ToOne_meant : FnScope ["self", "caller"] ["self", "caller"] (defScope s_ToOne_meant) := ⟨rfl, rfl, rfl, by decide +kernel, rfl, by decide +kernel, by decide +kernel⟩
theorem sc_ToOne_seeks : FnScope ["self"] ["self"] (defScope s_ToOne_seeks) := ⟨rfl, rfl, rfl, by decide +kernel, rfl, by decide +kernel, by decide +kernel⟩
theorem sc_ToAll_meant : FnScope ["self", "caller"] ["self", "caller"] (defScope s_ToAll_meant) := ⟨rfl, rfl, rfl, by decide +kernel, rfl, by decide +kernel, by decide +kernel⟩
theorem sc_w_cell : FnScope ["_law_script", "_law_k"] ["_law_script", "_law_k"] (defScope s_w_cell) := ⟨rfl, rfl, rfl, by decide +kernel, rfl, by decide +kernel, by decide +kernel⟩
theorem sc_w_whole : FnScope ["_law_found"] ["_law_found"] (defScope s_w_whole) := ⟨rfl, rfl, rfl, by decide +kernel, rfl, by decide +kernel, by decide +kernel⟩
theorem sc_w_numbers : FnScope ["_law_found", "_law_ought", "_law_one", "_law_other"] ["_law_found", "_law_ought"] (defScope s_w_numbers) := ⟨rfl, rfl, rfl, by decide +kernel, rfl, by decide +kernel, by decide +kernel⟩
theorem sc_w_some : FnScope ["_law_first", "_law_bits"] ["_law_first", "_law_bits"] (defScope s_w_some) := ⟨rfl, rfl, rfl, by decide +kernel, rfl, by decide +kernel, by decide +kernel⟩
theorem nd_w_some_c0 : (["_law_k", "_law_bits", "_law_first"] : List Str).Nodup := by decide +kernel
theorem sc_w_letter : FnScope ["_law_kind", "_law_sender", "_law_to"] ["_law_kind", "_law_sender", "_law_to"] (defScope s_w_letter) := ⟨rfl, rfl, rfl, by decide +kernel, rfl, by decide +kernel, by decide +kernel⟩
theorem sc_w_handed : FnScope ["_law_kind", "_law_sender", "_law_to", "_law_here"] ["_law_kind", "_law_sender", "_law_to", "_law_here"] (defScope s_w_handed) := ⟨rfl, rfl, rfl, by decide +kernel, rfl, by decide +kernel, by decide +kernel⟩
theorem nd_w_handed_c0 : (["_law_caller", "_law_sender"] : List Str).Nodup := by decide +kernel
theorem nd_w_handed_c1 : (["_law_caller", "_law_to"] : List Str).Nodup := by decide +kernel
theorem sc_w_goes : FnScope ["_law_notes", "_law_kind", "_law_to", "_law_spot", "_law_came", "_law_open_ones", "_law_here", "_law_others"] ["_law_notes", "_law_kind", "_law_to", "_law_spot", "_law_came", "_law_open_ones", "_law_here"] (defScope s_w_goes) := ⟨rfl, rfl, rfl, by decide +kernel, rfl, by decide +kernel, by decide +kernel⟩
theorem nd_w_goes_c0 : (["_law_rope", "_law_came"] : List Str).Nodup := by decide +kernel
theorem nd_w_goes_c1 : (["_law_rope", "_law_notes", "_law_spot", "_law_to"] : List Str).Nodup := by decide +kernel
theorem sc_w_told : FnScope ["_law_found", "_law_ought"] ["_law_found", "_law_ought"] (defScope s_w_told) := ⟨rfl, rfl, rfl, by decide +kernel, rfl, by decide +kernel, by decide +kernel⟩
theorem sc_w_asked : FnScope ["_law_book", "_law_notes", "_law_cell_here", "_law_firsts", "_law_spot", "_law_kind", "_law_sender", "_law_to", "_law_open_ones", "_law_here", "_law_came", "_law_ought", "_law_letter_here", "_law_handed_here", "_law_found"] ["_law_book", "_law_notes", "_law_cell_here", "_law_firsts"] (defScope s_w_asked) := ⟨rfl, rfl, rfl, by decide +kernel, rfl, by decide +kernel, by decide +kernel⟩
theorem sc_law : FnScope ["_law_script", "_law_head", "_law_firsts", "_law_book", "_law_notes", "_law_k", "_law_cell_here", "_law_spot", "_law_caller", "_law_rope", "_law_ought"] ["_law_script"] (defScope s_law) := ⟨rfl, rfl, rfl, by decide +kernel, rfl, by decide +kernel, by decide +kernel⟩
theorem nd_law_c0 : (["_law_spot", "_law_caller", "_law_notes"] : List Str).Nodup := by decide +kernel
set_option genInjectivity false in
structure Ad where
  f_targets : Addr
  d_targets : FuncData
  f_ropes_on : Addr
  d_ropes_on : FuncData
  f_Booku_initu : Addr
  d_Booku_initu : FuncData
  f_Book_learn : Addr
  d_Book_learn : FuncData
  f_Book_known : Addr
  d_Book_known : FuncData
  f_Book_notes : Addr
  d_Book_notes : FuncData
  f_Letteru_initu : Addr
  d_Letteru_initu : FuncData
  f_Letter_meant : Addr
  d_Letter_meant : FuncData
  f_Letter_seeks : Addr
  d_Letter_seeks : FuncData
  f_ToOneu_initu : Addr
  d_ToOneu_initu : FuncData
  f_ToOne_meant : Addr
  d_ToOne_meant : FuncData
  f_ToOne_seeks : Addr
  d_ToOne_seeks : FuncData
  f_ToAll_meant : Addr
  d_ToAll_meant : FuncData
  f_w_cell : Addr
  d_w_cell : FuncData
  f_w_whole : Addr
  d_w_whole : FuncData
  f_w_numbers : Addr
  d_w_numbers : FuncData
  f_w_some : Addr
  d_w_some : FuncData
  f_w_letter : Addr
  d_w_letter : FuncData
  f_w_handed : Addr
  d_w_handed : FuncData
  f_w_goes : Addr
  d_w_goes : FuncData
  f_w_told : Addr
  d_w_told : FuncData
  f_w_asked : Addr
  d_w_asked : FuncData
  f_law : Addr
  d_law : FuncData
  a_Letter : Addr
  a_ToOne : Addr
  a_ToAll : Addr
  a_Book : Addr
structure Txt (K : PySem.W.Frag) (mg : Str → Option Value) (t : Ad) : Prop where
  F_targets : Fun K "targets" "targets" s_targets t.f_targets t.d_targets
  B_targets : Binds K t.d_targets ["book", "letter", "house", "came", "open_here", "here"] []
  g_targets : mg "targets" = some (.ref t.f_targets)
  F_ropes_on : Fun K "ropes_on" "ropes_on" s_ropes_on t.f_ropes_on t.d_ropes_on
  B_ropes_on : Binds K t.d_ropes_on ["book", "sought", "house", "came", "open_here", "here"] []
  g_ropes_on : mg "ropes_on" = some (.ref t.f_ropes_on)
  F_Booku_initu : Fun K "__init__" "Book.__init__" s_Booku_initu t.f_Booku_initu t.d_Booku_initu
  B_Booku_initu : Binds K t.d_Booku_initu ["self"] []
  K_Book : Mk K t.a_Book t.f_Booku_initu
  F_Book_learn : Fun K "learn" "Book.learn" s_Book_learn t.f_Book_learn t.d_Book_learn
  B_Book_learn : Binds K t.d_Book_learn ["self", "house", "caller", "rope"] []
  m_Book_learn : Meth K t.a_Book "learn" t.f_Book_learn
  F_Book_known : Fun K "known" "Book.known" s_Book_known t.f_Book_known t.d_Book_known
  B_Book_known : Binds K t.d_Book_known ["self", "house", "caller"] []
  m_Book_known : Meth K t.a_Book "known" t.f_Book_known
  F_Book_notes : Fun K "notes" "Book.notes" s_Book_notes t.f_Book_notes t.d_Book_notes
  B_Book_notes : Binds K t.d_Book_notes ["self"] []
  m_Book_notes : Meth K t.a_Book "notes" t.f_Book_notes
  F_Letteru_initu : Fun K "__init__" "Letter.__init__" s_Letteru_initu t.f_Letteru_initu t.d_Letteru_initu
  B_Letteru_initu : Binds K t.d_Letteru_initu ["self", "sender"] []
  K_Letter : Mk K t.a_Letter t.f_Letteru_initu
  F_Letter_meant : Fun K "meant" "Letter.meant" s_Letter_meant t.f_Letter_meant t.d_Letter_meant
  B_Letter_meant : Binds K t.d_Letter_meant ["self", "caller"] []
  m_Letter_meant : Meth K t.a_Letter "meant" t.f_Letter_meant
  F_Letter_seeks : Fun K "seeks" "Letter.seeks" s_Letter_seeks t.f_Letter_seeks t.d_Letter_seeks
  B_Letter_seeks : Binds K t.d_Letter_seeks ["self"] []
  m_Letter_seeks : Meth K t.a_Letter "seeks" t.f_Letter_seeks
  F_ToOneu_initu : Fun K "__init__" "ToOne.__init__" s_ToOneu_initu t.f_ToOneu_initu t.d_ToOneu_initu
  B_ToOneu_initu : Binds K t.d_ToOneu_initu ["self", "sender", "to"] []
  K_ToOne : Mk K t.a_ToOne t.f_ToOneu_initu
  F_ToOne_meant : Fun K "meant" "ToOne.meant" s_ToOne_meant t.f_ToOne_meant t.d_ToOne_meant
  B_ToOne_meant : Binds K t.d_ToOne_meant ["self", "caller"] []
  m_ToOne_meant : Meth K t.a_ToOne "meant" t.f_ToOne_meant
  F_ToOne_seeks : Fun K "seeks" "ToOne.seeks" s_ToOne_seeks t.f_ToOne_seeks t.d_ToOne_seeks
  B_ToOne_seeks : Binds K t.d_ToOne_seeks ["self"] []
  m_ToOne_seeks : Meth K t.a_ToOne "seeks" t.f_ToOne_seeks
  F_ToAll_meant : Fun K "meant" "ToAll.meant" s_ToAll_meant t.f_ToAll_meant t.d_ToAll_meant
  B_ToAll_meant : Binds K t.d_ToAll_meant ["self", "caller"] []
  m_ToAll_meant : Meth K t.a_ToAll "meant" t.f_ToAll_meant
  F_w_cell : Fun K "_law_cell" "_law_cell" s_w_cell t.f_w_cell t.d_w_cell
  B_w_cell : Binds K t.d_w_cell ["_law_script", "_law_k"] []
  g_w_cell : mg "_law_cell" = some (.ref t.f_w_cell)
  F_w_whole : Fun K "_law_whole" "_law_whole" s_w_whole t.f_w_whole t.d_w_whole
  B_w_whole : Binds K t.d_w_whole ["_law_found"] []
  g_w_whole : mg "_law_whole" = some (.ref t.f_w_whole)
  F_w_numbers : Fun K "_law_numbers" "_law_numbers" s_w_numbers t.f_w_numbers t.d_w_numbers
  B_w_numbers : Binds K t.d_w_numbers ["_law_found", "_law_ought"] []
  g_w_numbers : mg "_law_numbers" = some (.ref t.f_w_numbers)
  F_w_some : Fun K "_law_some" "_law_some" s_w_some t.f_w_some t.d_w_some
  B_w_some : Binds K t.d_w_some ["_law_first", "_law_bits"] []
  g_w_some : mg "_law_some" = some (.ref t.f_w_some)
  F_w_letter : Fun K "_law_letter" "_law_letter" s_w_letter t.f_w_letter t.d_w_letter
  B_w_letter : Binds K t.d_w_letter ["_law_kind", "_law_sender", "_law_to"] []
  g_w_letter : mg "_law_letter" = some (.ref t.f_w_letter)
  F_w_handed : Fun K "_law_handed" "_law_handed" s_w_handed t.f_w_handed t.d_w_handed
  B_w_handed : Binds K t.d_w_handed ["_law_kind", "_law_sender", "_law_to", "_law_here"] []
  g_w_handed : mg "_law_handed" = some (.ref t.f_w_handed)
  F_w_goes : Fun K "_law_goes" "_law_goes" s_w_goes t.f_w_goes t.d_w_goes
  B_w_goes : Binds K t.d_w_goes ["_law_notes", "_law_kind", "_law_to", "_law_spot", "_law_came", "_law_open_ones", "_law_here"] []
  g_w_goes : mg "_law_goes" = some (.ref t.f_w_goes)
  F_w_told : Fun K "_law_told" "_law_told" s_w_told t.f_w_told t.d_w_told
  B_w_told : Binds K t.d_w_told ["_law_found", "_law_ought"] []
  g_w_told : mg "_law_told" = some (.ref t.f_w_told)
  F_w_asked : Fun K "_law_asked" "_law_asked" s_w_asked t.f_w_asked t.d_w_asked
  B_w_asked : Binds K t.d_w_asked ["_law_book", "_law_notes", "_law_cell_here", "_law_firsts"] []
  g_w_asked : mg "_law_asked" = some (.ref t.f_w_asked)
  F_law : Fun K "law" "law" s_law t.f_law t.d_law
  B_law : Binds K t.d_law ["_law_script"] []
  g_law : mg "law" = some (.ref t.f_law)
  c_Letter : Cls K t.a_Letter
  g_Letter : mg "Letter" = some (.ref t.a_Letter)
  n_Letter_sender : NoAttr K t.a_Letter "sender"
  n_Letter_to : NoAttr K t.a_Letter "to"
  c_ToOne : Cls K t.a_ToOne
  g_ToOne : mg "ToOne" = some (.ref t.a_ToOne)
  n_ToOne_sender : NoAttr K t.a_ToOne "sender"
  n_ToOne_to : NoAttr K t.a_ToOne "to"
  c_ToAll : Cls K t.a_ToAll
  g_ToAll : mg "ToAll" = some (.ref t.a_ToAll)
  n_ToAll_sender : NoAttr K t.a_ToAll "sender"
  n_ToAll_to : NoAttr K t.a_ToAll "to"
  c_Book : Cls K t.a_Book
  g_Book : mg "Book" = some (.ref t.a_Book)
  n_Book_kept : NoAttr K t.a_Book "kept"
  m_ToAll_seeks : Meth K t.a_ToAll "seeks" t.f_Letter_seeks
  K_ToAll : Mk K t.a_ToAll t.f_Letteru_initu
  cf_Letteru_initu : ClsFn K t.a_Letter "__init__" t.f_Letteru_initu
  n_len : mg "len" = none
  n_isinstance : mg "isinstance" = none
  n_int : mg "int" = none
  n_bool : mg "bool" = none
  n_list : mg "list" = none
  n_tuple : mg "tuple" = none
  n_range : mg "range" = none
  n_min : mg "min" = none
  n_sorted : mg "sorted" = none
  n_zip : mg "zip" = none
theorem el1 {α : Type} {M : List α → Prop} (h : ∀ x0, M [x0]) : ∀ us : List α, us.length = 1 → M us
  | [_], _ => h _
theorem el2 {α : Type} {M : List α → Prop} (h : ∀ x0 x1, M [x0, x1]) : ∀ us : List α, us.length = 2 → M us
  | [_, _], _ => h _ _
theorem el3 {α : Type} {M : List α → Prop} (h : ∀ x0 x1 x2, M [x0, x1, x2]) : ∀ us : List α, us.length = 3 → M us
  | [_, _, _], _ => h _ _ _
theorem el4 {α : Type} {M : List α → Prop} (h : ∀ x0 x1 x2 x3, M [x0, x1, x2, x3]) : ∀ us : List α, us.length = 4 → M us
  | [_, _, _, _], _ => h _ _ _ _
theorem el6 {α : Type} {M : List α → Prop} (h : ∀ x0 x1 x2 x3 x4 x5, M [x0, x1, x2, x3, x4, x5]) : ∀ us : List α, us.length = 6 → M us
  | [_, _, _, _, _, _], _ => h _ _ _ _ _ _
theorem el7 {α : Type} {M : List α → Prop} (h : ∀ x0 x1 x2 x3 x4 x5 x6, M [x0, x1, x2, x3, x4, x5, x6]) : ∀ us : List α, us.length = 7 → M us
  | [_, _, _, _, _, _, _], _ => h _ _ _ _ _ _ _
theorem txt_mk {K : PySem.W.Frag} {h : Heap} {mg : Str → Option Value} (X : K.In h) (G : h.Ns mainGlobals mg) {oc_targets kV_targets dc_targets pm_targets cd_targets ct_targets : Value} {od_targets an_targets : Option Addr} {sl_targets : Array (Option Value)} {f_targets : Addr}
    {oc_ropes_on kV_ropes_on dc_ropes_on pm_ropes_on cd_ropes_on ct_ropes_on : Value} {od_ropes_on an_ropes_on : Option Addr} {sl_ropes_on : Array (Option Value)} {f_ropes_on : Addr}
    {oc_Booku_initu kV_Booku_initu dc_Booku_initu pm_Booku_initu cd_Booku_initu ct_Booku_initu : Value} {od_Booku_initu an_Booku_initu : Option Addr} {sl_Booku_initu : Array (Option Value)} {f_Booku_initu : Addr}
    {oc_Book_learn kV_Book_learn dc_Book_learn pm_Book_learn cd_Book_learn ct_Book_learn : Value} {od_Book_learn an_Book_learn : Option Addr} {sl_Book_learn : Array (Option Value)} {f_Book_learn : Addr}
    {oc_Book_known kV_Book_known dc_Book_known pm_Book_known cd_Book_known ct_Book_known : Value} {od_Book_known an_Book_known : Option Addr} {sl_Book_known : Array (Option Value)} {f_Book_known : Addr}
    {oc_Book_notes kV_Book_notes dc_Book_notes pm_Book_notes cd_Book_notes ct_Book_notes : Value} {od_Book_notes an_Book_notes : Option Addr} {sl_Book_notes : Array (Option Value)} {f_Book_notes : Addr}
    {oc_Letteru_initu kV_Letteru_initu dc_Letteru_initu pm_Letteru_initu cd_Letteru_initu ct_Letteru_initu : Value} {od_Letteru_initu an_Letteru_initu : Option Addr} {sl_Letteru_initu : Array (Option Value)} {f_Letteru_initu : Addr}
    {oc_Letter_meant kV_Letter_meant dc_Letter_meant pm_Letter_meant cd_Letter_meant ct_Letter_meant : Value} {od_Letter_meant an_Letter_meant : Option Addr} {sl_Letter_meant : Array (Option Value)} {f_Letter_meant : Addr}
    {oc_Letter_seeks kV_Letter_seeks dc_Letter_seeks pm_Letter_seeks cd_Letter_seeks ct_Letter_seeks : Value} {od_Letter_seeks an_Letter_seeks : Option Addr} {sl_Letter_seeks : Array (Option Value)} {f_Letter_seeks : Addr}
    {oc_ToOneu_initu kV_ToOneu_initu dc_ToOneu_initu pm_ToOneu_initu cd_ToOneu_initu ct_ToOneu_initu : Value} {od_ToOneu_initu an_ToOneu_initu : Option Addr} {sl_ToOneu_initu : Array (Option Value)} {f_ToOneu_initu : Addr}
    {oc_ToOne_meant kV_ToOne_meant dc_ToOne_meant pm_ToOne_meant cd_ToOne_meant ct_ToOne_meant : Value} {od_ToOne_meant an_ToOne_meant : Option Addr} {sl_ToOne_meant : Array (Option Value)} {f_ToOne_meant : Addr}
    {oc_ToOne_seeks kV_ToOne_seeks dc_ToOne_seeks pm_ToOne_seeks cd_ToOne_seeks ct_ToOne_seeks : Value} {od_ToOne_seeks an_ToOne_seeks : Option Addr} {sl_ToOne_seeks : Array (Option Value)} {f_ToOne_seeks : Addr}
    {oc_ToAll_meant kV_ToAll_meant dc_ToAll_meant pm_ToAll_meant cd_ToAll_meant ct_ToAll_meant : Value} {od_ToAll_meant an_ToAll_meant : Option Addr} {sl_ToAll_meant : Array (Option Value)} {f_ToAll_meant : Addr}
    {oc_w_cell kV_w_cell dc_w_cell pm_w_cell cd_w_cell ct_w_cell : Value} {od_w_cell an_w_cell : Option Addr} {sl_w_cell : Array (Option Value)} {f_w_cell : Addr}
    {oc_w_whole kV_w_whole dc_w_whole pm_w_whole cd_w_whole ct_w_whole : Value} {od_w_whole an_w_whole : Option Addr} {sl_w_whole : Array (Option Value)} {f_w_whole : Addr}
    {oc_w_numbers kV_w_numbers dc_w_numbers pm_w_numbers cd_w_numbers ct_w_numbers : Value} {od_w_numbers an_w_numbers : Option Addr} {sl_w_numbers : Array (Option Value)} {f_w_numbers : Addr}
    {oc_w_some kV_w_some dc_w_some pm_w_some cd_w_some ct_w_some : Value} {od_w_some an_w_some : Option Addr} {sl_w_some : Array (Option Value)} {f_w_some : Addr}
    {oc_w_letter kV_w_letter dc_w_letter pm_w_letter cd_w_letter ct_w_letter : Value} {od_w_letter an_w_letter : Option Addr} {sl_w_letter : Array (Option Value)} {f_w_letter : Addr}
    {oc_w_handed kV_w_handed dc_w_handed pm_w_handed cd_w_handed ct_w_handed : Value} {od_w_handed an_w_handed : Option Addr} {sl_w_handed : Array (Option Value)} {f_w_handed : Addr}
    {oc_w_goes kV_w_goes dc_w_goes pm_w_goes cd_w_goes ct_w_goes : Value} {od_w_goes an_w_goes : Option Addr} {sl_w_goes : Array (Option Value)} {f_w_goes : Addr}
    {oc_w_told kV_w_told dc_w_told pm_w_told cd_w_told ct_w_told : Value} {od_w_told an_w_told : Option Addr} {sl_w_told : Array (Option Value)} {f_w_told : Addr}
    {oc_w_asked kV_w_asked dc_w_asked pm_w_asked cd_w_asked ct_w_asked : Value} {od_w_asked an_w_asked : Option Addr} {sl_w_asked : Array (Option Value)} {f_w_asked : Addr}
    {oc_law kV_law dc_law pm_law cd_law ct_law : Value} {od_law an_law : Option Addr} {sl_law : Array (Option Value)} {f_law : Addr}
    {C_Letter : Addr}
    {C_ToOne : Addr}
    {C_ToAll : Addr}
    {C_Book : Addr}
    (aC_Letter : PySem.W.nsIn K mainGlobals "Letter" = some (some (.ref C_Letter)))
    (aC_ToOne : PySem.W.nsIn K mainGlobals "ToOne" = some (some (.ref C_ToOne)))
    (aC_ToAll : PySem.W.nsIn K mainGlobals "ToAll" = some (some (.ref C_ToAll)))
    (aC_Book : PySem.W.nsIn K mainGlobals "Book" = some (some (.ref C_Book)))
    (a_targets : PySem.W.nsIn K mainGlobals "targets" = some (some (.ref f_targets)))
    (l_targets : K.lookup f_targets = some ⟨oc_targets, od_targets, .func (PySem.W.fnOf "targets" "targets" (defArgs s_targets) (defBody s_targets) (defScope s_targets) .none kV_targets dc_targets pm_targets an_targets cd_targets ct_targets), sl_targets⟩)
    (c_targets : PySem.W.codeIn K cd_targets "targets" = true)
    (k_targets : PySem.W.keepIn K (.ref f_targets) = true)
    (a_ropes_on : PySem.W.nsIn K mainGlobals "ropes_on" = some (some (.ref f_ropes_on)))
    (l_ropes_on : K.lookup f_ropes_on = some ⟨oc_ropes_on, od_ropes_on, .func (PySem.W.fnOf "ropes_on" "ropes_on" (defArgs s_ropes_on) (defBody s_ropes_on) (defScope s_ropes_on) .none kV_ropes_on dc_ropes_on pm_ropes_on an_ropes_on cd_ropes_on ct_ropes_on), sl_ropes_on⟩)
    (c_ropes_on : PySem.W.codeIn K cd_ropes_on "ropes_on" = true)
    (k_ropes_on : PySem.W.keepIn K (.ref f_ropes_on) = true)
    (a_Booku_initu : PySem.W.findIn K (.ref C_Book) "__init__" = some (some (.ref f_Booku_initu)))
    (i_Booku_initu : PySem.W.isFn K (.ref f_Booku_initu) = true)
    (l_Booku_initu : K.lookup f_Booku_initu = some ⟨oc_Booku_initu, od_Booku_initu, .func (PySem.W.fnOf "__init__" "Book.__init__" (defArgs s_Booku_initu) (defBody s_Booku_initu) (defScope s_Booku_initu) .none kV_Booku_initu dc_Booku_initu pm_Booku_initu an_Booku_initu cd_Booku_initu ct_Booku_initu), sl_Booku_initu⟩)
    (c_Booku_initu : PySem.W.codeIn K cd_Booku_initu "Book.__init__" = true)
    (k_Booku_initu : PySem.W.keepIn K (.ref f_Booku_initu) = true)
    (a_Book_learn : PySem.W.findIn K (.ref C_Book) "learn" = some (some (.ref f_Book_learn)))
    (i_Book_learn : PySem.W.isFn K (.ref f_Book_learn) = true)
    (l_Book_learn : K.lookup f_Book_learn = some ⟨oc_Book_learn, od_Book_learn, .func (PySem.W.fnOf "learn" "Book.learn" (defArgs s_Book_learn) (defBody s_Book_learn) (defScope s_Book_learn) .none kV_Book_learn dc_Book_learn pm_Book_learn an_Book_learn cd_Book_learn ct_Book_learn), sl_Book_learn⟩)
    (c_Book_learn : PySem.W.codeIn K cd_Book_learn "Book.learn" = true)
    (k_Book_learn : PySem.W.keepIn K (.ref f_Book_learn) = true)
    (a_Book_known : PySem.W.findIn K (.ref C_Book) "known" = some (some (.ref f_Book_known)))
    (i_Book_known : PySem.W.isFn K (.ref f_Book_known) = true)
    (l_Book_known : K.lookup f_Book_known = some ⟨oc_Book_known, od_Book_known, .func (PySem.W.fnOf "known" "Book.known" (defArgs s_Book_known) (defBody s_Book_known) (defScope s_Book_known) .none kV_Book_known dc_Book_known pm_Book_known an_Book_known cd_Book_known ct_Book_known), sl_Book_known⟩)
    (c_Book_known : PySem.W.codeIn K cd_Book_known "Book.known" = true)
    (k_Book_known : PySem.W.keepIn K (.ref f_Book_known) = true)
    (a_Book_notes : PySem.W.findIn K (.ref C_Book) "notes" = some (some (.ref f_Book_notes)))
    (i_Book_notes : PySem.W.isFn K (.ref f_Book_notes) = true)
    (l_Book_notes : K.lookup f_Book_notes = some ⟨oc_Book_notes, od_Book_notes, .func (PySem.W.fnOf "notes" "Book.notes" (defArgs s_Book_notes) (defBody s_Book_notes) (defScope s_Book_notes) .none kV_Book_notes dc_Book_notes pm_Book_notes an_Book_notes cd_Book_notes ct_Book_notes), sl_Book_notes⟩)
    (c_Book_notes : PySem.W.codeIn K cd_Book_notes "Book.notes" = true)
    (k_Book_notes : PySem.W.keepIn K (.ref f_Book_notes) = true)
    (a_Letteru_initu : PySem.W.findIn K (.ref C_Letter) "__init__" = some (some (.ref f_Letteru_initu)))
    (i_Letteru_initu : PySem.W.isFn K (.ref f_Letteru_initu) = true)
    (l_Letteru_initu : K.lookup f_Letteru_initu = some ⟨oc_Letteru_initu, od_Letteru_initu, .func (PySem.W.fnOf "__init__" "Letter.__init__" (defArgs s_Letteru_initu) (defBody s_Letteru_initu) (defScope s_Letteru_initu) .none kV_Letteru_initu dc_Letteru_initu pm_Letteru_initu an_Letteru_initu cd_Letteru_initu ct_Letteru_initu), sl_Letteru_initu⟩)
    (c_Letteru_initu : PySem.W.codeIn K cd_Letteru_initu "Letter.__init__" = true)
    (k_Letteru_initu : PySem.W.keepIn K (.ref f_Letteru_initu) = true)
    (a_Letter_meant : PySem.W.findIn K (.ref C_Letter) "meant" = some (some (.ref f_Letter_meant)))
    (i_Letter_meant : PySem.W.isFn K (.ref f_Letter_meant) = true)
    (l_Letter_meant : K.lookup f_Letter_meant = some ⟨oc_Letter_meant, od_Letter_meant, .func (PySem.W.fnOf "meant" "Letter.meant" (defArgs s_Letter_meant) (defBody s_Letter_meant) (defScope s_Letter_meant) .none kV_Letter_meant dc_Letter_meant pm_Letter_meant an_Letter_meant cd_Letter_meant ct_Letter_meant), sl_Letter_meant⟩)
    (c_Letter_meant : PySem.W.codeIn K cd_Letter_meant "Letter.meant" = true)
    (k_Letter_meant : PySem.W.keepIn K (.ref f_Letter_meant) = true)
    (a_Letter_seeks : PySem.W.findIn K (.ref C_Letter) "seeks" = some (some (.ref f_Letter_seeks)))
    (i_Letter_seeks : PySem.W.isFn K (.ref f_Letter_seeks) = true)
    (l_Letter_seeks : K.lookup f_Letter_seeks = some ⟨oc_Letter_seeks, od_Letter_seeks, .func (PySem.W.fnOf "seeks" "Letter.seeks" (defArgs s_Letter_seeks) (defBody s_Letter_seeks) (defScope s_Letter_seeks) .none kV_Letter_seeks dc_Letter_seeks pm_Letter_seeks an_Letter_seeks cd_Letter_seeks ct_Letter_seeks), sl_Letter_seeks⟩)
    (c_Letter_seeks : PySem.W.codeIn K cd_Letter_seeks "Letter.seeks" = true)
    (k_Letter_seeks : PySem.W.keepIn K (.ref f_Letter_seeks) = true)
    (a_ToOneu_initu : PySem.W.findIn K (.ref C_ToOne) "__init__" = some (some (.ref f_ToOneu_initu)))
    (i_ToOneu_initu : PySem.W.isFn K (.ref f_ToOneu_initu) = true)
    (l_ToOneu_initu : K.lookup f_ToOneu_initu = some ⟨oc_ToOneu_initu, od_ToOneu_initu, .func (PySem.W.fnOf "__init__" "ToOne.__init__" (defArgs s_ToOneu_initu) (defBody s_ToOneu_initu) (defScope s_ToOneu_initu) .none kV_ToOneu_initu dc_ToOneu_initu pm_ToOneu_initu an_ToOneu_initu cd_ToOneu_initu ct_ToOneu_initu), sl_ToOneu_initu⟩)
    (c_ToOneu_initu : PySem.W.codeIn K cd_ToOneu_initu "ToOne.__init__" = true)
    (k_ToOneu_initu : PySem.W.keepIn K (.ref f_ToOneu_initu) = true)
    (a_ToOne_meant : PySem.W.findIn K (.ref C_ToOne) "meant" = some (some (.ref f_ToOne_meant)))
    (i_ToOne_meant : PySem.W.isFn K (.ref f_ToOne_meant) = true)
    (l_ToOne_meant : K.lookup f_ToOne_meant = some ⟨oc_ToOne_meant, od_ToOne_meant, .func (PySem.W.fnOf "meant" "ToOne.meant" (defArgs s_ToOne_meant) (defBody s_ToOne_meant) (defScope s_ToOne_meant) .none kV_ToOne_meant dc_ToOne_meant pm_ToOne_meant an_ToOne_meant cd_ToOne_meant ct_ToOne_meant), sl_ToOne_meant⟩)
    (c_ToOne_meant : PySem.W.codeIn K cd_ToOne_meant "ToOne.meant" = true)
    (k_ToOne_meant : PySem.W.keepIn K (.ref f_ToOne_meant) = true)
    (a_ToOne_seeks : PySem.W.findIn K (.ref C_ToOne) "seeks" = some (some (.ref f_ToOne_seeks)))
    (i_ToOne_seeks : PySem.W.isFn K (.ref f_ToOne_seeks) = true)
    (l_ToOne_seeks : K.lookup f_ToOne_seeks = some ⟨oc_ToOne_seeks, od_ToOne_seeks, .func (PySem.W.fnOf "seeks" "ToOne.seeks" (defArgs s_ToOne_seeks) (defBody s_ToOne_seeks) (defScope s_ToOne_seeks) .none kV_ToOne_seeks dc_ToOne_seeks pm_ToOne_seeks an_ToOne_seeks cd_ToOne_seeks ct_ToOne_seeks), sl_ToOne_seeks⟩)
    (c_ToOne_seeks : PySem.W.codeIn K cd_ToOne_seeks "ToOne.seeks" = true)
    (k_ToOne_seeks : PySem.W.keepIn K (.ref f_ToOne_seeks) = true)
    (a_ToAll_meant : PySem.W.findIn K (.ref C_ToAll) "meant" = some (some (.ref f_ToAll_meant)))
    (i_ToAll_meant : PySem.W.isFn K (.ref f_ToAll_meant) = true)
    (l_ToAll_meant : K.lookup f_ToAll_meant = some ⟨oc_ToAll_meant, od_ToAll_meant, .func (PySem.W.fnOf "meant" "ToAll.meant" (defArgs s_ToAll_meant) (defBody s_ToAll_meant) (defScope s_ToAll_meant) .none kV_ToAll_meant dc_ToAll_meant pm_ToAll_meant an_ToAll_meant cd_ToAll_meant ct_ToAll_meant), sl_ToAll_meant⟩)
    (c_ToAll_meant : PySem.W.codeIn K cd_ToAll_meant "ToAll.meant" = true)
    (k_ToAll_meant : PySem.W.keepIn K (.ref f_ToAll_meant) = true)
    (a_w_cell : PySem.W.nsIn K mainGlobals "_law_cell" = some (some (.ref f_w_cell)))
    (l_w_cell : K.lookup f_w_cell = some ⟨oc_w_cell, od_w_cell, .func (PySem.W.fnOf "_law_cell" "_law_cell" (defArgs s_w_cell) (defBody s_w_cell) (defScope s_w_cell) .none kV_w_cell dc_w_cell pm_w_cell an_w_cell cd_w_cell ct_w_cell), sl_w_cell⟩)
    (c_w_cell : PySem.W.codeIn K cd_w_cell "_law_cell" = true)
    (k_w_cell : PySem.W.keepIn K (.ref f_w_cell) = true)
    (a_w_whole : PySem.W.nsIn K mainGlobals "_law_whole" = some (some (.ref f_w_whole)))
    (l_w_whole : K.lookup f_w_whole = some ⟨oc_w_whole, od_w_whole, .func (PySem.W.fnOf "_law_whole" "_law_whole" (defArgs s_w_whole) (defBody s_w_whole) (defScope s_w_whole) .none kV_w_whole dc_w_whole pm_w_whole an_w_whole cd_w_whole ct_w_whole), sl_w_whole⟩)
    (c_w_whole : PySem.W.codeIn K cd_w_whole "_law_whole" = true)
    (k_w_whole : PySem.W.keepIn K (.ref f_w_whole) = true)
    (a_w_numbers : PySem.W.nsIn K mainGlobals "_law_numbers" = some (some (.ref f_w_numbers)))
    (l_w_numbers : K.lookup f_w_numbers = some ⟨oc_w_numbers, od_w_numbers, .func (PySem.W.fnOf "_law_numbers" "_law_numbers" (defArgs s_w_numbers) (defBody s_w_numbers) (defScope s_w_numbers) .none kV_w_numbers dc_w_numbers pm_w_numbers an_w_numbers cd_w_numbers ct_w_numbers), sl_w_numbers⟩)
    (c_w_numbers : PySem.W.codeIn K cd_w_numbers "_law_numbers" = true)
    (k_w_numbers : PySem.W.keepIn K (.ref f_w_numbers) = true)
    (a_w_some : PySem.W.nsIn K mainGlobals "_law_some" = some (some (.ref f_w_some)))
    (l_w_some : K.lookup f_w_some = some ⟨oc_w_some, od_w_some, .func (PySem.W.fnOf "_law_some" "_law_some" (defArgs s_w_some) (defBody s_w_some) (defScope s_w_some) .none kV_w_some dc_w_some pm_w_some an_w_some cd_w_some ct_w_some), sl_w_some⟩)
    (c_w_some : PySem.W.codeIn K cd_w_some "_law_some" = true)
    (k_w_some : PySem.W.keepIn K (.ref f_w_some) = true)
    (a_w_letter : PySem.W.nsIn K mainGlobals "_law_letter" = some (some (.ref f_w_letter)))
    (l_w_letter : K.lookup f_w_letter = some ⟨oc_w_letter, od_w_letter, .func (PySem.W.fnOf "_law_letter" "_law_letter" (defArgs s_w_letter) (defBody s_w_letter) (defScope s_w_letter) .none kV_w_letter dc_w_letter pm_w_letter an_w_letter cd_w_letter ct_w_letter), sl_w_letter⟩)
    (c_w_letter : PySem.W.codeIn K cd_w_letter "_law_letter" = true)
    (k_w_letter : PySem.W.keepIn K (.ref f_w_letter) = true)
    (a_w_handed : PySem.W.nsIn K mainGlobals "_law_handed" = some (some (.ref f_w_handed)))
    (l_w_handed : K.lookup f_w_handed = some ⟨oc_w_handed, od_w_handed, .func (PySem.W.fnOf "_law_handed" "_law_handed" (defArgs s_w_handed) (defBody s_w_handed) (defScope s_w_handed) .none kV_w_handed dc_w_handed pm_w_handed an_w_handed cd_w_handed ct_w_handed), sl_w_handed⟩)
    (c_w_handed : PySem.W.codeIn K cd_w_handed "_law_handed" = true)
    (k_w_handed : PySem.W.keepIn K (.ref f_w_handed) = true)
    (a_w_goes : PySem.W.nsIn K mainGlobals "_law_goes" = some (some (.ref f_w_goes)))
    (l_w_goes : K.lookup f_w_goes = some ⟨oc_w_goes, od_w_goes, .func (PySem.W.fnOf "_law_goes" "_law_goes" (defArgs s_w_goes) (defBody s_w_goes) (defScope s_w_goes) .none kV_w_goes dc_w_goes pm_w_goes an_w_goes cd_w_goes ct_w_goes), sl_w_goes⟩)
    (c_w_goes : PySem.W.codeIn K cd_w_goes "_law_goes" = true)
    (k_w_goes : PySem.W.keepIn K (.ref f_w_goes) = true)
    (a_w_told : PySem.W.nsIn K mainGlobals "_law_told" = some (some (.ref f_w_told)))
    (l_w_told : K.lookup f_w_told = some ⟨oc_w_told, od_w_told, .func (PySem.W.fnOf "_law_told" "_law_told" (defArgs s_w_told) (defBody s_w_told) (defScope s_w_told) .none kV_w_told dc_w_told pm_w_told an_w_told cd_w_told ct_w_told), sl_w_told⟩)
    (c_w_told : PySem.W.codeIn K cd_w_told "_law_told" = true)
    (k_w_told : PySem.W.keepIn K (.ref f_w_told) = true)
    (a_w_asked : PySem.W.nsIn K mainGlobals "_law_asked" = some (some (.ref f_w_asked)))
    (l_w_asked : K.lookup f_w_asked = some ⟨oc_w_asked, od_w_asked, .func (PySem.W.fnOf "_law_asked" "_law_asked" (defArgs s_w_asked) (defBody s_w_asked) (defScope s_w_asked) .none kV_w_asked dc_w_asked pm_w_asked an_w_asked cd_w_asked ct_w_asked), sl_w_asked⟩)
    (c_w_asked : PySem.W.codeIn K cd_w_asked "_law_asked" = true)
    (k_w_asked : PySem.W.keepIn K (.ref f_w_asked) = true)
    (a_law : PySem.W.nsIn K mainGlobals "law" = some (some (.ref f_law)))
    (l_law : K.lookup f_law = some ⟨oc_law, od_law, .func (PySem.W.fnOf "law" "law" (defArgs s_law) (defBody s_law) (defScope s_law) .none kV_law dc_law pm_law an_law cd_law ct_law), sl_law⟩)
    (c_law : PySem.W.codeIn K cd_law "law" = true)
    (k_law : PySem.W.keepIn K (.ref f_law) = true)
    (pg_Letter : PySem.W.plainGet K C_Letter Str.empty = true)
    (hd_Letter : PySem.W.hasDictIn K C_Letter = true)
    (po_Letter : PySem.W.plainOver K C_Letter = true)
    (sa_Letter : PySem.W.findIn K (.ref C_Letter) "__setattr__" = some (some (.builtin "object.__setattr__")))
    (mk_Letter : PySem.W.makesIn K C_Letter = true)
    (kc_Letter : PySem.W.keepIn K (.ref C_Letter) = true)
    (nA_Letter_sender : PySem.W.findIn K (.ref C_Letter) "sender" = some none)
    (nA_Letter_to : PySem.W.findIn K (.ref C_Letter) "to" = some none)
    (pg_ToOne : PySem.W.plainGet K C_ToOne Str.empty = true)
    (hd_ToOne : PySem.W.hasDictIn K C_ToOne = true)
    (po_ToOne : PySem.W.plainOver K C_ToOne = true)
    (sa_ToOne : PySem.W.findIn K (.ref C_ToOne) "__setattr__" = some (some (.builtin "object.__setattr__")))
    (mk_ToOne : PySem.W.makesIn K C_ToOne = true)
    (kc_ToOne : PySem.W.keepIn K (.ref C_ToOne) = true)
    (nA_ToOne_sender : PySem.W.findIn K (.ref C_ToOne) "sender" = some none)
    (nA_ToOne_to : PySem.W.findIn K (.ref C_ToOne) "to" = some none)
    (pg_ToAll : PySem.W.plainGet K C_ToAll Str.empty = true)
    (hd_ToAll : PySem.W.hasDictIn K C_ToAll = true)
    (po_ToAll : PySem.W.plainOver K C_ToAll = true)
    (sa_ToAll : PySem.W.findIn K (.ref C_ToAll) "__setattr__" = some (some (.builtin "object.__setattr__")))
    (mk_ToAll : PySem.W.makesIn K C_ToAll = true)
    (kc_ToAll : PySem.W.keepIn K (.ref C_ToAll) = true)
    (nA_ToAll_sender : PySem.W.findIn K (.ref C_ToAll) "sender" = some none)
    (nA_ToAll_to : PySem.W.findIn K (.ref C_ToAll) "to" = some none)
    (pg_Book : PySem.W.plainGet K C_Book Str.empty = true)
    (hd_Book : PySem.W.hasDictIn K C_Book = true)
    (po_Book : PySem.W.plainOver K C_Book = true)
    (sa_Book : PySem.W.findIn K (.ref C_Book) "__setattr__" = some (some (.builtin "object.__setattr__")))
    (mk_Book : PySem.W.makesIn K C_Book = true)
    (kc_Book : PySem.W.keepIn K (.ref C_Book) = true)
    (nA_Book_kept : PySem.W.findIn K (.ref C_Book) "kept" = some none)
    (ih_ToAll_seeks : PySem.W.findIn K (.ref C_ToAll) "seeks" = some (some (.ref f_Letter_seeks)))
    (ii_ToAll : PySem.W.findIn K (.ref C_ToAll) "__init__" = some (some (.ref f_Letteru_initu)))
    (cg_Letteru_initu : PySem.W.specialIn K (.ref C_Letter) "__getattribute__" = some (some (.builtin "type.__getattribute__")))
    (cr_Letteru_initu : PySem.W.readsIn K C_Letter (.type "type") = true)
    (cm_Letteru_initu : PySem.W.findCls K (.ref C_Letter) (.type "type") "__init__" = some (.val (.ref f_Letteru_initu)))
    (z_len : PySem.W.nsIn K mainGlobals "len" = some none)
    (z_isinstance : PySem.W.nsIn K mainGlobals "isinstance" = some none)
    (z_int : PySem.W.nsIn K mainGlobals "int" = some none)
    (z_bool : PySem.W.nsIn K mainGlobals "bool" = some none)
    (z_list : PySem.W.nsIn K mainGlobals "list" = some none)
    (z_tuple : PySem.W.nsIn K mainGlobals "tuple" = some none)
    (z_range : PySem.W.nsIn K mainGlobals "range" = some none)
    (z_min : PySem.W.nsIn K mainGlobals "min" = some none)
    (z_sorted : PySem.W.nsIn K mainGlobals "sorted" = some none)
    (z_zip : PySem.W.nsIn K mainGlobals "zip" = some none) : ∃ t, Txt K mg t := by
  have F_targets := fun_mk (st := s_targets) l_targets c_targets k_targets
  have F_ropes_on := fun_mk (st := s_ropes_on) l_ropes_on c_ropes_on k_ropes_on
  have F_Booku_initu := fun_mk (st := s_Booku_initu) l_Booku_initu c_Booku_initu k_Booku_initu
  have F_Book_learn := fun_mk (st := s_Book_learn) l_Book_learn c_Book_learn k_Book_learn
  have F_Book_known := fun_mk (st := s_Book_known) l_Book_known c_Book_known k_Book_known
  have F_Book_notes := fun_mk (st := s_Book_notes) l_Book_notes c_Book_notes k_Book_notes
  have F_Letteru_initu := fun_mk (st := s_Letteru_initu) l_Letteru_initu c_Letteru_initu k_Letteru_initu
  have F_Letter_meant := fun_mk (st := s_Letter_meant) l_Letter_meant c_Letter_meant k_Letter_meant
  have F_Letter_seeks := fun_mk (st := s_Letter_seeks) l_Letter_seeks c_Letter_seeks k_Letter_seeks
  have F_ToOneu_initu := fun_mk (st := s_ToOneu_initu) l_ToOneu_initu c_ToOneu_initu k_ToOneu_initu
  have F_ToOne_meant := fun_mk (st := s_ToOne_meant) l_ToOne_meant c_ToOne_meant k_ToOne_meant
  have F_ToOne_seeks := fun_mk (st := s_ToOne_seeks) l_ToOne_seeks c_ToOne_seeks k_ToOne_seeks
  have F_ToAll_meant := fun_mk (st := s_ToAll_meant) l_ToAll_meant c_ToAll_meant k_ToAll_meant
  have F_w_cell := fun_mk (st := s_w_cell) l_w_cell c_w_cell k_w_cell
  have F_w_whole := fun_mk (st := s_w_whole) l_w_whole c_w_whole k_w_whole
  have F_w_numbers := fun_mk (st := s_w_numbers) l_w_numbers c_w_numbers k_w_numbers
  have F_w_some := fun_mk (st := s_w_some) l_w_some c_w_some k_w_some
  have F_w_letter := fun_mk (st := s_w_letter) l_w_letter c_w_letter k_w_letter
  have F_w_handed := fun_mk (st := s_w_handed) l_w_handed c_w_handed k_w_handed
  have F_w_goes := fun_mk (st := s_w_goes) l_w_goes c_w_goes k_w_goes
  have F_w_told := fun_mk (st := s_w_told) l_w_told c_w_told k_w_told
  have F_w_asked := fun_mk (st := s_w_asked) l_w_asked c_w_asked k_w_asked
  have F_law := fun_mk (st := s_law) l_law c_law k_law
  exact ⟨⟨f_targets, (PySem.W.fnOf "targets" "targets" (defArgs s_targets) (defBody s_targets) (defScope s_targets) .none kV_targets dc_targets pm_targets an_targets cd_targets ct_targets), f_ropes_on, (PySem.W.fnOf "ropes_on" "ropes_on" (defArgs s_ropes_on) (defBody s_ropes_on) (defScope s_ropes_on) .none kV_ropes_on dc_ropes_on pm_ropes_on an_ropes_on cd_ropes_on ct_ropes_on), f_Booku_initu, (PySem.W.fnOf "__init__" "Book.__init__" (defArgs s_Booku_initu) (defBody s_Booku_initu) (defScope s_Booku_initu) .none kV_Booku_initu dc_Booku_initu pm_Booku_initu an_Booku_initu cd_Booku_initu ct_Booku_initu), f_Book_learn, (PySem.W.fnOf "learn" "Book.learn" (defArgs s_Book_learn) (defBody s_Book_learn) (defScope s_Book_learn) .none kV_Book_learn dc_Book_learn pm_Book_learn an_Book_learn cd_Book_learn ct_Book_learn), f_Book_known, (PySem.W.fnOf "known" "Book.known" (defArgs s_Book_known) (defBody s_Book_known) (defScope s_Book_known) .none kV_Book_known dc_Book_known pm_Book_known an_Book_known cd_Book_known ct_Book_known), f_Book_notes, (PySem.W.fnOf "notes" "Book.notes" (defArgs s_Book_notes) (defBody s_Book_notes) (defScope s_Book_notes) .none kV_Book_notes dc_Book_notes pm_Book_notes an_Book_notes cd_Book_notes ct_Book_notes), f_Letteru_initu, (PySem.W.fnOf "__init__" "Letter.__init__" (defArgs s_Letteru_initu) (defBody s_Letteru_initu) (defScope s_Letteru_initu) .none kV_Letteru_initu dc_Letteru_initu pm_Letteru_initu an_Letteru_initu cd_Letteru_initu ct_Letteru_initu), f_Letter_meant, (PySem.W.fnOf "meant" "Letter.meant" (defArgs s_Letter_meant) (defBody s_Letter_meant) (defScope s_Letter_meant) .none kV_Letter_meant dc_Letter_meant pm_Letter_meant an_Letter_meant cd_Letter_meant ct_Letter_meant), f_Letter_seeks, (PySem.W.fnOf "seeks" "Letter.seeks" (defArgs s_Letter_seeks) (defBody s_Letter_seeks) (defScope s_Letter_seeks) .none kV_Letter_seeks dc_Letter_seeks pm_Letter_seeks an_Letter_seeks cd_Letter_seeks ct_Letter_seeks), f_ToOneu_initu, (PySem.W.fnOf "__init__" "ToOne.__init__" (defArgs s_ToOneu_initu) (defBody s_ToOneu_initu) (defScope s_ToOneu_initu) .none kV_ToOneu_initu dc_ToOneu_initu pm_ToOneu_initu an_ToOneu_initu cd_ToOneu_initu ct_ToOneu_initu), f_ToOne_meant, (PySem.W.fnOf "meant" "ToOne.meant" (defArgs s_ToOne_meant) (defBody s_ToOne_meant) (defScope s_ToOne_meant) .none kV_ToOne_meant dc_ToOne_meant pm_ToOne_meant an_ToOne_meant cd_ToOne_meant ct_ToOne_meant), f_ToOne_seeks, (PySem.W.fnOf "seeks" "ToOne.seeks" (defArgs s_ToOne_seeks) (defBody s_ToOne_seeks) (defScope s_ToOne_seeks) .none kV_ToOne_seeks dc_ToOne_seeks pm_ToOne_seeks an_ToOne_seeks cd_ToOne_seeks ct_ToOne_seeks), f_ToAll_meant, (PySem.W.fnOf "meant" "ToAll.meant" (defArgs s_ToAll_meant) (defBody s_ToAll_meant) (defScope s_ToAll_meant) .none kV_ToAll_meant dc_ToAll_meant pm_ToAll_meant an_ToAll_meant cd_ToAll_meant ct_ToAll_meant), f_w_cell, (PySem.W.fnOf "_law_cell" "_law_cell" (defArgs s_w_cell) (defBody s_w_cell) (defScope s_w_cell) .none kV_w_cell dc_w_cell pm_w_cell an_w_cell cd_w_cell ct_w_cell), f_w_whole, (PySem.W.fnOf "_law_whole" "_law_whole" (defArgs s_w_whole) (defBody s_w_whole) (defScope s_w_whole) .none kV_w_whole dc_w_whole pm_w_whole an_w_whole cd_w_whole ct_w_whole), f_w_numbers, (PySem.W.fnOf "_law_numbers" "_law_numbers" (defArgs s_w_numbers) (defBody s_w_numbers) (defScope s_w_numbers) .none kV_w_numbers dc_w_numbers pm_w_numbers an_w_numbers cd_w_numbers ct_w_numbers), f_w_some, (PySem.W.fnOf "_law_some" "_law_some" (defArgs s_w_some) (defBody s_w_some) (defScope s_w_some) .none kV_w_some dc_w_some pm_w_some an_w_some cd_w_some ct_w_some), f_w_letter, (PySem.W.fnOf "_law_letter" "_law_letter" (defArgs s_w_letter) (defBody s_w_letter) (defScope s_w_letter) .none kV_w_letter dc_w_letter pm_w_letter an_w_letter cd_w_letter ct_w_letter), f_w_handed, (PySem.W.fnOf "_law_handed" "_law_handed" (defArgs s_w_handed) (defBody s_w_handed) (defScope s_w_handed) .none kV_w_handed dc_w_handed pm_w_handed an_w_handed cd_w_handed ct_w_handed), f_w_goes, (PySem.W.fnOf "_law_goes" "_law_goes" (defArgs s_w_goes) (defBody s_w_goes) (defScope s_w_goes) .none kV_w_goes dc_w_goes pm_w_goes an_w_goes cd_w_goes ct_w_goes), f_w_told, (PySem.W.fnOf "_law_told" "_law_told" (defArgs s_w_told) (defBody s_w_told) (defScope s_w_told) .none kV_w_told dc_w_told pm_w_told an_w_told cd_w_told ct_w_told), f_w_asked, (PySem.W.fnOf "_law_asked" "_law_asked" (defArgs s_w_asked) (defBody s_w_asked) (defScope s_w_asked) .none kV_w_asked dc_w_asked pm_w_asked an_w_asked cd_w_asked ct_w_asked), f_law, (PySem.W.fnOf "law" "law" (defArgs s_law) (defBody s_law) (defScope s_law) .none kV_law dc_law pm_law an_law cd_law ct_law), C_Letter, C_ToOne, C_ToAll, C_Book⟩, ⟨F_targets,
    (F_targets.binds (ps := ["book", "letter", "house", "came", "open_here", "here"]) fun _ _ _ _ _ _ => el6 fun _ _ _ _ _ _ => rfl),
    (PySem.W.mg_of X G a_targets),
    F_ropes_on,
    (F_ropes_on.binds (ps := ["book", "sought", "house", "came", "open_here", "here"]) fun _ _ _ _ _ _ => el6 fun _ _ _ _ _ _ => rfl),
    (PySem.W.mg_of X G a_ropes_on),
    F_Booku_initu,
    (F_Booku_initu.binds (ps := ["self"]) fun _ _ _ _ _ _ => el1 fun _ => rfl),
    ⟨mk_Book, a_Booku_initu, i_Booku_initu, kc_Book⟩,
    F_Book_learn,
    (F_Book_learn.binds (ps := ["self", "house", "caller", "rope"]) fun _ _ _ _ _ _ => el4 fun _ _ _ _ => rfl),
    ⟨a_Book_learn, i_Book_learn, k_Book_learn⟩,
    F_Book_known,
    (F_Book_known.binds (ps := ["self", "house", "caller"]) fun _ _ _ _ _ _ => el3 fun _ _ _ => rfl),
    ⟨a_Book_known, i_Book_known, k_Book_known⟩,
    F_Book_notes,
    (F_Book_notes.binds (ps := ["self"]) fun _ _ _ _ _ _ => el1 fun _ => rfl),
    ⟨a_Book_notes, i_Book_notes, k_Book_notes⟩,
    F_Letteru_initu,
    (F_Letteru_initu.binds (ps := ["self", "sender"]) fun _ _ _ _ _ _ => el2 fun _ _ => rfl),
    ⟨mk_Letter, a_Letteru_initu, i_Letteru_initu, kc_Letter⟩,
    F_Letter_meant,
    (F_Letter_meant.binds (ps := ["self", "caller"]) fun _ _ _ _ _ _ => el2 fun _ _ => rfl),
    ⟨a_Letter_meant, i_Letter_meant, k_Letter_meant⟩,
    F_Letter_seeks,
    (F_Letter_seeks.binds (ps := ["self"]) fun _ _ _ _ _ _ => el1 fun _ => rfl),
    ⟨a_Letter_seeks, i_Letter_seeks, k_Letter_seeks⟩,
    F_ToOneu_initu,
    (F_ToOneu_initu.binds (ps := ["self", "sender", "to"]) fun _ _ _ _ _ _ => el3 fun _ _ _ => rfl),
    ⟨mk_ToOne, a_ToOneu_initu, i_ToOneu_initu, kc_ToOne⟩,
    F_ToOne_meant,
    (F_ToOne_meant.binds (ps := ["self", "caller"]) fun _ _ _ _ _ _ => el2 fun _ _ => rfl),
    ⟨a_ToOne_meant, i_ToOne_meant, k_ToOne_meant⟩,
    F_ToOne_seeks,
    (F_ToOne_seeks.binds (ps := ["self"]) fun _ _ _ _ _ _ => el1 fun _ => rfl),
    ⟨a_ToOne_seeks, i_ToOne_seeks, k_ToOne_seeks⟩,
    F_ToAll_meant,
    (F_ToAll_meant.binds (ps := ["self", "caller"]) fun _ _ _ _ _ _ => el2 fun _ _ => rfl),
    ⟨a_ToAll_meant, i_ToAll_meant, k_ToAll_meant⟩,
    F_w_cell,
    (F_w_cell.binds (ps := ["_law_script", "_law_k"]) fun _ _ _ _ _ _ => el2 fun _ _ => rfl),
    (PySem.W.mg_of X G a_w_cell),
    F_w_whole,
    (F_w_whole.binds (ps := ["_law_found"]) fun _ _ _ _ _ _ => el1 fun _ => rfl),
    (PySem.W.mg_of X G a_w_whole),
    F_w_numbers,
    (F_w_numbers.binds (ps := ["_law_found", "_law_ought"]) fun _ _ _ _ _ _ => el2 fun _ _ => rfl),
    (PySem.W.mg_of X G a_w_numbers),
    F_w_some,
    (F_w_some.binds (ps := ["_law_first", "_law_bits"]) fun _ _ _ _ _ _ => el2 fun _ _ => rfl),
    (PySem.W.mg_of X G a_w_some),
    F_w_letter,
    (F_w_letter.binds (ps := ["_law_kind", "_law_sender", "_law_to"]) fun _ _ _ _ _ _ => el3 fun _ _ _ => rfl),
    (PySem.W.mg_of X G a_w_letter),
    F_w_handed,
    (F_w_handed.binds (ps := ["_law_kind", "_law_sender", "_law_to", "_law_here"]) fun _ _ _ _ _ _ => el4 fun _ _ _ _ => rfl),
    (PySem.W.mg_of X G a_w_handed),
    F_w_goes,
    (F_w_goes.binds (ps := ["_law_notes", "_law_kind", "_law_to", "_law_spot", "_law_came", "_law_open_ones", "_law_here"]) fun _ _ _ _ _ _ => el7 fun _ _ _ _ _ _ _ => rfl),
    (PySem.W.mg_of X G a_w_goes),
    F_w_told,
    (F_w_told.binds (ps := ["_law_found", "_law_ought"]) fun _ _ _ _ _ _ => el2 fun _ _ => rfl),
    (PySem.W.mg_of X G a_w_told),
    F_w_asked,
    (F_w_asked.binds (ps := ["_law_book", "_law_notes", "_law_cell_here", "_law_firsts"]) fun _ _ _ _ _ _ => el4 fun _ _ _ _ => rfl),
    (PySem.W.mg_of X G a_w_asked),
    F_law,
    (F_law.binds (ps := ["_law_script"]) fun _ _ _ _ _ _ => el1 fun _ => rfl),
    (PySem.W.mg_of X G a_law),
    ⟨pg_Letter, hd_Letter, po_Letter, sa_Letter⟩,
    (PySem.W.mg_of X G aC_Letter),
    nA_Letter_sender,
    nA_Letter_to,
    ⟨pg_ToOne, hd_ToOne, po_ToOne, sa_ToOne⟩,
    (PySem.W.mg_of X G aC_ToOne),
    nA_ToOne_sender,
    nA_ToOne_to,
    ⟨pg_ToAll, hd_ToAll, po_ToAll, sa_ToAll⟩,
    (PySem.W.mg_of X G aC_ToAll),
    nA_ToAll_sender,
    nA_ToAll_to,
    ⟨pg_Book, hd_Book, po_Book, sa_Book⟩,
    (PySem.W.mg_of X G aC_Book),
    nA_Book_kept,
    ⟨ih_ToAll_seeks, i_Letter_seeks, k_Letter_seeks⟩,
    ⟨mk_ToAll, ii_ToAll, i_Letteru_initu, kc_ToAll⟩,
    ⟨cg_Letteru_initu, cr_Letteru_initu, cm_Letteru_initu, k_Letteru_initu⟩,
    (PySem.W.mg_none_of X G z_len),
    (PySem.W.mg_none_of X G z_isinstance),
    (PySem.W.mg_none_of X G z_int),
    (PySem.W.mg_none_of X G z_bool),
    (PySem.W.mg_none_of X G z_list),
    (PySem.W.mg_none_of X G z_tuple),
    (PySem.W.mg_none_of X G z_range),
    (PySem.W.mg_none_of X G z_min),
    (PySem.W.mg_none_of X G z_sorted),
    (PySem.W.mg_none_of X G z_zip)⟩⟩
end K26

set_option Elab.async false
set_option linter.all false
set_option maxRecDepth 100000
set_option maxHeartbeats 4000000
namespace K26
open PySem L2 TW PyProof.Rows
open RM (rowV byV byV_non byV_int)
seal L2.PE L2.PA L2.PT L2.PW L2.PS L2.PSs L2.PG L2.PGs L2.PI L2.PTs
section
variable {P : Program} {w : World} {K : PySem.W.Frag} {mg : Str → Option Value} {base : Heap}
def spCell (K : PySem.W.Frag) : Sp := fun vs H Q _ => ∃ (a : Addr) (ns : List Int) (k : Int), vs = [.ref a, .int k] ∧ SqL K H a (ns.map V.int) ∧ 0 ≤ k ∧ ∀ x : Int, 0 ≤ x → Q (.int x) H
theorem ok_w_cell {t : Ad} (T : Txt K mg t) : FnOk P w K mg base CX0 1 t.f_w_cell t.d_w_cell ["_law_script", "_law_k"]  (spCell K) := by
  refine T.F_w_cell.ok sc_w_cell (fun vs H Q E h => ?_) (fun cdv A outer s H vs Q E hr h => ?_)
  · obtain ⟨a, ns, i, rfl, _⟩ := h; rfl
  · obtain ⟨a, ns, i, rfl, hS, h0, k⟩ := h
    refine ⟨_, (pss_cons (ps_if (pt_cmpR op_lt (pv 1) (pe_callB call_len_seq (by rfl) T.n_len PySem.boot_len (pa_c (pv 0) pa_nil)) (nomark _)) (pss_one (ps_ret (pe_op op_mod (pe_ix ix_list (pv 0) (pv 1) (fun _ _ => rfl)) (pe_op op_pow pe_int pe_int)))) pss_nil)
      (pss_one (ps_ret pe_int))), ?_⟩
    refine ⟨_, rfl, _, rfl, a, _, rfl, .inl hS, _, _, rfl, rfl, _, rfl, ?_⟩
    refine ite2 (fun c => ?_) (fun c => k 0 (Int.le_refl _))
    have hi : i < ns.length := by simpa using c
    refine ⟨_, rfl, _, rfl, a, _, _, _, rfl, rfl, hS, atI_ints h0 hi, _, _, rfl, rfl, ⟨by decide, by decide, by decide⟩, _, _, rfl, rfl, (by show (0 : Int) < 10 ^ (60 : Int).toNat; decide), ?_⟩
    exact k _ (Int.emod_nonneg _ (by decide))
end
section
variable {P : Program} {w : World} {K : PySem.W.Frag} {mg : Str → Option Value} {base : Heap}
def spWhole : Sp := fun vs H Q _ => ∃ i : Int, vs = [.int i] ∧ Q (.bl true) H
theorem ok_w_whole {t : Ad} (T : Txt K mg t) : FnOk P w K mg base CX0 1 t.f_w_whole t.d_w_whole ["_law_found"]  spWhole := by
  refine T.F_w_whole.ok sc_w_whole (fun vs H Q E h => ?_) (fun cdv A outer s H vs Q E hr h => ?_)
  · obtain ⟨i, rfl, _⟩ := h; rfl
  · obtain ⟨i, rfl, k⟩ := h
    refine ⟨_, (pss_one (ps_ret (pe_and (pe_callB call_isi (by rfl) T.n_isinstance boot_isinstance (pa_c (pv 0) (pa_c (pe_bltn rfl T.n_int boot_int (v := .ty "int") rfl) pa_nil))) (pe_one (pe_not (pe_callB call_isi (by rfl) T.n_isinstance boot_isinstance (pa_c (pv 0) (pa_c (pe_bltn rfl T.n_bool boot_bool (v := .ty "bool") rfl) pa_nil)))))))), ?_⟩
    refine ⟨_, rfl, _, _, _, _, rfl, .int _, rfl, _, rfl, iteT ?_⟩
    refine ⟨_, rfl, _, _, _, _, rfl, .int _, rfl, _, rfl, ?_⟩
    exact k
end
end K26

set_option Elab.async false
set_option linter.all false
set_option maxRecDepth 100000
set_option maxHeartbeats 4000000
namespace K26
open PySem L2 TW PyProof.Rows
open RM (rowV byV byV_non byV_int)
seal L2.PE L2.PA L2.PT L2.PW L2.PS L2.PSs L2.PG L2.PGs L2.PI L2.PTs
section
variable {P : Program} {w : World} {K : PySem.W.Frag} {mg : Str → Option Value} {base : Heap}
def spNumEqI (K : PySem.W.Frag) : Sp := fun vs H Q _ => ∃ (l1 l2 : Addr) (xs : List Int), vs = [.ref l1, .ref l2] ∧ SqL K H l1 (xs.map V.int) ∧ SqL K H l2 (xs.map V.int) ∧ ∀ H', Same H H' → Q (.bl true) H'
theorem ok_w_numbers {t : Ad} (T : Txt K mg t) : FnOk P w K mg base CX0 2 t.f_w_numbers t.d_w_numbers ["_law_found", "_law_ought"]  (spNumEqI K) := by
  refine T.F_w_numbers.ok sc_w_numbers (fun vs H Q E h => ?_) (fun cdv A outer s H vs Q E hr h => ?_)
  · obtain ⟨_, _, _, rfl, _⟩ := h; rfl
  · obtain ⟨l1, l2, xs, rfl, hA, hB, k⟩ := h
    refine ⟨_, (pss_cons (ps_if (PW.pt (pw_or (pt_not (pt_val (pe_callB call_isiL (by rfl) T.n_isinstance boot_isinstance (pa_c (pv 0) (pa_c (pe_bltn rfl T.n_list boot_list (v := .ty "list") rfl) pa_nil))))) (pw_or1 (pt_cmpR op_ne (pe_callB call_len_seq (by rfl) T.n_len PySem.boot_len (pa_c (pv 0) pa_nil)) (pe_callB call_len_seq (by rfl) T.n_len PySem.boot_len (pa_c (pv 1) pa_nil)) (nomark _))))) (pss_one (ps_ret pe_bl)) pss_nil)
      (pss_cons (ps_for PassesOwn.never rfl (pi_zip rfl T.n_zip (pa_c (pv 0) (pa_c (pv 1) pa_nil))) (pg_tup (n := 2) rfl (pgs_cons (pg_name (i := 2) sc_w_numbers.nd rfl (Or.inl rfl)) (pgs_cons (pg_name (i := 3) sc_w_numbers.nd rfl (Or.inl rfl)) pgs_nil))) (pss_one (ps_if (PW.pt (pw_or (pt_not (pt_val (pe_call (ok_w_whole T) (hr.mono (by decide)) rfl T.g_w_whole T.F_w_whole.kp T.B_w_whole .nil pass0 (pa_c (pv 2) pa_nil)))) (pw_or1 (pt_cmpR op_ne (pv 2) (pv 3) (nomark _))))) (pss_one (ps_ret pe_bl)) pss_nil)))
      (pss_one (ps_ret pe_bl)))), ?_⟩
    refine ⟨_, rfl, l1, _, _, _, rfl, hA, rfl, _, rfl, iteF ?_⟩
    refine ⟨_, rfl, l1, _, rfl, .inl hA, _, rfl, l2, _, rfl, .inl hB, rfl, _, rfl, ?_⟩
    simp only [decide_true, Bool.not_true]
    refine iteF ?_
    refine ⟨_, rfl, _, rfl, l1, l2, _, _, rfl, hA, hB, ?_⟩
    refine for_zip (K := K) (a := l1) (b := l2) (xs := xs.map V.int) (ys := xs.map V.int) (n := (xs.map V.int).length) (fun i σ H2 => Same H H2 ∧ ∃ v2 v3 : Option V, σ = [some (.ref l1), some (.ref l2), v2, v3]) rfl rfl ⟨Same.refl _, _, _, rfl⟩ (fun i σ H2 _ z => ⟨z.1.seq hA, z.1.seq hB⟩) ?_ ?_
    · rintro i x y σ H2 p hi hx hy ⟨s2, v2, v3, rfl⟩ hp
      have u1 := Same.new (o := .tup [x, y]) hp
      refine ⟨p, _, rfl, SqT.of upd_same, rfl, _, _, rfl, _, _, rfl, rfl, ?_⟩
      have exy : x = y := Option.some.inj (hx.symm.trans hy)
      subst exy
      obtain ⟨z, _, rfl⟩ := List.mem_map.mp (List.mem_of_getElem? hx)
      refine ⟨_, rfl, _, rfl, ⟨_, rfl, iteF ?_⟩⟩
      refine ⟨_, rfl, _, rfl, rfl, _, rfl, ?_⟩
      simp only [decide_true, Bool.not_true]
      exact iteF ⟨s2.trans u1, _, _, rfl⟩
    · rintro σ H2 ⟨s2, v2, v3, rfl⟩
      exact k H2 s2
end
end K26

set_option Elab.async false
set_option linter.all false
set_option maxRecDepth 100000
set_option maxHeartbeats 4000000
namespace K26
open PySem L2 TW PyProof.Rows
open RM (rowV byV byV_non byV_int)
seal L2.PE L2.PA L2.PT L2.PW L2.PS L2.PSs L2.PG L2.PGs L2.PI L2.PTs
section
variable {P : Program} {w : World} {K : PySem.W.Frag} {mg : Str → Option Value} {base : Heap}
def spLInit (K : PySem.W.Frag) : Sp := fun vs H Q _ => ∃ (p C dx : Addr) (s : Int), vs = [.ref p, .int s] ∧ H p = some (.ins C dx []) ∧ Cls K C ∧ NoAttr K C "sender" ∧ Q .non (upd H p (.ins C dx [("sender", .int s)]))
theorem ok_Letteru_initu {t : Ad} (T : Txt K mg t) : FnOk P w K mg base CX0 1 t.f_Letteru_initu t.d_Letteru_initu ["self", "sender"]  (spLInit K) := by
  refine T.F_Letteru_initu.ok sc_Letteru_initu (fun vs H Q E h => ?_) (fun cdv A outer s H vs Q E hr h => ?_)
  · obtain ⟨_, _, _, _, rfl, _⟩ := h; rfl
  · obtain ⟨p, C, dx, s', rfl, hp, hc, hn, k⟩ := h
    refine ⟨_, (pss_one (ps_fld (pv 0) (pv 1) rfl)), ?_⟩
    exact ⟨_, rfl, _, rfl, p, C, dx, [], rfl, hp, hc, hn, by decide, k⟩
def spMeant0 : Sp := fun vs H Q _ => ∃ (p : Addr) (c : Int), vs = [.ref p, .int c] ∧ Q (.bl false) H
theorem ok_Letter_meant {t : Ad} (T : Txt K mg t) : FnOk P w K mg base CX0 1 t.f_Letter_meant t.d_Letter_meant ["self", "caller"]  spMeant0 := by
  refine T.F_Letter_meant.ok sc_Letter_meant (fun vs H Q E h => ?_) (fun cdv A outer s H vs Q E hr h => ?_)
  · obtain ⟨_, _, rfl, _⟩ := h; rfl
  · obtain ⟨p, c, rfl, k⟩ := h
    exact ⟨_, (pss_one (ps_ret pe_bl)), k⟩
def spSeeks0 : Sp := fun vs H Q _ => ∃ (p : Addr), vs = [.ref p] ∧ Q .non H
theorem ok_Letter_seeks {t : Ad} (T : Txt K mg t) : FnOk P w K mg base CX0 1 t.f_Letter_seeks t.d_Letter_seeks ["self"]  spSeeks0 := by
  refine T.F_Letter_seeks.ok sc_Letter_seeks (fun vs H Q E h => ?_) (fun cdv A outer s H vs Q E hr h => ?_)
  · obtain ⟨_, rfl, _⟩ := h; rfl
  · obtain ⟨p, rfl, k⟩ := h
    exact ⟨_, (pss_one (ps_ret pe_non)), k⟩
def spOneInit (C : Addr) : Sp := fun vs H Q _ => ∃ (p dx : Addr) (s to : Int), vs = [.ref p, .int s, .int to] ∧ H p = some (.ins C dx []) ∧
  ∀ H', H' p = some (.ins C dx [("sender", .int s), ("to", .int to)]) → (∀ b o, H b = some o → b ≠ p → H' b = some o) → Q .non H'
theorem ok_ToOneu_initu {t : Ad} (T : Txt K mg t) : FnOk P w K mg base CX0 2 t.f_ToOneu_initu t.d_ToOneu_initu ["self", "sender", "to"]  (spOneInit t.a_ToOne) := by
  refine T.F_ToOneu_initu.ok sc_ToOneu_initu (fun vs H Q E h => ?_) (fun cdv A outer s H vs Q E hr h => ?_)
  · obtain ⟨_, _, _, _, rfl, _⟩ := h; rfl
  · obtain ⟨p, dx, s', to, rfl, hp, k⟩ := h
    refine ⟨_, (pss_cons (ps_expr (pe_clsMeth (pe_glob rfl T.g_Letter (v := .ref t.a_Letter) rfl) T.cf_Letteru_initu (ok_Letteru_initu T) (hr.mono (by decide)) T.B_Letteru_initu .nil pass0 (pa_c (pv 0) (pa_c (pv 1) pa_nil))))
      (pss_one (ps_fld (pv 0) (pv 2) rfl))), ?_⟩
    refine ⟨rfl, _, rfl, _, rfl, p, t.a_ToOne, dx, s', rfl, hp, T.c_ToOne, T.n_ToOne_sender, ?_⟩
    refine ⟨_, rfl, _, rfl, p, t.a_ToOne, dx, _, rfl, upd_same, T.c_ToOne, T.n_ToOne_to, (by show 1 < 1000; decide), ?_⟩
    rw [putF_new (names := ["sender"]) rfl (by decide +kernel)]
    exact k _ upd_same fun b o e nb => by rw [upd_ne nb, upd_ne nb]; exact e
def spMeant1 (C : Addr) : Sp := fun vs H Q _ => ∃ (p dx : Addr) (s to c : Int), vs = [.ref p, .int c] ∧ H p = some (.ins C dx [("sender", .int s), ("to", .int to)]) ∧ Q (.bl (decide (V.int c = V.int to))) H
theorem ok_ToOne_meant {t : Ad} (T : Txt K mg t) : FnOk P w K mg base CX0 1 t.f_ToOne_meant t.d_ToOne_meant ["self", "caller"]  (spMeant1 t.a_ToOne) := by
  refine T.F_ToOne_meant.ok sc_ToOne_meant (fun vs H Q E h => ?_) (fun cdv A outer s H vs Q E hr h => ?_)
  · obtain ⟨_, _, _, _, _, rfl, _⟩ := h; rfl
  · obtain ⟨p, dx, s', to, c, rfl, hp, k⟩ := h
    exact ⟨_, (pss_one (ps_ret (pe_cmpR op_eq (pv 1) (pe_fld (pv 0) rfl) (nomark _)))), _, rfl, _, rfl, p, _, dx, _, _, rfl, hp, T.c_ToOne, T.n_ToOne_to, rfl, rfl, k⟩
def spSeeks1 (C : Addr) : Sp := fun vs H Q _ => ∃ (p dx : Addr) (s to : Int), vs = [.ref p] ∧ H p = some (.ins C dx [("sender", .int s), ("to", .int to)]) ∧ Q (.int to) H
theorem ok_ToOne_seeks {t : Ad} (T : Txt K mg t) : FnOk P w K mg base CX0 1 t.f_ToOne_seeks t.d_ToOne_seeks ["self"]  (spSeeks1 t.a_ToOne) := by
  refine T.F_ToOne_seeks.ok sc_ToOne_seeks (fun vs H Q E h => ?_) (fun cdv A outer s H vs Q E hr h => ?_)
  · obtain ⟨_, _, _, _, rfl, _⟩ := h; rfl
  · obtain ⟨p, dx, s', to, rfl, hp, k⟩ := h
    exact ⟨_, (pss_one (ps_ret (pe_fld (pv 0) rfl))), _, rfl, p, _, dx, _, _, rfl, hp, T.c_ToOne, T.n_ToOne_to, rfl, k⟩
def spMeant2 (C : Addr) : Sp := fun vs H Q _ => ∃ (p dx : Addr) (s c : Int), vs = [.ref p, .int c] ∧ H p = some (.ins C dx [("sender", .int s)]) ∧ Q (.bl (!decide (V.int c = V.int s))) H
theorem ok_ToAll_meant {t : Ad} (T : Txt K mg t) : FnOk P w K mg base CX0 1 t.f_ToAll_meant t.d_ToAll_meant ["self", "caller"]  (spMeant2 t.a_ToAll) := by
  refine T.F_ToAll_meant.ok sc_ToAll_meant (fun vs H Q E h => ?_) (fun cdv A outer s H vs Q E hr h => ?_)
  · obtain ⟨_, _, _, _, rfl, _⟩ := h; rfl
  · obtain ⟨p, dx, s', c, rfl, hp, k⟩ := h
    exact ⟨_, (pss_one (ps_ret (pe_cmpR op_ne (pv 1) (pe_fld (pv 0) rfl) (nomark _)))), _, rfl, _, rfl, p, _, dx, _, _, rfl, hp, T.c_ToAll, T.n_ToAll_sender, rfl, rfl, k⟩
end
end K26

set_option Elab.async false
set_option linter.all false
set_option maxRecDepth 100000
set_option maxHeartbeats 4000000
namespace K26
open PySem L2 TW PyProof.Rows
open RM (rowV byV byV_non byV_int)
seal L2.PE L2.PA L2.PT L2.PW L2.PS L2.PSs L2.PG L2.PGs L2.PI L2.PTs
section
variable {P : Program} {w : World} {K : PySem.W.Frag} {mg : Str → Option Value} {base : Heap}
def spBInit (C : Addr) : Sp := fun vs H Q _ => ∃ (p dx : Addr), vs = [.ref p] ∧ H p = some (.ins C dx []) ∧
  ∀ d H', H d = none → BookAt C H' p d [] → (∀ b o, H b = some o → b ≠ p → H' b = some o) → Q .non H'
theorem ok_Booku_initu {t : Ad} (T : Txt K mg t) : FnOk P w K mg base CX0 1 t.f_Booku_initu t.d_Booku_initu ["self"]  (spBInit t.a_Book) := by
  refine T.F_Booku_initu.ok sc_Booku_initu (fun vs H Q E h => ?_) (fun cdv A outer s H vs Q E hr h => ?_)
  · obtain ⟨_, _, rfl, _⟩ := h; rfl
  · obtain ⟨p, dx, rfl, hp, k⟩ := h
    refine ⟨_, (pss_one (ps_fld (pv 0) pe_dnewT rfl)), ?_⟩
    refine fun d hd => ⟨_, rfl, p, t.a_Book, dx, [], rfl, ?_, T.c_Book, T.n_Book_kept, by decide, ?_⟩
    · rw [upd_ne (ne_of_none hp hd)]; exact hp
    · refine k d _ hd ⟨⟨dx, upd_same⟩, ?_⟩ fun b o e nb => ?_
      · rw [upd_ne (ne_of_none hp hd).symm]; exact upd_same
      · rw [upd_ne nb, upd_ne (ne_of_none e hd)]; exact e
def spLearn (C : Addr) : Sp := fun vs H Q _ => ∃ (p d : Addr) (ts : List T3) (h c r : Int), vs = [.ref p, .int h, .int c, .int r] ∧ BookAt C H p d ts ∧ ts.length < 1000 ∧
  ∀ H', H' d = some (.dT (putK (ts.map noteK) (keyOf h c) (.int r))) → (∀ b o, H b = some o → b ≠ d → H' b = some o) → Q .non H'
theorem ok_Book_learn {t : Ad} (T : Txt K mg t) : FnOk P w K mg base CX0 1 t.f_Book_learn t.d_Book_learn ["self", "house", "caller", "rope"]  (spLearn t.a_Book) := by
  refine T.F_Book_learn.ok sc_Book_learn (fun vs H Q E h => ?_) (fun cdv A outer s H vs Q E hr h => ?_)
  · obtain ⟨_, _, _, _, _, _, rfl, _⟩ := h; rfl
  · obtain ⟨p, d, ts, hh, cc, r, rfl, ⟨⟨dx, hp⟩, hd⟩, hl, k⟩ := h
    refine ⟨_, (pss_one (ps_dput (hu_of hr) (pe_fld (pv 0) rfl) (pe_tup (pa_c (pv 1) (pa_c (pv 2) pa_nil))) (pv 3) rfl)), ?_⟩
    refine ⟨_, rfl, _, rfl, p, t.a_Book, dx, _, _, rfl, hp, T.c_Book, T.n_Book_kept, rfl, _, rfl, _, rfl, (by show 2 ≤ sizeLine; decide), fun b hb => ?_⟩
    have nb : d ≠ b := ne_of_none hd hb
    refine ⟨d, _, rfl, DPut.t (k := keyOf hh cc) (kvs := ts.map noteK) (by rw [upd_ne nb]; exact hd) upd_same (by rw [List.length_map]; exact small1000 (Nat.le_of_lt hl)), ?_⟩
    exact k _ upd_same fun x o e nx => by rw [upd_ne nx, upd_ne (ne_of_none e hb)]; exact e
def spKnown (C : Addr) : Sp := fun vs H Q _ => ∃ (p d : Addr) (ts : List T3) (h c : Int), vs = [.ref p, .int h, .int c] ∧ BookAt C H p d ts ∧
  ∀ H', Same H H' → Q (((known3 ts h c).map V.int).getD .non) H'
theorem ok_Book_known {t : Ad} (T : Txt K mg t) : FnOk P w K mg base CX0 1 t.f_Book_known t.d_Book_known ["self", "house", "caller"]  (spKnown t.a_Book) := by
  refine T.F_Book_known.ok sc_Book_known (fun vs H Q E h => ?_) (fun cdv A outer s H vs Q E hr h => ?_)
  · obtain ⟨_, _, _, _, _, rfl, _⟩ := h; rfl
  · obtain ⟨p, d, ts, hh, cc, rfl, ⟨⟨dx, hp⟩, hd⟩, k⟩ := h
    refine ⟨_, (pss_one (ps_ret (pe_dget1 (hu_of hr) (pe_fld (pv 0) rfl) (pe_tup (pa_c (pv 1) (pa_c (pv 2) pa_nil))) ⟨rfl, rfl, rfl, rfl⟩))), ?_⟩
    refine ⟨_, rfl, p, t.a_Book, dx, _, _, rfl, hp, T.c_Book, T.n_Book_kept, rfl, d, rfl, .inr ⟨_, .inl hd⟩, _, rfl, _, rfl, (by show 2 ≤ sizeLine; decide), fun b hb => ?_⟩
    have s1 := Same.new (o := .tup [.int hh, .int cc]) hb
    refine ⟨_, DGet.t (k := keyOf hh cc) (s1 _ _ hd) upd_same, ?_⟩
    rw [valV_notes]
    exact k _ s1
def spNotes (K : PySem.W.Frag) (C : Addr) : Sp := fun vs H Q _ => ∃ (p d : Addr) (ts : List T3), vs = [.ref p] ∧ BookAt C H p d ts ∧ ts.length < 64 ∧
  ∀ l (qs : List Addr) (us : List T3) H', Same H H' → H l = none → H' l = some (.lst (qs.map V.ref)) → TrisAt K H' qs us → us.Perm ts → Sorted3 us → Q (.ref l) H'
theorem ok_Book_notes {t : Ad} (T : Txt K mg t) : FnOk P w K mg base CX0 1 t.f_Book_notes t.d_Book_notes ["self"]  (spNotes K t.a_Book) := by
  refine T.F_Book_notes.ok sc_Book_notes (fun vs H Q E h => ?_) (fun cdv A outer s H vs Q E hr h => ?_)
  · obtain ⟨_, _, _, rfl, _⟩ := h; rfl
  · obtain ⟨p, d, ts, rfl, ⟨⟨dx, hp⟩, hd⟩, h64, k⟩ := h
    refine ⟨_, (pss_one (ps_ret (pe_callB call_sorted3 (by rfl) T.n_sorted boot_sorted (pa_c (pe_thaw (pe_comp (compOk_of (dsc := defScope s_Book_notes) (N0 := ["self"]) (N2 := ["noted", "rope"]) (cap := [none, none]) rfl rfl (by decide +kernel)) rfl (pi_items (pe_bm0 PySem.F.plainAttrs_dict PySem.F.slot_dict_items PySem.F.type_dict_items mt_items (pe_fld (pv 0) rfl))) (fun _ _ _ _ => by exact (pg_tupK K rfl (n := 2) rfl (pgs_cons (pg_name (i := 0) nd_Book_notes_c0 rfl (Or.inl rfl)) (pgs_cons (pg_name (i := 1) nd_Book_notes_c0 rfl (Or.inl rfl)) pgs_nil)))) (fun _ _ _ _ => by exact pts_nil) (fun _ _ _ _ => by exact (pe_op (op_catTK K rfl) (pv 0) (pe_tup (pa_c (pv 1) pa_nil)))))) pa_nil)))), ?_⟩
    refine ⟨d, ts.map noteK, hd, ?_⟩
    refine ⟨_, rfl, p, t.a_Book, dx, _, _, rfl, hp, T.c_Book, T.n_Book_kept, rfl, ?_⟩
    refine ⟨.inr (.inr (.inl ⟨rfl, .inr ⟨_, hd⟩⟩)), d, _, rfl, rfl, hd, fun v hv => ?_⟩
    have s1 := Same.new (o := ViewO v d) hv
    have hv1 := upd_same (H := H) (a := v) (o := ViewO v d)
    have hd1 := s1 _ _ hd
    generalize upd H v (ViewO v d) = H1 at s1 hv1 hd1
    refine ⟨v, d, _, rfl, hv1, hd1, fun o => ?_⟩
    intro acc hacc
    have hd2 := upd_same (H := H1) (a := d) (o := .frz o (.dT (ts.map noteK)))
    have hH : ∀ {H3 : Hp}, Same (upd H1 d (.frz o (.dT (ts.map noteK)))) H3 → Same H (upd H3 d (.dT (ts.map noteK))) := fun {H3} s3 b u e => by
      by_cases z : b = d
      · subst z
        rw [hd] at e
        cases e
        exact upd_same
      · rw [upd_ne z]
        exact s3 _ _ (by rw [upd_ne z]; exact s1 _ _ e)
    generalize upd H1 d (.frz o (.dT (ts.map noteK))) = H2 at hd2 hH hacc
    refine comp_by (n := (ts.map noteK).length) (fun i ys H3 => ∃ qs : List Addr, ys = qs.map V.ref ∧ TrisAt K H3 qs (ts.take i)) hacc (itx_go hd2) (itx_stop hd2) ⟨[], rfl, TrisAt.nil⟩ ?_ ?_
    · rintro i ys H3 hi s3 hy ⟨qs, rfl, hqs⟩ x H4 ⟨q, kb, ky, vv, hq, rfl, rfl, hkv, hkb⟩
      have hi' : i < ts.length := by rw [List.length_map] at hi; exact hi
      rw [List.getElem?_map, List.getElem?_eq_getElem hi'] at hkv
      cases hkv
      generalize ht : ts[i] = u
      have hu : ts[i]? = some u := by rw [List.getElem?_eq_getElem hi', ht]
      obtain ⟨u1, u2, u3⟩ := u
      rw [ht] at hkb
      have u4 := Same.new (o := .tup [.ref kb, .int u3]) hq
      refine ⟨q, _, rfl, SqT.of upd_same, rfl, _, _, rfl, _, _, rfl, rfl, ?_⟩
      refine ⟨_, rfl, _, rfl, (by show 1 ≤ sizeLine; decide), fun b hb => ?_⟩
      have u5 := Same.new (o := .tup [V.int u3]) hb
      refine ⟨kb, b, [.int u1, .int u2], _, rfl, rfl, SqT.of (u5 _ _ (u4 _ _ hkb)), SqT.of upd_same, (by simp), (by show 3 ≤ sizeLine; decide), fun z => (by cases z), fun _ c hc => ?_⟩
      have u6 := Same.new (o := .tup ([V.int u1, .int u2] ++ [.int u3])) hc
      have s7 := u4.trans (u5.trans u6)
      have hy7 := s7 _ _ hy
      have hl : qs.length = i := by rw [hqs.1, List.length_take]; omega
      refine comp_add hacc hi (s3.trans s7) hy7 (by rw [List.length_map]; exact small1000 (by omega)) ⟨qs ++ [c], by simp, ?_⟩
      rw [List.take_add_one, hu]
      exact TrisAt.past hy7 nt_lst upd_keep (TrisAt.snoc (t := (u1, u2, u3)) (hqs.mono s7) (SqT.of upd_same))
    · rintro ys H3 s3 hy ⟨qs, rfl, hqs⟩
      have hacd : acc ≠ d := (ne_of_none hd2 hacc).symm
      rw [List.length_map, List.take_length] at hqs
      refine ⟨o, s3 _ _ hd2, ?_⟩
      refine ⟨acc, qs, ts, rfl, SqL.of (by rw [upd_ne hacd]; exact hy), TrisAt.past (s3 _ _ hd2) nt_frz upd_keep hqs, h64, fun l qs' us hl hp hs ht => ?_⟩
      exact k l qs' us _ ((hH s3).trans (Same.new hl)) ((hH s3).free hl) upd_same (ht.mono (Same.new hl)) hp hs
end
end K26

set_option Elab.async false
set_option linter.all false
set_option maxRecDepth 100000
set_option maxHeartbeats 4000000
namespace K26
open PySem L2 TW PyProof.Rows
open RM (rowV byV byV_non byV_int)
seal L2.PE L2.PA L2.PT L2.PW L2.PS L2.PSs L2.PG L2.PGs L2.PI L2.PTs
section
variable {P : Program} {w : World} {K : PySem.W.Frag} {mg : Str → Option Value} {base : Heap}
def spOn (K : PySem.W.Frag) (C : Addr) : Sp := fun vs H Q _ => ∃ (bk d lo lh : Addr) (ts : List T3) (so came : Option Int) (house : Int) (os hs : List Int), vs = [.ref bk, optI so, .int house, optI came, .ref lo, .ref lh] ∧ BookAt C H bk d ts ∧ SqL K H lo (os.map V.int) ∧ SqL K H lh (hs.map V.int) ∧ os.length ≤ 1000 ∧
  ∀ l H', Same H H' → H l = none → H' l = some (.lst ((onP ts so house came os hs).map V.int)) → Q (.ref l) H'
theorem ok_ropes_on {t : Ad} (T : Txt K mg t) : FnOk P w K mg base CX0 2 t.f_ropes_on t.d_ropes_on ["book", "sought", "house", "came", "open_here", "here"]  (spOn K t.a_Book) := by
  refine T.F_ropes_on.ok sc_ropes_on (fun vs H Q E h => ?_) (fun cdv A outer s H vs Q E hr h => ?_)
  · obtain ⟨_, _, _, _, _, _, _, _, _, _, rfl, _⟩ := h; rfl
  · obtain ⟨bk, d, lo, lh, ts, so, came, house, os, hs, rfl, hB, hO, hH, hn, k⟩ := h
    refine ⟨_, (pss_cons (ps_if (pt_cmpR op_in_seq (pv 1) (pv 5) (by with_unfolding_all rfl)) (pss_one (ps_ret (pe_lst pa_nil))) pss_nil)
      (pss_cons (ps_set (i := 6) sc_ropes_on.nd rfl (Or.inl rfl) (pe_ifExp (pt_cmpR op_isN (pv 1) pe_non (nomark _)) pe_non (pe_meth (pv 0) T.c_Book T.m_Book_known (ok_Book_known T) (hr.mono (by decide)) T.B_Book_known .nil pass0 (pa_c (pv 2) (pa_c (pv 1) pa_nil)))))
      (pss_cons (ps_set (i := 7) sc_ropes_on.nd rfl (Or.inl rfl) (pe_ifExp (pt_cmpR op_in_seq (pv 6) (pv 4) (by with_unfolding_all rfl)) (pe_lst (pa_c (pv 6) pa_nil)) (pv 4)))
      (pss_one (ps_ret (pe_comp (compOk_of (dsc := defScope s_ropes_on) (N0 := ["book", "sought", "house", "came", "open_here", "here", "noted", "leading"]) (N2 := ["rope", "came"]) (cap := [none, some 3]) rfl rfl (by decide +kernel)) rfl (pi_list (pv 7)) (fun _ _ _ _ => by exact (pg_name (i := 0) nd_ropes_on_c0 rfl (Or.inl rfl))) (fun _ _ _ _ => by exact (pts_one (pt_cmpR op_ne (pv 0) (pv 1) (nomark _)))) (fun _ _ _ _ => by exact (pv 0)))))))), ?_⟩
    obtain ⟨dx, hob⟩ := hB.ob
    refine ⟨_, rfl, _, rfl, lh, _, rfl, .inl hH, flat_opt so, flat_ints hs, _, rfl, ?_⟩
    cases so with
    | none =>
      refine iteFe (by show inV .non _ = false; exact inV_nonI hs) ?_
      refine ⟨_, rfl, rfl, _, rfl, iteTe (decide_eq_true rfl) ?_⟩
      refine ⟨_, rfl, _, rfl, lo, _, rfl, .inl hO, rfl, flat_ints os, _, rfl, iteFe (by show inV .non _ = false; exact inV_nonI os) ?_⟩
      refine ⟨_, rfl, _, rfl, lo, rfl, ⟨_, hO⟩, fun acc hacc => ?_⟩
      refine comp_filtI (notBy came) hacc hO hn (fun x H2 R S _ s2 h1 h2 => ?_) (fun H2 s2 hy => k acc H2 s2 hacc hy)
      refine ⟨_, rfl, _, rfl, scal_opt x came, _, rfl, ?_⟩
      exact ite2 (fun e => ⟨_, rfl, h1 _ (Same.refl _) e⟩) (fun e => h2 _ (Same.refl _) (neT e))
    | some to =>
      refine ite2 (fun e => ?_) (fun e => ?_)
      · refine ⟨Nat.zero_le _, fun l hl => k l _ (Same.new hl) hl ?_⟩
        have e' : to ∈ hs := by
          have e : inV (.int to) (hs.map V.int) = true := e
          rw [inV_ints] at e
          exact of_decide_eq_true e
        show _ = some (HO.lst (List.map V.int (if to ∈ hs then [] else _)))
        rw [if_pos e']
        exact upd_same
      · have e' : ¬ to ∈ hs := fun z => e (by show inV (.int to) (hs.map V.int) = true; rw [inV_ints]; exact decide_eq_true z)
        refine ⟨_, rfl, rfl, _, rfl, iteFe (decide_eq_false fun z => by cases z) ?_⟩
        refine ⟨_, rfl, bk, dx, _, rfl, hob, rfl, _, rfl, _, rfl, bk, d, ts, house, to, rfl, hB, fun H1 s1 => ?_⟩
        have k2 : ∀ l H', Same H H' → H l = none → H' l = some (.lst ((match known3 ts house to with
            | some r => if r ∈ os then [r].filter (notBy came) else os.filter (notBy came)
            | none => os.filter (notBy came)).map V.int)) → Q (.ref l) H' := fun l H' s hl hy => k l H' s hl (by
          show _ = some (HO.lst (List.map V.int (if to ∈ hs then [] else _)))
          rw [if_neg e']
          exact hy)
        clear k
        have hO1 := s1.seq hO
        cases hk : known3 ts house to with
        | none =>
          rw [hk] at k2
          refine ⟨_, rfl, _, rfl, lo, _, rfl, .inl hO1, rfl, flat_ints os, _, rfl, iteFe (by show inV .non _ = false; exact inV_nonI os) ?_⟩
          refine ⟨_, rfl, _, rfl, lo, rfl, ⟨_, hO1⟩, fun acc hacc => ?_⟩
          refine comp_filtI (notBy came) hacc hO1 hn (fun x H2 R S _ s2 h1 h2 => ?_) (fun H2 s2 hy => k2 acc H2 (s1.trans s2) (s1.free hacc) hy)
          refine ⟨_, rfl, _, rfl, scal_opt x came, _, rfl, ?_⟩
          exact ite2 (fun e => ⟨_, rfl, h1 _ (Same.refl _) e⟩) (fun e => h2 _ (Same.refl _) (neT e))
        | some r =>
          rw [hk] at k2
          dsimp only [Option.map_some, Option.getD_some]
          refine ⟨_, rfl, _, rfl, lo, _, rfl, .inl hO1, rfl, flat_ints os, _, rfl, ite2 (fun e2 => ?_) (fun e2 => ?_)⟩
          · have e2' : r ∈ os := by
              have e2 : inV (.int r) (os.map V.int) = true := e2
              rw [inV_ints] at e2
              exact of_decide_eq_true e2
            have k2 : ∀ l H', Same H H' → H l = none → H' l = some (.lst (([r].filter (notBy came)).map V.int)) → Q (.ref l) H' := fun l H' s hl hy => k2 l H' s hl (by
              show _ = some (HO.lst (List.map V.int (if r ∈ os then _ else _)))
              rw [if_pos e2']
              exact hy)
            refine ⟨_, rfl, (by show 1 ≤ sizeLine; decide), fun l1 hl1 => ?_⟩
            have u2 := Same.new (o := .lst [V.int r]) hl1
            have h2 : SqL K (upd H1 l1 (.lst [V.int r])) l1 ([r].map V.int) := SqL.of upd_same
            generalize upd H1 l1 (.lst [V.int r]) = H2 at u2 h2
            refine ⟨_, rfl, l1, rfl, ⟨_, h2⟩, fun acc hacc => ?_⟩
            refine comp_filtI (notBy came) hacc h2 (by show 1 ≤ 1000; decide) (fun x H3 R S _ s3 h1 h2 => ?_) (fun H3 s3 hy => k2 acc H3 (s1.trans (u2.trans s3)) (s1.free (u2.free hacc)) hy)
            refine ⟨_, rfl, _, rfl, scal_opt x came, _, rfl, ?_⟩
            exact ite2 (fun e => ⟨_, rfl, h1 _ (Same.refl _) e⟩) (fun e => h2 _ (Same.refl _) (neT e))
          · have e2' : ¬ r ∈ os := fun z => e2 (by show inV (.int r) (os.map V.int) = true; rw [inV_ints]; exact decide_eq_true z)
            have k2 : ∀ l H', Same H H' → H l = none → H' l = some (.lst ((os.filter (notBy came)).map V.int)) → Q (.ref l) H' := fun l H' s hl hy => k2 l H' s hl (by
              show _ = some (HO.lst (List.map V.int (if r ∈ os then _ else _)))
              rw [if_neg e2']
              exact hy)
            refine ⟨_, rfl, _, rfl, lo, rfl, ⟨_, hO1⟩, fun acc hacc => ?_⟩
            refine comp_filtI (notBy came) hacc hO1 hn (fun x H2 R S _ s2 h1 h2 => ?_) (fun H2 s2 hy => k2 acc H2 (s1.trans s2) (s1.free hacc) hy)
            refine ⟨_, rfl, _, rfl, scal_opt x came, _, rfl, ?_⟩
            exact ite2 (fun e => ⟨_, rfl, h1 _ (Same.refl _) e⟩) (fun e => h2 _ (Same.refl _) (neT e))
def spTargets (K : PySem.W.Frag) (C cL c1 cA : Addr) : Sp := fun vs H Q _ => ∃ (bk d la lo lh : Addr) (ts : List T3) (s to kd house : Int) (came : Option Int) (os hs : List Int), vs = [.ref bk, .ref la, .int house, optI came, .ref lo, .ref lh] ∧ BookAt C H bk d ts ∧ LetAt cL c1 cA H la s to kd ∧ SqL K H lo (os.map V.int) ∧ SqL K H lh (hs.map V.int) ∧ os.length ≤ 1000 ∧ hs.length ≤ 1000 ∧
  ∀ p l1 l2 H', Same H H' → H p = none → H l1 = none → H l2 = none → l1 ≠ l2 → H' p = some (.tup [.ref l1, .ref l2]) → H' l1 = some (.lst ((hs.filter (meantB s to kd)).map V.int)) → H' l2 = some (.lst ((onP ts (soughtO to kd) house came os hs).map V.int)) → Q (.ref p) H'
theorem ok_targets {t : Ad} (T : Txt K mg t) : FnOk P w K mg base CX0 3 t.f_targets t.d_targets ["book", "letter", "house", "came", "open_here", "here"]  (spTargets K t.a_Book t.a_Letter t.a_ToOne t.a_ToAll) := by
  refine T.F_targets.ok sc_targets (fun vs H Q E h => ?_) (fun cdv A outer s H vs Q E hr h => ?_)
  · obtain ⟨_, _, _, _, _, _, _, _, _, _, _, _, _, rfl, _⟩ := h; rfl
  · obtain ⟨bk, d, la, lo, lh, ts, s', to, kd, house, came, os, hs, rfl, hB, hL, hO, hH, hn, hn2, k⟩ := h
    refine ⟨_, (pss_cons (ps_setcomp (i := 6) sc_targets.nd rfl (Or.inl rfl) (compOk_of (dsc := defScope s_targets) (N0 := ["book", "letter", "house", "came", "open_here", "here", "handed"]) (N2 := ["caller", "letter"]) (cap := [none, some 1]) rfl rfl (by decide +kernel)) rfl (pi_list (pv 5)) (fun _ _ _ _ => by exact (pg_name (i := 0) nd_targets_c0 rfl (Or.inl rfl))) (fun _ _ _ _ => by exact (pts_one (pt_val (pe_alt (pe_meth (pv 1) T.c_Letter T.m_Letter_meant (ok_Letter_meant T) (hr.mono (by decide)) T.B_Letter_meant .nil pass0 (pa_c (pv 0) pa_nil)) (pe_alt (pe_meth (pv 1) T.c_ToOne T.m_ToOne_meant (ok_ToOne_meant T) (hr.mono (by decide)) T.B_ToOne_meant .nil pass0 (pa_c (pv 0) pa_nil)) (pe_meth (pv 1) T.c_ToAll T.m_ToAll_meant (ok_ToAll_meant T) (hr.mono (by decide)) T.B_ToAll_meant .nil pass0 (pa_c (pv 0) pa_nil))))))) (fun _ _ _ _ => by exact (pv 0)))
      (pss_one (ps_ret (pe_tup (pa_c (pv 6) (pa_c (pe_call (ok_ropes_on T) (hr.mono (by decide)) rfl T.g_ropes_on T.F_ropes_on.kp T.B_ropes_on .nil pass0 (pa_c (pv 0) (pa_c (pe_alt (pe_meth0 (pv 1) T.c_Letter T.m_Letter_seeks (ok_Letter_seeks T) (hr.mono (by decide)) T.B_Letter_seeks .nil pass0) (pe_alt (pe_meth0 (pv 1) T.c_ToOne T.m_ToOne_seeks (ok_ToOne_seeks T) (hr.mono (by decide)) T.B_ToOne_seeks .nil pass0) (pe_meth0 (pv 1) T.c_ToAll T.m_ToAll_seeks (ok_Letter_seeks T) (hr.mono (by decide)) T.B_Letter_seeks .nil pass0))) (pa_c (pv 2) (pa_c (pv 3) (pa_c (pv 4) (pa_c (pv 5) pa_nil))))))) pa_nil)))))), ?_⟩
    refine ⟨_, rfl, lh, rfl, ⟨_, hH⟩, fun acc hacc => ?_⟩
    refine comp_filtI (meantB s' to kd) hacc hH hn2 (fun x H2 R S _ s2 h1 h2 => ?_) (fun H2 s2 hy => ?_)
    · have hL2 := hL.mono s2
      cases hL2 with
      | bare dx ha =>
        exact .inl ⟨_, rfl, la, dx, _, rfl, ha, rfl, _, rfl, la, x, rfl, _, rfl, h2 _ (Same.refl _) rfl⟩
      | one dx ha =>
        refine .inr (.inl ⟨_, rfl, la, dx, _, rfl, ha, rfl, _, rfl, la, dx, s', to, x, rfl, ha, _, rfl, ?_⟩)
        exact ite2 (fun e => ⟨_, rfl, h1 _ (Same.refl _) e⟩) (fun e => h2 _ (Same.refl _) (neT e))
      | all dx ha =>
        refine .inr (.inr ⟨_, rfl, la, dx, _, rfl, ha, rfl, _, rfl, la, dx, s', x, rfl, ha, _, rfl, ?_⟩)
        exact ite2 (fun e => ⟨_, rfl, h1 _ (Same.refl _) e⟩) (fun e => h2 _ (Same.refl _) (neT e))
    · have hL2 := hL.mono s2
      have rest : ∀ l2 H3, Same H2 H3 → H2 l2 = none → H3 l2 = some (.lst ((onP ts (soughtO to kd) house came os hs).map V.int)) → 2 ≤ sizeLine ∧ ∀ p, H3 p = none → Q (.ref p) (upd H3 p (.tup [.ref acc, .ref l2])) := fun l2 H3 s3 hl2 h3 => by
        refine ⟨by decide, fun p hp => ?_⟩
        have u := Same.new (o := .tup [V.ref acc, .ref l2]) hp
        exact k p acc l2 _ ((s2.trans s3).trans u) (s2.free (s3.free hp)) hacc (s2.free hl2) (ne_of_none hy hl2) upd_same (u _ _ (s3 _ _ hy)) (u _ _ h3)
      refine ⟨_, rfl, _, rfl, ?_⟩
      cases hL2 with
      | bare dx ha =>
        exact .inl ⟨_, rfl, la, dx, _, rfl, ha, rfl, la, rfl, _, rfl, _, rfl, _, rfl, _, rfl, bk, d, lo, lh, ts, none, came, house, os, hs, rfl, hB.mono s2, s2.seq hO, s2.seq hH, hn, fun l2 H3 s3 hl2 h3 => rest l2 H3 s3 hl2 h3⟩
      | one dx ha =>
        exact .inr (.inl ⟨_, rfl, la, dx, _, rfl, ha, rfl, la, dx, s', to, rfl, ha, _, rfl, _, rfl, _, rfl, _, rfl, bk, d, lo, lh, ts, some to, came, house, os, hs, rfl, hB.mono s2, s2.seq hO, s2.seq hH, hn, fun l2 H3 s3 hl2 h3 => rest l2 H3 s3 hl2 h3⟩)
      | all dx ha =>
        exact .inr (.inr ⟨_, rfl, la, dx, _, rfl, ha, rfl, la, rfl, _, rfl, _, rfl, _, rfl, _, rfl, bk, d, lo, lh, ts, none, came, house, os, hs, rfl, hB.mono s2, s2.seq hO, s2.seq hH, hn, fun l2 H3 s3 hl2 h3 => rest l2 H3 s3 hl2 h3⟩)
end
end K26

set_option Elab.async false
set_option linter.all false
set_option maxRecDepth 100000
set_option maxHeartbeats 4000000
namespace K26
open PySem L2 TW PyProof.Rows
open RM (rowV byV byV_non byV_int)
seal L2.PE L2.PA L2.PT L2.PW L2.PS L2.PSs L2.PG L2.PGs L2.PI L2.PTs
section
variable {P : Program} {w : World} {K : PySem.W.Frag} {mg : Str → Option Value} {base : Heap}
def spSome : Sp := fun vs H Q _ => ∃ (f b : Int), vs = [.int f, .int b] ∧ ∀ l (xs : List Int) H', Same H H' → H l = none → H' l = some (.lst (xs.map V.int)) → xs.Nodup → xs.length ≤ 6 → Q (.ref l) H'
theorem ok_w_some {t : Ad} (T : Txt K mg t) : FnOk P w K mg base CX0 1 t.f_w_some t.d_w_some ["_law_first", "_law_bits"]  spSome := by
  refine T.F_w_some.ok sc_w_some (fun vs H Q E h => ?_) (fun cdv A outer s H vs Q E hr h => ?_)
  · obtain ⟨_, _, rfl, _⟩ := h; rfl
  · obtain ⟨f, b, rfl, k⟩ := h
    refine ⟨_, (pss_one (ps_ret (pe_comp (compOk_of (dsc := defScope s_w_some) (N0 := ["_law_first", "_law_bits"]) (N2 := ["_law_k", "_law_bits", "_law_first"]) (cap := [none, some 1, some 0]) rfl rfl (by decide +kernel)) rfl (pi_range1 rfl T.n_range (pa_c pe_int pa_nil)) (fun _ _ _ _ => by exact (pg_name (i := 0) nd_w_some_c0 rfl (Or.inl rfl))) (fun _ _ _ _ => by exact (pts_one (pt_cmpR op_eq (pe_op op_and (pe_op op_shr (pv 1) (pv 0)) pe_int) pe_int (nomark _)))) (fun _ _ _ _ => by exact (pe_op op_add (pv 2) (pv 0)))))), ?_⟩
    refine ⟨(6 : Int), rfl, by omega, by omega, fun acc hacc => ?_⟩
    refine comp_rng (n := 6) (fun i => if (decide (V.int (Builtin.bitAnd (b / 2 ^ ((i : Int)).toNat) 1) = V.int 1)) = true then some (V.int (f + i)) else none) hacc (by decide) (fun i H2 R S hi s2 h1 h2 => ?_) (fun H2 s2 hy => ?_)
    · refine ⟨_, rfl, _, rfl, _, _, rfl, rfl, (by show (0 : Int) ≤ i; omega), _, _, rfl, rfl, rfl, _, rfl, ?_⟩
      refine ite2 (fun e => ?_) (fun e => ?_)
      · exact ⟨_, rfl, _, rfl, _, _, rfl, rfl, h1 _ _ (Same.refl _) (if_pos e)⟩
      · exact h2 _ (Same.refl _) (if_neg e)
    · rw [rng_map 6 (fun i => decide (V.int (Builtin.bitAnd (b / 2 ^ ((i : Int)).toNat) 1) = V.int 1)) (fun i => f + i)] at hy
      refine k acc _ H2 s2 hacc hy ?_ ?_
      · refine (List.Nodup.sublist List.filter_sublist List.nodup_range).map (f := fun i : Nat => f + (i : Int)) ?_
        intro x y e z
        have z : f + (x : Int) = f + (y : Int) := z
        exact e (by omega)
      · rw [List.length_map]
        exact Nat.le_trans (List.length_filter_le _ _) (by rw [List.length_range]; exact Nat.le_refl _)
def spLetter (cL c1 cA : Addr) : Sp := fun vs H Q _ => ∃ (kd s to : Int), vs = [.int kd, .int s, .int to] ∧ ∀ a H', Same H H' → H a = none → LetAt cL c1 cA H' a s to (lawKind kd) → Q (.ref a) H'
theorem ok_w_letter {t : Ad} (T : Txt K mg t) : FnOk P w K mg base CX0 4 t.f_w_letter t.d_w_letter ["_law_kind", "_law_sender", "_law_to"]  (spLetter t.a_Letter t.a_ToOne t.a_ToAll) := by
  refine T.F_w_letter.ok sc_w_letter (fun vs H Q E h => ?_) (fun cdv A outer s H vs Q E hr h => ?_)
  · obtain ⟨_, _, _, rfl, _⟩ := h; rfl
  · obtain ⟨kd, s', to, rfl, k⟩ := h
    refine ⟨_, (pss_cons (ps_if (pt_cmpR op_eq (pv 0) pe_int (nomark _)) (pss_one (ps_ret (pe_make T.K_Letter (ok_Letteru_initu T) (hr.mono (by decide)) rfl T.g_Letter T.B_Letteru_initu .nil pass0 (pa_c (pv 1) pa_nil)))) pss_nil)
      (pss_cons (ps_if (pt_cmpR op_lt (pv 0) pe_int (nomark _)) (pss_one (ps_ret (pe_make T.K_ToAll (ok_Letteru_initu T) (hr.mono (by decide)) rfl T.g_ToAll T.B_Letteru_initu .nil pass0 (pa_c (pv 1) pa_nil)))) pss_nil)
      (pss_one (ps_ret (pe_make T.K_ToOne (ok_ToOneu_initu T) (hr.mono (by decide)) rfl T.g_ToOne T.B_ToOneu_initu .nil pass0 (pa_c (pv 1) (pa_c (pv 2) pa_nil))))))), ?_⟩
    refine ⟨_, rfl, rfl, _, rfl, ite2 (fun e => ?_) (fun e => ?_)⟩
    · have e0 : kd = 0 := V.int.inj (of_decide_eq_true e)
      have ek : lawKind kd = 0 := if_pos e0
      rw [ek] at k
      refine ⟨_, rfl, fun x dx hx hdx hne => ⟨x, _, dx, s', rfl, upd_same, T.c_Letter, T.n_Letter_sender, rfl, ?_⟩⟩
      exact k x _ (made hx hdx hne) hx (.bare dx upd_same)
    · have e0 : ¬ kd = 0 := fun z => e (decide_eq_true (congrArg V.int z))
      refine ⟨_, rfl, _, _, rfl, rfl, _, rfl, ite2 (fun e3 => ?_) (fun e3 => ?_)⟩
      · have e4 : kd < 3 := of_decide_eq_true e3
        have ek : lawKind kd = 2 := by unfold lawKind; rw [if_neg e0, if_pos e4]
        rw [ek] at k
        refine ⟨_, rfl, fun x dx hx hdx hne => ⟨x, _, dx, s', rfl, upd_same, T.c_ToAll, T.n_ToAll_sender, rfl, ?_⟩⟩
        exact k x _ (made hx hdx hne) hx (.all dx upd_same)
      · have e4 : ¬ kd < 3 := fun z => e3 (decide_eq_true z)
        have ek : lawKind kd = 1 := by unfold lawKind; rw [if_neg e0, if_neg e4]
        rw [ek] at k
        refine ⟨_, rfl, _, rfl, fun y dy hy hdy hne => ⟨y, dy, s', to, rfl, upd_same, fun H3 hy3 kp => ⟨rfl, ?_⟩⟩⟩
        exact k y H3 (fun b o e => kp b o (((Same.new hdy).trans (Same.new (by rw [upd_ne (Ne.symm hne)]; exact hy))) b o e) (ne_of_none e hy)) hy (.one dy hy3)
def spHanded (K : PySem.W.Frag) : Sp := fun vs H Q _ => ∃ (kd s to : Int) (lh : Addr) (hs : List Int), vs = [.int kd, .int s, .int to, .ref lh] ∧ SqL K H lh (hs.map V.int) ∧ hs.length ≤ 1000 ∧ ∀ l H', Same H H' → H l = none → H' l = some (.lst ((hs.filter (meantB s to (lawKind kd))).map V.int)) → Q (.ref l) H'
theorem ok_w_handed {t : Ad} (T : Txt K mg t) : FnOk P w K mg base CX0 1 t.f_w_handed t.d_w_handed ["_law_kind", "_law_sender", "_law_to", "_law_here"]  (spHanded K) := by
  refine T.F_w_handed.ok sc_w_handed (fun vs H Q E h => ?_) (fun cdv A outer s H vs Q E hr h => ?_)
  · obtain ⟨_, _, _, _, _, rfl, _⟩ := h; rfl
  · obtain ⟨kd, s', to, lh, hs, rfl, hH, hn, k⟩ := h
    refine ⟨_, (pss_cons (ps_if (pt_cmpR op_eq (pv 0) pe_int (nomark _)) (pss_one (ps_ret (pe_lst pa_nil))) pss_nil)
      (pss_cons (ps_if (pt_cmpR op_lt (pv 0) pe_int (nomark _)) (pss_one (ps_ret (pe_comp (compOk_of (dsc := defScope s_w_handed) (N0 := ["_law_kind", "_law_sender", "_law_to", "_law_here"]) (N2 := ["_law_caller", "_law_sender"]) (cap := [none, some 1]) rfl rfl (by decide +kernel)) rfl (pi_list (pv 3)) (fun _ _ _ _ => by exact (pg_name (i := 0) nd_w_handed_c0 rfl (Or.inl rfl))) (fun _ _ _ _ => by exact (pts_one (pt_cmpR op_ne (pv 0) (pv 1) (nomark _)))) (fun _ _ _ _ => by exact (pv 0))))) pss_nil)
      (pss_one (ps_ret (pe_comp (compOk_of (dsc := defScope s_w_handed) (N0 := ["_law_kind", "_law_sender", "_law_to", "_law_here"]) (N2 := ["_law_caller", "_law_to"]) (cap := [none, some 2]) rfl rfl (by decide +kernel)) rfl (pi_list (pv 3)) (fun _ _ _ _ => by exact (pg_name (i := 0) nd_w_handed_c1 rfl (Or.inl rfl))) (fun _ _ _ _ => by exact (pts_one (pt_cmpR op_eq (pv 0) (pv 1) (nomark _)))) (fun _ _ _ _ => by exact (pv 0))))))), ?_⟩
    refine ⟨_, rfl, rfl, _, rfl, ite2 (fun e => ?_) (fun e => ?_)⟩
    · have e0 : kd = 0 := V.int.inj (of_decide_eq_true e)
      have ek : lawKind kd = 0 := if_pos e0
      rw [ek] at k
      refine ⟨Nat.zero_le _, fun l hl => k l _ (Same.new hl) hl ?_⟩
      rw [filter_none (p := meantB s' to 0) (fun x _ => rfl)]
      exact upd_same
    · have e0 : ¬ kd = 0 := fun z => e (decide_eq_true (congrArg V.int z))
      refine ⟨_, rfl, _, _, rfl, rfl, _, rfl, ite2 (fun e3 => ?_) (fun e3 => ?_)⟩
      · have e4 : kd < 3 := of_decide_eq_true e3
        have ek : lawKind kd = 2 := by unfold lawKind; rw [if_neg e0, if_pos e4]
        rw [ek] at k
        refine ⟨_, rfl, lh, rfl, ⟨_, hH⟩, fun acc hacc => ?_⟩
        refine comp_filtI (meantB s' to 2) hacc hH hn (fun x H2 R S _ s2 h1 h2 => ?_) (fun H2 s2 hy => k acc H2 s2 hacc hy)
        refine ⟨_, rfl, _, rfl, rfl, _, rfl, ?_⟩
        exact ite2 (fun e => ⟨_, rfl, h1 _ (Same.refl _) e⟩) (fun e => h2 _ (Same.refl _) (neT e))
      · have e4 : ¬ kd < 3 := fun z => e3 (decide_eq_true z)
        have ek : lawKind kd = 1 := by unfold lawKind; rw [if_neg e0, if_neg e4]
        rw [ek] at k
        refine ⟨_, rfl, lh, rfl, ⟨_, hH⟩, fun acc hacc => ?_⟩
        refine comp_filtI (meantB s' to 1) hacc hH hn (fun x H2 R S _ s2 h1 h2 => ?_) (fun H2 s2 hy => k acc H2 s2 hacc hy)
        refine ⟨_, rfl, _, rfl, rfl, _, rfl, ?_⟩
        exact ite2 (fun e => ⟨_, rfl, h1 _ (Same.refl _) e⟩) (fun e => h2 _ (Same.refl _) (neT e))
def spGoes (K : PySem.W.Frag) : Sp := fun vs H Q _ => ∃ (dn lo lh : Addr) (ts : List T3) (kd to spot : Int) (came : Option Int) (os hs : List Int), vs = [.ref dn, .int kd, .int to, .int spot, optI came, .ref lo, .ref lh] ∧ H dn = some (.dT (ts.map noteK)) ∧ SqL K H lo (os.map V.int) ∧ SqL K H lh (hs.map V.int) ∧ os.Nodup ∧ os.length ≤ 1000 ∧
  ∀ l H', Same H H' → H l = none → H' l = some (.lst ((onP ts (soughtO to (lawKind kd)) spot came os hs).map V.int)) → Q (.ref l) H'
theorem ok_w_goes {t : Ad} (T : Txt K mg t) : FnOk P w K mg base CX0 1 t.f_w_goes t.d_w_goes ["_law_notes", "_law_kind", "_law_to", "_law_spot", "_law_came", "_law_open_ones", "_law_here"]  (spGoes K) := by
  refine T.F_w_goes.ok sc_w_goes (fun vs H Q E h => ?_) (fun cdv A outer s H vs Q E hr h => ?_)
  · obtain ⟨_, _, _, _, _, _, _, _, _, _, rfl, _⟩ := h; rfl
  · obtain ⟨dn, lo, lh, ts, kd, to, spot, came, os, hs, rfl, hD, hO, hH, hnd, hn, k⟩ := h
    refine ⟨_, (pss_cons (ps_setcomp (i := 7) sc_w_goes.nd rfl (Or.inl rfl) (compOk_of (dsc := defScope s_w_goes) (N0 := ["_law_notes", "_law_kind", "_law_to", "_law_spot", "_law_came", "_law_open_ones", "_law_here", "_law_others"]) (N2 := ["_law_rope", "_law_came"]) (cap := [none, some 4]) rfl rfl (by decide +kernel)) rfl (pi_list (pv 5)) (fun _ _ _ _ => by exact (pg_name (i := 0) nd_w_goes_c0 rfl (Or.inl rfl))) (fun _ _ _ _ => by exact (pts_one (pt_cmpR op_ne (pv 0) (pv 1) (nomark _)))) (fun _ _ _ _ => by exact (pv 0)))
      (pss_cons (ps_if (pt_cmpR op_lt (pv 1) pe_int (nomark _)) (pss_one (ps_ret (pv 7))) pss_nil)
      (pss_cons (ps_if (pt_cmpR op_in_seq (pv 2) (pv 6) (by with_unfolding_all rfl)) (pss_one (ps_ret (pe_lst pa_nil))) pss_nil)
      (pss_cons (ps_if (PW.pt (pw_and (pt_cmp (pc_din (hu_of hr) (pe_tup (pa_c (pv 3) (pa_c (pv 2) pa_nil))) (pv 0)) (by with_unfolding_all rfl)) (pw_and1 (pt_cmpR op_in_seq (pe_dget (hu_of hr) (pv 0) (pe_tup (pa_c (pv 3) (pa_c (pv 2) pa_nil))) (fun _ _ => rfl)) (pv 5) (by with_unfolding_all rfl))))) (pss_one (ps_ret (pe_comp (compOk_of (dsc := defScope s_w_goes) (N0 := ["_law_notes", "_law_kind", "_law_to", "_law_spot", "_law_came", "_law_open_ones", "_law_here", "_law_others"]) (N2 := ["_law_rope", "_law_notes", "_law_spot", "_law_to"]) (cap := [none, some 0, some 3, some 2]) rfl rfl (by decide +kernel)) rfl (pi_list (pv 7)) (fun _ _ _ _ => by exact (pg_name (i := 0) nd_w_goes_c1 rfl (Or.inl rfl))) (fun _ _ _ _ => by exact (pts_one (pt_cmpR op_eq (pv 0) (pe_dget (hu_of hr) (pv 1) (pe_tup (pa_c (pv 2) (pa_c (pv 3) pa_nil))) (fun _ _ => rfl)) (nomark _)))) (fun _ _ _ _ => by exact (pv 0))))) pss_nil)
      (pss_one (ps_ret (pv 7))))))), ?_⟩
    refine ⟨_, rfl, lo, rfl, ⟨_, hO⟩, fun acc hacc => ?_⟩
    refine comp_filtI (notBy came) hacc hO hn (fun x H2 R S _ s2 h1 h2 => ?_) (fun H2 s2 hy => ?_)
    · refine ⟨_, rfl, _, rfl, scal_opt x came, _, rfl, ?_⟩
      exact ite2 (fun e => ⟨_, rfl, h1 _ (Same.refl _) e⟩) (fun e => h2 _ (Same.refl _) (neT e))
    refine ⟨_, rfl, _, _, rfl, rfl, _, rfl, ite2 (fun e3 => ?_) (fun e3 => ?_)⟩
    · have e4 : kd < 3 := of_decide_eq_true e3
      have ek : soughtO to (lawKind kd) = none := by
        unfold soughtO lawKind
        by_cases z : kd = 0
        · rw [if_pos z]; rfl
        · rw [if_neg z, if_pos e4]; rfl
      rw [ek] at k
      exact ⟨_, rfl, k acc H2 s2 hacc hy⟩
    have e4 : ¬ kd < 3 := fun z => e3 (decide_eq_true z)
    have ek : soughtO to (lawKind kd) = some to := by
      unfold soughtO lawKind
      rw [if_neg (show ¬ kd = 0 by omega), if_neg e4]
      rfl
    rw [ek] at k
    refine ⟨_, rfl, _, rfl, lh, _, rfl, .inl (s2.seq hH), rfl, flat_ints hs, _, rfl, ite2 (fun e => ?_) (fun e => ?_)⟩
    · have e' : to ∈ hs := by
        have e : inV (.int to) (hs.map V.int) = true := e
        rw [inV_ints] at e
        exact of_decide_eq_true e
      refine ⟨Nat.zero_le _, fun l hl => k l _ (s2.trans (Same.new hl)) (s2.free hl) ?_⟩
      show _ = some (HO.lst (List.map V.int (if to ∈ hs then [] else _)))
      rw [if_pos e']
      exact upd_same
    have e' : ¬ to ∈ hs := fun z => e (by show inV (.int to) (hs.map V.int) = true; rw [inV_ints]; exact decide_eq_true z)
    have k2 : ∀ l H', Same H H' → H l = none → H' l = some (.lst ((match known3 ts spot to with
        | some r => if r ∈ os then [r].filter (notBy came) else os.filter (notBy came)
        | none => os.filter (notBy came)).map V.int)) → Q (.ref l) H' := fun l H' s hl hy => k l H' s hl (by
      show _ = some (HO.lst (List.map V.int (if to ∈ hs then [] else _)))
      rw [if_neg e']
      exact hy)
    clear k
    refine ⟨_, rfl, _, rfl, (by show 2 ≤ sizeLine; decide), fun b3 hb3 => ?_⟩
    have u3 := Same.new (o := .tup [V.int spot, .int to]) hb3
    have hb3' := upd_same (H := H2) (a := b3) (o := .tup [V.int spot, .int to])
    generalize upd H2 b3 (.tup [V.int spot, .int to]) = H3 at u3 hb3'
    refine ⟨_, rfl, dn, _, rfl, DGet.t (k := keyOf spot to) (u3 _ _ (s2 _ _ hD)) hb3', _, rfl, ?_⟩
    rw [valV_notes]
    have s3 := s2.trans u3
    cases hk : known3 ts spot to with
    | none =>
      rw [hk] at k2
      refine iteF ?_
      exact ⟨_, rfl, k2 acc _ s3 hacc (u3 _ _ hy)⟩
    | some r =>
      rw [hk] at k2
      refine iteT ?_
      refine ⟨_, rfl, _, rfl, _, rfl, (by show 2 ≤ sizeLine; decide), fun b4 hb4 => ?_⟩
      have u4 := Same.new (o := .tup [V.int spot, .int to]) hb4
      have hb4' := upd_same (H := H3) (a := b4) (o := .tup [V.int spot, .int to])
      generalize upd H3 b4 (.tup [V.int spot, .int to]) = H4 at u4 hb4'
      have s4 := s3.trans u4
      have g4 := DGet.t (k := keyOf spot to) (s4 _ _ hD) hb4'
      rw [valV_notes, hk] at g4
      refine ⟨dn, _, rfl, g4, _, rfl, lo, _, rfl, .inl (s4.seq hO), rfl, flat_ints os, _, rfl, ite2 (fun e2 => ?_) (fun e2 => ?_)⟩
      · have e2' : r ∈ os := by
          have e2 : inV (.int r) (os.map V.int) = true := e2
          rw [inV_ints] at e2
          exact of_decide_eq_true e2
        have hacc4 := u4 _ _ (u3 _ _ hy)
        refine ⟨_, rfl, acc, rfl, ⟨_, SqL.of hacc4⟩, fun acc2 hacc2 => ?_⟩
        refine comp_filtI (fun x => decide (V.int x = V.int r)) hacc2 (SqL.of hacc4) (Nat.le_trans (List.length_filter_le _ _) hn) (fun x H5 R S _ s5 h1 h2 => ?_) (fun H5 s5 hy5 => k2 acc2 H5 (s4.trans s5) (s4.free hacc2) ?_)
        · refine ⟨_, rfl, _, rfl, _, rfl, _, rfl, (by show 2 ≤ sizeLine; decide), fun b5 hb5 => ?_⟩
          have u5 := Same.new (o := .tup [V.int spot, .int to]) hb5
          have g5 := DGet.t (k := keyOf spot to) (u5 _ _ (s5 _ _ (s4 _ _ hD))) (upd_same (H := H5) (a := b5) (o := .tup [V.int spot, .int to]))
          rw [valV_notes, hk] at g5
          refine ⟨dn, _, rfl, g5, rfl, _, rfl, ?_⟩
          exact ite2 (fun e => ⟨_, rfl, h1 _ u5 e⟩) (fun e => h2 _ u5 (neT e))
        · show _ = some (HO.lst (List.map V.int (if r ∈ os then _ else _)))
          rw [if_pos e2', ← filter_one (notBy came) hnd e2']
          exact hy5
      · have e2' : ¬ r ∈ os := fun z => e2 (by show inV (.int r) (os.map V.int) = true; rw [inV_ints]; exact decide_eq_true z)
        refine ⟨_, rfl, k2 acc _ s4 hacc ?_⟩
        show _ = some (HO.lst (List.map V.int (if r ∈ os then _ else _)))
        rw [if_neg e2']
        exact u4 _ _ (u3 _ _ hy)
def spTold26 (K : PySem.W.Frag) : Sp := fun vs H Q _ => ∃ (p q a1 a2 b1 b2 : Addr) (xs ys : List Int), vs = [.ref p, .ref q] ∧ SqT K H p [.ref a1, .ref a2] ∧ SqT K H q [.ref b1, .ref b2] ∧ SqL K H a1 (xs.map V.int) ∧ SqL K H b1 (xs.map V.int) ∧ SqL K H a2 (ys.map V.int) ∧ SqL K H b2 (ys.map V.int) ∧ ∀ H', Same H H' → Q (.bl true) H'
theorem ok_w_told {t : Ad} (T : Txt K mg t) : FnOk P w K mg base CX0 3 t.f_w_told t.d_w_told ["_law_found", "_law_ought"]  (spTold26 K) := by
  refine T.F_w_told.ok sc_w_told (fun vs H Q E h => ?_) (fun cdv A outer s H vs Q E hr h => ?_)
  · obtain ⟨_, _, _, _, _, _, _, _, rfl, _⟩ := h; rfl
  · obtain ⟨p, q, a1, a2, b1, b2, xs, ys, rfl, hp, hq, h1, h2, h3, h4, k⟩ := h
    refine ⟨_, (pss_cons (ps_if (PW.pt (pw_or (pt_not (pt_val (pe_callB call_isiT (by rfl) T.n_isinstance boot_isinstance (pa_c (pv 0) (pa_c (pe_bltn rfl T.n_tuple boot_tuple (v := .ty "tuple") rfl) pa_nil))))) (pw_or1 (pt_cmpR op_ne (pe_callB call_len_seq (by rfl) T.n_len PySem.boot_len (pa_c (pv 0) pa_nil)) pe_int (nomark _))))) (pss_one (ps_ret pe_bl)) pss_nil)
      (pss_one (ps_ret (pe_and (pe_call (ok_w_numbers T) (hr.mono (by decide)) rfl T.g_w_numbers T.F_w_numbers.kp T.B_w_numbers .nil pass0 (pa_c (pe_ix ix_tup (pv 0) pe_int (fun _ _ => rfl)) (pa_c (pe_ix ix_tup (pv 1) pe_int (fun _ _ => rfl)) pa_nil))) (pe_one (pe_call (ok_w_numbers T) (hr.mono (by decide)) rfl T.g_w_numbers T.F_w_numbers.kp T.B_w_numbers .nil pass0 (pa_c (pe_ix ix_tup (pv 0) pe_int (fun _ _ => rfl)) (pa_c (pe_ix ix_tup (pv 1) pe_int (fun _ _ => rfl)) pa_nil)))))))), ?_⟩
    refine ⟨_, rfl, p, _, _, _, rfl, hp, rfl, _, rfl, iteF ?_⟩
    refine ⟨_, rfl, p, _, rfl, .inr hp, rfl, _, rfl, iteF ?_⟩
    refine ⟨_, rfl, p, _, _, _, rfl, rfl, hp, rfl, _, rfl, q, _, _, _, rfl, rfl, hq, rfl, a1, b1, xs, rfl, h1, h2, fun H2 s2 => ⟨_, rfl, iteT ?_⟩⟩
    exact ⟨_, rfl, p, _, _, _, rfl, rfl, s2.seqT hp, rfl, _, rfl, q, _, _, _, rfl, rfl, s2.seqT hq, rfl, a2, b2, ys, rfl, s2.seq h3, s2.seq h4, fun H3 s3 => k H3 (s2.trans s3)⟩
end
end K26

set_option Elab.async false
set_option linter.all false
set_option maxRecDepth 100000
set_option maxHeartbeats 4000000
namespace K26
open PySem L2 TW PyProof.Rows
open RM (rowV byV byV_non byV_int)
seal L2.PE L2.PA L2.PT L2.PW L2.PS L2.PSs L2.PG L2.PGs L2.PI L2.PTs
section
variable {P : Program} {w : World} {K : PySem.W.Frag} {mg : Str → Option Value} {base : Heap}
def spAsked26 (K : PySem.W.Frag) (C : Addr) : Sp := fun vs H Q _ => ∃ (bk d dn fa : Addr) (ts : List T3) (c f0 f1 f2 : Int), vs = [.ref bk, .ref dn, .int c, .ref fa] ∧ BookAt C H bk d ts ∧ H dn = some (.dT (ts.map noteK)) ∧ SqT K H fa [.int f0, .int f1, .int f2] ∧ ∀ H', Same H H' → Q (.bl true) H'
theorem ok_w_asked {t : Ad} (T : Txt K mg t) : FnOk P w K mg base CX0 5 t.f_w_asked t.d_w_asked ["_law_book", "_law_notes", "_law_cell_here", "_law_firsts"]  (spAsked26 K t.a_Book) := by
  refine T.F_w_asked.ok sc_w_asked (fun vs H Q E h => ?_) (fun cdv A outer s H vs Q E hr h => ?_)
  · obtain ⟨_, _, _, _, _, _, _, _, _, rfl, _⟩ := h; rfl
  · obtain ⟨bk, d, dn, fa, ts, c, f0, f1, f2, rfl, hB, hD, hF, k⟩ := h
    refine ⟨_, (pss_cons (ps_set (i := 4) sc_w_asked.nd rfl (Or.inl rfl) (pe_op op_add (pe_ix ix_tup (pv 3) pe_int (fun _ _ => rfl)) (pe_op op_mod (pe_op op_fdiv (pv 2) pe_int) pe_int)))
      (pss_cons (ps_set (i := 5) sc_w_asked.nd rfl (Or.inl rfl) (pe_op op_mod (pe_op op_fdiv (pv 2) pe_int) pe_int))
      (pss_cons (ps_set (i := 6) sc_w_asked.nd rfl (Or.inl rfl) (pe_op op_add (pe_ix ix_tup (pv 3) pe_int (fun _ _ => rfl)) (pe_op op_mod (pe_op op_fdiv (pv 2) pe_int) pe_int)))
      (pss_cons (ps_set (i := 7) sc_w_asked.nd rfl (Or.inl rfl) (pe_op op_add (pe_ix ix_tup (pv 3) pe_int (fun _ _ => rfl)) (pe_op op_mod (pe_op op_fdiv (pv 2) pe_int) pe_int)))
      (pss_cons (ps_set (i := 8) sc_w_asked.nd rfl (Or.inl rfl) (pe_call (ok_w_some T) (hr.mono (by decide)) rfl T.g_w_some T.F_w_some.kp T.B_w_some .nil pass0 (pa_c (pe_ix ix_tup (pv 3) pe_int (fun _ _ => rfl)) (pa_c (pe_ix ix_list (pe_lst (pa_c (pe_op op_mod (pe_op op_fdiv (pv 2) pe_int) pe_int) (pa_c pe_int pa_nil))) (pe_op op_mod (pe_op op_fdiv (pv 2) pe_int) pe_int) (fun _ _ => rfl)) pa_nil))))
      (pss_cons (ps_set (i := 9) sc_w_asked.nd rfl (Or.inl rfl) (pe_call (ok_w_some T) (hr.mono (by decide)) rfl T.g_w_some T.F_w_some.kp T.B_w_some .nil pass0 (pa_c (pe_ix ix_tup (pv 3) pe_int (fun _ _ => rfl)) (pa_c (pe_op op_mod (pe_op op_fdiv (pv 2) pe_int) pe_int) pa_nil))))
      (pss_cons (ps_set (i := 10) sc_w_asked.nd rfl (Or.inl rfl) (pe_op op_add (pe_ix ix_tup (pv 3) pe_int (fun _ _ => rfl)) (pe_op op_mod (pe_op op_fdiv (pv 2) pe_int) pe_int)))
      (pss_cons (ps_if (pt_cmpR op_eq (pe_op op_mod (pe_op op_fdiv (pv 2) pe_int) pe_int) pe_int (nomark _)) (pss_one (ps_set (i := 10) sc_w_asked.nd rfl (Or.inl rfl) pe_non)) pss_nil)
      (pss_cons (ps_set (i := 11) sc_w_asked.nd rfl (Or.inl rfl) (pe_tup (pa_c (pe_call (ok_w_handed T) (hr.mono (by decide)) rfl T.g_w_handed T.F_w_handed.kp T.B_w_handed .nil pass0 (pa_c (pv 5) (pa_c (pv 6) (pa_c (pv 7) (pa_c (pv 9) pa_nil))))) (pa_c (pe_call (ok_w_goes T) (hr.mono (by decide)) rfl T.g_w_goes T.F_w_goes.kp T.B_w_goes .nil pass0 (pa_c (pv 1) (pa_c (pv 5) (pa_c (pv 7) (pa_c (pv 4) (pa_c (pv 10) (pa_c (pv 8) (pa_c (pv 9) pa_nil)))))))) pa_nil))))
      (pss_cons (ps_set (i := 12) sc_w_asked.nd rfl (Or.inl rfl) (pe_call (ok_w_letter T) (hr.mono (by decide)) rfl T.g_w_letter T.F_w_letter.kp T.B_w_letter .nil pass0 (pa_c (pv 5) (pa_c (pv 6) (pa_c (pv 7) pa_nil)))))
      (pss_cons (ps_set (i := 13) sc_w_asked.nd rfl (Or.inl rfl) (pe_lst (pa_c (pe_callTy call_list_of (by rfl) T.n_list boot_list (pa_c (pv 8) pa_nil)) (pa_c (pe_callTy call_list_of (by rfl) T.n_list boot_list (pa_c (pv 9) pa_nil)) pa_nil))))
      (pss_cons (ps_set (i := 14) sc_w_asked.nd rfl (Or.inl rfl) (pe_call (ok_targets T) (hr.mono (by decide)) rfl T.g_targets T.F_targets.kp T.B_targets .nil pass0 (pa_c (pv 0) (pa_c (pv 12) (pa_c (pv 4) (pa_c (pv 10) (pa_c (pe_ix ix_list (pv 13) pe_int (fun _ _ => rfl)) (pa_c (pe_ix ix_list (pv 13) pe_int (fun _ _ => rfl)) pa_nil))))))))
      (pss_cons (ps_if (PW.pt (pw_or (pt_not (pt_val (pe_call (ok_w_told T) (hr.mono (by decide)) rfl T.g_w_told T.F_w_told.kp T.B_w_told .nil pass0 (pa_c (pv 14) (pa_c (pv 11) pa_nil))))) (pw_or (pt_cmpR op_neD (pv 13) (pe_lst (pa_c (pv 8) (pa_c (pv 9) pa_nil))) (nomark _)) (pw_or1 (pt_cmpR op_ne (pe_fld (pv 12) rfl) (pv 6) (nomark _)))))) (pss_one (ps_ret pe_bl)) pss_nil)
      (pss_cons (ps_expr (pe_bm PySem.F.plainAttrs_list PySem.F.slot_list_append PySem.F.type_list_append mt_append (pe_ix ix_tup (pv 14) pe_int (fun _ _ => rfl)) (pa_c pe_int pa_nil)))
      (pss_cons (ps_expr (pe_bm PySem.F.plainAttrs_list PySem.F.slot_list_append PySem.F.type_list_append mt_append (pe_ix ix_tup (pv 14) pe_int (fun _ _ => rfl)) (pa_c pe_int pa_nil)))
      (pss_cons (ps_if (pt_cmpR op_neD (pv 13) (pe_lst (pa_c (pv 8) (pa_c (pv 9) pa_nil))) (nomark _)) (pss_one (ps_ret pe_bl)) pss_nil)
      (pss_one (ps_ret (pe_call (ok_w_told T) (hr.mono (by decide)) rfl T.g_w_told T.F_w_told.kp T.B_w_told .nil pass0 (pa_c (pe_call (ok_targets T) (hr.mono (by decide)) rfl T.g_targets T.F_targets.kp T.B_targets .nil pass0 (pa_c (pv 0) (pa_c (pv 12) (pa_c (pv 4) (pa_c (pv 10) (pa_c (pe_ix ix_list (pv 13) pe_int (fun _ _ => rfl)) (pa_c (pe_ix ix_list (pv 13) pe_int (fun _ _ => rfl)) pa_nil))))))) (pa_c (pv 11) pa_nil))))))))))))))))))))), ?_⟩
    have p3 : (0 : Int) < 3 := by decide
    have p6 : (0 : Int) < 6 := by decide
    have p64 : (0 : Int) < 64 := by decide
    refine ⟨_, rfl, fa, _, _, _, rfl, rfl, hF, rfl, _, rfl, _, _, rfl, rfl, ⟨by decide, by decide⟩, _, _, rfl, rfl, p3, _, _, rfl, rfl, ?_⟩
    refine ⟨_, rfl, _, _, rfl, rfl, ⟨by decide, by decide⟩, _, _, rfl, rfl, p6, ?_⟩
    refine ⟨_, rfl, fa, _, _, _, rfl, rfl, hF, rfl, _, rfl, _, _, rfl, rfl, ⟨by decide, by decide⟩, _, _, rfl, rfl, p6, _, _, rfl, rfl, ?_⟩
    refine ⟨_, rfl, fa, _, _, _, rfl, rfl, hF, rfl, _, rfl, _, _, rfl, rfl, ⟨by decide, by decide⟩, _, _, rfl, rfl, p6, _, _, rfl, rfl, ?_⟩
    dsimp only [gName]
    show tSeq _ _ _ [some (.ref bk), some (.ref dn), some (.int c), some (.ref fa), some (.int (f0 + c / 3 % 3)), some (.int (c / 9 % 6)), some (.int (f1 + c / 54 % 6)), some (.int (f1 + c / 5 % 6)), none, none, none, none, none, none, none] _
    generalize f0 + c / 3 % 3 = spot
    generalize c / 9 % 6 = kd
    generalize f1 + c / 54 % 6 = sd
    generalize f1 + c / 5 % 6 = to
    -- the open ones
    refine ⟨_, rfl, fa, _, _, _, rfl, rfl, hF, rfl, _, rfl, _, _, rfl, rfl, ⟨by decide, by decide⟩, _, _, rfl, rfl, p64, (by show 2 ≤ sizeLine; decide), fun lx hlx => ?_⟩
    obtain ⟨y, hy⟩ := pair_at (c / 11 % 64) c
    have u1 := Same.new (o := .lst [V.int (c / 11 % 64), V.int 63]) hlx
    have hlx1 := upd_same (H := H) (a := lx) (o := .lst [V.int (c / 11 % 64), V.int 63])
    generalize upd H lx (.lst [V.int (c / 11 % 64), V.int 63]) = H1 at u1 hlx1
    refine ⟨_, rfl, _, _, rfl, rfl, ⟨by decide, by decide⟩, _, _, rfl, rfl, (by show (0 : Int) < 2; decide), lx, _, _, _, rfl, rfl, SqL.of hlx1, hy, f2, y, rfl, fun lo os H2 s2 hlo hlo2 hnd hol => ?_⟩
    have s02 := u1.trans s2
    clear hlx1 hlx hy u1 s2
    -- the ones who are here
    refine ⟨_, rfl, fa, _, _, _, rfl, rfl, s02.seqT hF, rfl, _, rfl, _, _, rfl, rfl, ⟨by decide, by decide⟩, _, _, rfl, rfl, p64, f1, _, rfl, fun lh hs H3 s3 hlh hlh3 _ hhl => ?_⟩
    have hlo3 := s3 _ _ hlo2
    have nol : lo ≠ lh := ne_of_none hlo2 hlh
    have s03 := s02.trans s3
    clear s02 s3 hlo2 hlh hlo
    -- came
    refine ⟨_, rfl, fa, _, _, _, rfl, rfl, s03.seqT hF, rfl, _, rfl, _, _, rfl, rfl, ⟨by decide, by decide⟩, _, _, rfl, rfl, p6, _, _, rfl, rfl, ?_⟩
    dsimp only [gName]
    refine ifS_by (fun σ H4 => H4 = H3 ∧ ∃ came : Option Int, σ = [some (.ref bk), some (.ref dn), some (.int c), some (.ref fa), some (.int spot), some (.int kd), some (.int sd), some (.int to), some (.ref lo), some (.ref lh), some (optI came), none, none, none, none]) ?_ fun nx => ?_
    case refine_2 =>
      refine ⟨_, rfl, _, _, rfl, rfl, ⟨by decide, by decide⟩, _, _, rfl, rfl, (by show (0 : Int) < 4; decide), rfl, _, rfl, ?_⟩
      refine ite2 (fun e => ?_) (fun e => ?_)
      · exact nx _ _ ⟨rfl, none, rfl⟩
      · exact nx _ _ ⟨rfl, some _, rfl⟩
    rintro σ H3' ⟨rfl, came, rfl⟩
    have hol' : os.length ≤ 1000 := Nat.le_trans hol (by decide)
    have hhl' : hs.length ≤ 1000 := Nat.le_trans hhl (by decide)
    -- what ought to be told
    refine ⟨_, rfl, _, rfl, _, rfl, _, rfl, kd, sd, to, lh, hs, rfl, SqL.of hlh3, hhl', fun l4 H4 s4 hl4 hl44 => ?_⟩
    refine ⟨_, rfl, _, rfl, _, rfl, _, rfl, _, rfl, _, rfl, _, rfl, dn, lo, lh, ts, kd, to, spot, came, os, hs, rfl, (s03.trans s4) _ _ hD, s4.seq (SqL.of hlo3), s4.seq (SqL.of hlh3), hnd, hol', fun l5 H5 s5 hl5 hl55 => ?_⟩
    refine ⟨(by show 2 ≤ sizeLine; decide), fun q6 hq6 => ?_⟩
    have u6 := Same.new (o := .tup [V.ref l4, .ref l5]) hq6
    have hq66 := upd_same (H := H5) (a := q6) (o := .tup [V.ref l4, .ref l5])
    have n45 : l4 ≠ l5 := ne_of_none hl44 hl5
    generalize upd H5 q6 (.tup [V.ref l4, .ref l5]) = H6 at u6 hq66
    have s36 := s4.trans (s5.trans u6)
    have hl46 := u6 _ _ (s5 _ _ hl44)
    have hl56 := u6 _ _ hl55
    have s06 := s03.trans s36
    have hlo6 := s36 _ _ hlo3
    have hlh6 := s36 _ _ hlh3
    clear s03 s4 s5 u6 s36 hl44 hl55 hq6 hl5 hl4 hlo3 hlh3
    -- the letter
    refine ⟨_, rfl, _, rfl, _, rfl, kd, sd, to, rfl, fun la H7 s7 hla hL => ?_⟩
    -- copies
    refine ⟨_, rfl, lo, _, rfl, .inl (s7.seq (SqL.of hlo6)), fun l8 hl8 => ?_⟩
    have u8 := Same.new (o := .lst (os.map V.int)) hl8
    have h8 := upd_same (H := H7) (a := l8) (o := .lst (os.map V.int))
    generalize upd H7 l8 (.lst (os.map V.int)) = H8 at u8 h8
    refine ⟨_, rfl, lh, _, rfl, .inl ((s7.trans u8).seq (SqL.of hlh6)), fun l9 hl9 => ?_⟩
    have u9 := Same.new (o := .lst (hs.map V.int)) hl9
    have h9 := upd_same (H := H8) (a := l9) (o := .lst (hs.map V.int))
    generalize upd H8 l9 (.lst (hs.map V.int)) = H9 at u9 h9
    refine ⟨(by show 2 ≤ sizeLine; decide), fun lc hlc => ?_⟩
    have u10 := Same.new (o := .lst [V.ref l8, .ref l9]) hlc
    have hlc10 := upd_same (H := H9) (a := lc) (o := .lst [V.ref l8, .ref l9])
    generalize upd H9 lc (.lst [V.ref l8, .ref l9]) = H10 at u10 hlc10
    have s710 := u8.trans (u9.trans u10)
    have s610 := s7.trans s710
    have s010 := s06.trans s610
    have h8 := u10 _ _ (u9 _ _ h8)
    have h9 := u10 _ _ h9
    have hL := hL.mono s710
    have hlo10 := s610 _ _ hlo6
    have hlh10 := s610 _ _ hlh6
    have hq10 := s610 _ _ hq66
    have hl410 := s610 _ _ hl46
    have hl510 := s610 _ _ hl56
    clear hl8 hl9 hlc u8 u9 u10 s710 s610 s7 s06 hlo6 hlh6 hq66 hl46 hl56
    -- asked
    refine ⟨_, rfl, _, rfl, _, rfl, _, rfl, _, rfl, lc, _, _, _, rfl, rfl, SqL.of hlc10, rfl, _, rfl, lc, _, _, _, rfl, rfl, SqL.of hlc10, rfl, bk, d, la, l8, l9, ts, sd, to, lawKind kd, spot, came, os, hs, rfl, hB.mono s010, hL, SqL.of h8, SqL.of h9, hol', hhl', fun p11 a11 b11 H11 s11 hp11 ha11 hb11 nab hp hta htb => ?_⟩
    refine ⟨_, rfl, _, rfl, p11, q6, a11, b11, l4, l5, _, _, rfl, SqT.of hp, s11.seqT (SqT.of hq10), SqL.of hta, s11.seq (SqL.of hl410), SqL.of htb, s11.seq (SqL.of hl510), fun H12 s12 => ⟨_, rfl, iteF ?_⟩⟩
    have s1012 := s11.trans s12
    have ly := ints2_lay os hs
    have dp := ints2_deep os hs
    -- the lists that were handed in
    refine ⟨_, rfl, _, rfl, _, rfl, (by show 2 ≤ sizeLine; decide), fun l13 hl13 => ?_⟩
    have u13 := Same.new (o := .lst [V.ref lo, .ref lh]) hl13
    have h13 := upd_same (H := H12) (a := l13) (o := .lst [V.ref lo, .ref lh])
    generalize upd H12 l13 (.lst [V.ref lo, .ref lh]) = H13 at u13 h13
    have s1013 := s1012.trans u13
    refine ⟨_, _, rep_ints2 (s1013 _ _ hlc10) (s1013.seq (SqL.of h8)) (s1013.seq (SqL.of h9)), rep_ints2 h13 (s1013.seq (SqL.of hlo10)) (s1013.seq (SqL.of hlh10)), ly, ly, Nat.lt_of_le_of_lt (Nat.add_le_add_left (Nat.le_trans (Nat.min_le_left _ _) dp) _) hr.units, ?_⟩
    rw [SeqAt.eqv_refl _ ly]
    refine ⟨_, rfl, iteF ?_⟩
    have hL13 := hL.mono s1013
    have fld : ∃ cx dx fs, H13 la = some (.ins cx dx fs) ∧ Cls K cx ∧ NoAttr K cx "sender" ∧ fs.lookup ("sender" : Str) = some (V.int sd) := by
      generalize lawKind kd = kk at hL13
      cases hL13 with
      | bare dx ha => exact ⟨_, dx, _, ha, T.c_Letter, T.n_Letter_sender, rfl⟩
      | one dx ha => exact ⟨_, dx, _, ha, T.c_ToOne, T.n_ToOne_sender, rfl⟩
      | all dx ha => exact ⟨_, dx, _, ha, T.c_ToAll, T.n_ToAll_sender, rfl⟩
    obtain ⟨cx, dxl, fs, hla13, hcl, hna, hlk⟩ := fld
    refine ⟨_, rfl, la, cx, dxl, fs, _, rfl, hla13, hcl, hna, hlk, _, rfl, rfl, _, rfl, iteFe (by rw [decide_eq_true rfl]; rfl) ?_⟩
    have s1113 := s12.trans u13
    have hp13 := s1113 _ _ hp
    have hta13 := s1113 _ _ hta
    have htb13 := s1113 _ _ htb
    have npa : p11 ≠ a11 := ne_obj hp hta (fun e => by cases e)
    have npb : p11 ≠ b11 := ne_obj hp htb (fun e => by cases e)
    have hfl : ∀ {f : Int → Bool}, (hs.filter f).length < 1000 := fun {f} => Nat.lt_of_le_of_lt (List.length_filter_le _ _) (Nat.lt_of_le_of_lt hhl (by decide))
    have hol : ∀ {x}, (onP ts x spot came os hs).length < 1000 := fun {x} => Nat.lt_of_le_of_lt (onP_len _ _ _ _ _ _) (by omega)
    -- what was told is changed
    refine ⟨_, rfl, p11, _, _, _, rfl, rfl, SqT.of hp13, rfl, .inl ⟨rfl, _, SqL.of hta13⟩, a11, _, _, rfl, rfl, hta13, (by rw [List.length_map]; exact small1000 (Nat.le_of_lt hfl)), ?_⟩
    have hpA : ∀ {x : HO}, SqT K (upd H13 a11 x) p11 [.ref a11, .ref b11] := fun {x} => SqT.of (by rw [upd_ne npa]; exact hp13)
    have hbA : ∀ {x : HO}, (upd H13 a11 x) b11 = some (.lst ((onP ts (soughtO to (lawKind kd)) spot came os hs).map V.int)) := fun {x} => by rw [upd_ne nab.symm]; exact htb13
    refine ⟨_, rfl, p11, _, _, _, rfl, rfl, hpA, rfl, .inl ⟨rfl, _, SqL.of hbA⟩, b11, _, _, rfl, rfl, hbA, (by rw [List.length_map]; exact small1000 (Nat.le_of_lt hol)), ?_⟩
    have s1015 : ∀ {x y : HO}, Same H10 (upd (upd H13 a11 x) b11 y) := fun {x y} b o e => by
      rw [upd_ne (ne_of_none e hb11), upd_ne (ne_of_none e ha11)]
      exact s1013 _ _ e
    have s1015 := s1015 (x := (.lst ((hs.filter (meantB sd to (lawKind kd))).map V.int ++ [V.int 0]))) (y := (.lst ((onP ts (soughtO to (lawKind kd)) spot came os hs).map V.int ++ [V.int 0])))
    generalize upd (upd H13 a11 (.lst ((hs.filter (meantB sd to (lawKind kd))).map V.int ++ [V.int 0]))) b11 (.lst ((onP ts (soughtO to (lawKind kd)) spot came os hs).map V.int ++ [V.int 0])) = H15 at s1015
    refine ⟨_, rfl, _, rfl, _, rfl, (by show 2 ≤ sizeLine; decide), fun l16 hl16 => ?_⟩
    have u16 := Same.new (o := .lst [V.ref lo, .ref lh]) hl16
    have h16 := upd_same (H := H15) (a := l16) (o := .lst [V.ref lo, .ref lh])
    generalize upd H15 l16 (.lst [V.ref lo, .ref lh]) = H16 at u16 h16
    have s1016 := s1015.trans u16
    refine ⟨_, _, rep_ints2 (s1016 _ _ hlc10) (s1016.seq (SqL.of h8)) (s1016.seq (SqL.of h9)), rep_ints2 h16 (s1016.seq (SqL.of hlo10)) (s1016.seq (SqL.of hlh10)), ly, ly, Nat.lt_of_le_of_lt (Nat.add_le_add_left (Nat.le_trans (Nat.min_le_left _ _) dp) _) hr.units, ?_⟩
    rw [SeqAt.eqv_refl _ ly]
    refine ⟨_, rfl, iteF ?_⟩
    have s016 := s010.trans s1016
    refine ⟨_, rfl, _, rfl, _, rfl, _, rfl, _, rfl, lc, _, _, _, rfl, rfl, s1016.seq (SqL.of hlc10), rfl, _, rfl, lc, _, _, _, rfl, rfl, s1016.seq (SqL.of hlc10), rfl, bk, d, la, l8, l9, ts, sd, to, lawKind kd, spot, came, os, hs, rfl, hB.mono s016, hL.mono s1016, s1016.seq (SqL.of h8), s1016.seq (SqL.of h9), hol', hhl', fun p17 a17 b17 H17 s17 hp17 ha17 hb17 nab17 hp hta htb => ?_⟩
    exact ⟨_, rfl, p17, q6, a17, b17, l4, l5, _, _, rfl, SqT.of hp, s17.seqT (s1016.seqT (SqT.of hq10)), SqL.of hta, s17.seq (s1016.seq (SqL.of hl410)), SqL.of htb, s17.seq (s1016.seq (SqL.of hl510)), fun H18 s18 => k H18 ((s016.trans s17).trans s18)⟩
end
end K26

set_option Elab.async false
set_option linter.all false
set_option maxRecDepth 100000
set_option maxHeartbeats 4000000
namespace K26
open PySem L2 TW PyProof.Rows
open RM (rowV byV byV_non byV_int)
seal L2.PE L2.PA L2.PT L2.PW L2.PS L2.PSs L2.PG L2.PGs L2.PI L2.PTs
section
variable {P : Program} {w : World} {K : PySem.W.Frag} {mg : Str → Option Value} {base : Heap}
def spLaw (K : PySem.W.Frag) : Sp := fun vs H Q _ => ∃ (a : Addr) (ns : List Int), vs = [.ref a] ∧ SqL K H a (ns.map V.int) ∧ ns.length ≤ 63 ∧ ∀ H', Q (.bl true) H'
theorem ok_law {t : Ad} (T : Txt K mg t) : FnOk P w K mg base CX0 6 t.f_law t.d_law ["_law_script"]  (spLaw K) := by
  refine T.F_law.ok sc_law (fun vs H Q E h => ?_) (fun cdv A outer s H vs Q E hr h => ?_)
  · obtain ⟨a, ns, rfl, _⟩ := h; rfl
  · obtain ⟨a, cs, rfl, hS, hlen, k⟩ := h
    refine ⟨_, (pss_cons (ps_set (i := 1) sc_law.nd rfl (Or.inl rfl) (pe_call (ok_w_cell T) (hr.mono (by decide)) rfl T.g_w_cell T.F_w_cell.kp T.B_w_cell .nil pass0 (pa_c (pv 0) (pa_c pe_int pa_nil))))
      (pss_cons (ps_set (i := 2) sc_law.nd rfl (Or.inl rfl) (pe_tup (pa_c (pe_op op_mod (pv 1) pe_int) (pa_c (pe_op op_mod (pe_op op_fdiv (pv 1) pe_int) pe_int) (pa_c (pe_op op_mod (pe_op op_fdiv (pv 1) pe_int) pe_int) pa_nil)))))
      (pss_cons (ps_set (i := 3) sc_law.nd rfl (Or.inl rfl) (pe_make0 T.K_Book (ok_Booku_initu T) (hr.mono (by decide)) rfl T.g_Book T.B_Booku_initu .nil pass0))
      (pss_cons (ps_set (i := 4) sc_law.nd rfl (Or.inr rfl) pe_dnewT)
      (pss_cons (ps_for PassesOwn.never rfl (pi_range1 rfl T.n_range (pa_c (pe_callB (call_min2 rfl) (by rfl) T.n_min boot_min (pa_c (pe_op op_add (pe_callB call_len_seq (by rfl) T.n_len PySem.boot_len (pa_c (pv 0) pa_nil)) pe_int) (pa_c pe_int pa_nil))) pa_nil)) (pg_name (i := 5) sc_law.nd rfl (Or.inl rfl)) (pss_cons (ps_set (i := 6) sc_law.nd rfl (Or.inl rfl) (pe_op op_add (pe_call (ok_w_cell T) (hr.mono (by decide)) rfl T.g_w_cell T.F_w_cell.kp T.B_w_cell .nil pass0 (pa_c (pv 0) (pa_c (pv 5) pa_nil))) (pv 5)))
      (pss_cons (ps_if (pt_cmpR op_eq (pe_op op_mod (pv 6) pe_int) pe_int (nomark _)) (pss_cons (ps_set (i := 7) sc_law.nd rfl (Or.inl rfl) (pe_op op_add (pe_ix ix_tup (pv 2) pe_int (fun _ _ => rfl)) (pe_op op_mod (pe_op op_fdiv (pv 6) pe_int) pe_int)))
      (pss_cons (ps_set (i := 8) sc_law.nd rfl (Or.inl rfl) (pe_op op_add (pe_ix ix_tup (pv 2) pe_int (fun _ _ => rfl)) (pe_op op_mod (pe_op op_fdiv (pv 6) pe_int) pe_int)))
      (pss_cons (ps_set (i := 9) sc_law.nd rfl (Or.inl rfl) (pe_op op_add (pe_ix ix_tup (pv 2) pe_int (fun _ _ => rfl)) (pe_op op_mod (pe_op op_fdiv (pv 6) pe_int) pe_int)))
      (pss_cons (ps_expr (pe_meth (pv 3) T.c_Book T.m_Book_learn (ok_Book_learn T) (hr.mono (by decide)) T.B_Book_learn .nil pass0 (pa_c (pv 7) (pa_c (pv 8) (pa_c (pv 9) pa_nil)))))
      (pss_one (ps_dput (hu_of hr) (pv 4) (pe_tup (pa_c (pv 7) (pa_c (pv 8) pa_nil))) (pv 9) rfl)))))) (pss_one (ps_if (pt_not (pt_val (pe_call (ok_w_asked T) (hr.mono (by decide)) rfl T.g_w_asked T.F_w_asked.kp T.B_w_asked .nil pass0 (pa_c (pv 3) (pa_c (pv 4) (pa_c (pv 6) (pa_c (pv 2) pa_nil))))))) (pss_one (ps_ret pe_bl)) pss_nil)))
      (pss_cons (ps_set (i := 10) sc_law.nd rfl (Or.inl rfl) (pe_callB call_sorted3 (by rfl) T.n_sorted boot_sorted (pa_c (pe_thaw (pe_comp (compOk_of (dsc := defScope s_law) (N0 := ["_law_script", "_law_head", "_law_firsts", "_law_book", "_law_notes", "_law_k", "_law_cell_here", "_law_spot", "_law_caller", "_law_rope", "_law_ought"]) (N2 := ["_law_spot", "_law_caller", "_law_notes"]) (cap := [none, none, some 4]) rfl rfl (by decide +kernel)) rfl (pi_keysT (pv 4)) (fun _ _ _ _ => by exact (pg_tupK K rfl (n := 2) rfl (pgs_cons (pg_name (i := 0) nd_law_c0 rfl (Or.inl rfl)) (pgs_cons (pg_name (i := 1) nd_law_c0 rfl (Or.inl rfl)) pgs_nil)))) (fun _ _ _ _ => by exact pts_nil) (fun _ _ _ _ => by exact (pe_tup (pa_c (pv 0) (pa_c (pv 1) (pa_c (pe_dget (hu_of hr) (pv 2) (pe_tup (pa_c (pv 0) (pa_c (pv 1) pa_nil))) (fun _ _ => rfl)) pa_nil))))))) pa_nil)))
      (pss_one (ps_if (pt_cmpR op_neD (pe_meth0 (pv 3) T.c_Book T.m_Book_notes (ok_Book_notes T) (hr.mono (by decide)) T.B_Book_notes .nil pass0) (pv 10) (nomark _)) (pss_one (ps_ret pe_bl)) pss_nil))))))
      (pss_one (ps_ret pe_bl))))))), ?_⟩
    refine ⟨_, rfl, a, cs, 0, rfl, hS, by decide, fun f _ => ?_⟩
    refine ⟨_, rfl, _, _, rfl, rfl, (by show (0 : Int) < 8; decide), _, rfl, _, _, rfl, rfl, ⟨by decide, by decide⟩, _, _, rfl, rfl, (by show (0 : Int) < 15; decide), _, rfl, _, _, rfl, rfl, ⟨by decide, by decide⟩, _, _, rfl, rfl, (by show (0 : Int) < 15; decide), (by show 3 ≤ sizeLine; decide), fun fa hfa => ?_⟩
    show gName 2 (V.ref fa) _ (upd H fa (.tup [V.int (f % 8), .int (f / 8 % 15), .int (f / 120 % 15)])) _
    generalize f % 8 = f0
    generalize f / 8 % 15 = f1
    generalize f / 120 % 15 = f2
    have u1 := Same.new (o := .tup [V.int f0, .int f1, .int f2]) hfa
    have hF1 : SqT K (upd H fa (.tup [V.int f0, .int f1, .int f2])) fa [.int f0, .int f1, .int f2] := SqT.of upd_same
    have hS1 := u1.seq hS
    generalize upd H fa (.tup [V.int f0, .int f1, .int f2]) = H1 at u1 hF1 hS1
    refine fun p0 dx0 np0 ndx0 nep0 => ?_
    have t1 : Same H1 (upd (upd H1 dx0 (.own p0)) p0 (.ins t.a_Book dx0 [])) := (Same.new ndx0).trans (Same.new (by rw [upd_ne (Ne.symm nep0)]; exact np0))
    refine ⟨p0, dx0, rfl, upd_same, fun d0 H2 hd0 hB0 kp => ⟨rfl, ?_⟩⟩
    have s2 : Same H1 H2 := fun b o e => kp b o (t1 b o e) (ne_of_none e np0)
    have hF2 := s2.seqT hF1
    have hS2 := s2.seq hS1
    clear kp t1 np0 ndx0 nep0 hd0 s2 hF1 hS1 u1 hfa
    refine fun dn hdn => ?_
    have u3 := Same.new (o := .dT []) hdn
    have hD3 := upd_same (H := H2) (a := dn) (o := .dT [])
    have ndn : d0 ≠ dn := ne_of_none hB0.di hdn
    have hB3 := hB0.mono u3
    have hF3 := u3.seqT hF2
    have hS3 := u3.seq hS2
    generalize upd H2 dn (.dT []) = H3 at u3 hD3 hB3 hF3 hS3
    clear hB0 hF2 hS2 u3 hdn
    obtain ⟨n, hn⟩ : ∃ n : Nat, (if (40 : Int) < (((cs.map V.int).length : Nat) : Int) + 1 then (40 : Int) else (((cs.map V.int).length : Nat) : Int) + 1) = (n : Int) ∧ n ≤ 40 := by
      refine ⟨(if (40 : Int) < (((cs.map V.int).length : Nat) : Int) + 1 then (40 : Int) else (((cs.map V.int).length : Nat) : Int) + 1).toNat, ?_, ?_⟩ <;> split <;> omega
    refine ⟨_, rfl, a, _, rfl, .inl hS3, _, _, rfl, rfl, _, _, rfl, (n : Int), (by rw [← hn.1]), by omega, by omega, for_range (n := n) (fun i σ H4 => (∃ ts : List T3, BookAt t.a_Book H4 p0 d0 ts ∧ H4 dn = some (.dT (ts.map noteK)) ∧ OneEach ts ∧ ts.length ≤ i) ∧ SqT K H4 fa [.int f0, .int f1, .int f2] ∧ SqL K H4 a (cs.map V.int) ∧ ∃ v5 v6 v7 v8 v9 v10 : Option V, σ = [some (.ref a), some (.int f), some (.ref fa), some (.ref p0), some (.ref dn), v5, v6, v7, v8, v9, v10]) ⟨⟨[], hB3, hD3, List.nodup_nil, Nat.le_refl _⟩, hF3, hS3, _, _, _, _, _, _, rfl⟩ ?_ ?_⟩
    · clear hB3 hD3 hF3 hS3 hS
      rintro i σ H4 hi ⟨⟨ts, hB, hD, hone, hl⟩, hF, hS, v5, v6, v7, v8, v9, v10, rfl⟩
      rw [Int.zero_add]
      refine ⟨_, rfl, _, rfl, a, cs, _, rfl, hS, by omega, fun x hx => ⟨_, rfl, _, _, rfl, rfl, ?_⟩⟩
      dsimp only [gName]
      generalize x + _ = c
      refine ifS_by (fun σ H5 => (∃ ts : List T3, BookAt t.a_Book H5 p0 d0 ts ∧ H5 dn = some (.dT (ts.map noteK)) ∧ OneEach ts ∧ ts.length ≤ i + 1) ∧ SqT K H5 fa [.int f0, .int f1, .int f2] ∧ SqL K H5 a (cs.map V.int) ∧ ∃ v5 v6 v7 v8 v9 v10 : Option V, σ = [some (.ref a), some (.int f), some (.ref fa), some (.ref p0), some (.ref dn), v5, v6, v7, v8, v9, v10]) ?_ fun nx => ?_
      case refine_2 =>
        refine ⟨_, rfl, _, _, rfl, rfl, (by show (0 : Int) < 3; decide), rfl, _, rfl, ite2 (fun e => ?_) (fun e => ?_)⟩
        · refine ⟨_, rfl, fa, _, _, _, rfl, rfl, hF, rfl, _, rfl, _, _, rfl, rfl, ⟨by decide, by decide⟩, _, _, rfl, rfl, (by show (0 : Int) < 3; decide), _, _, rfl, rfl, ?_⟩
          refine ⟨_, rfl, fa, _, _, _, rfl, rfl, hF, rfl, _, rfl, _, _, rfl, rfl, ⟨by decide, by decide⟩, _, _, rfl, rfl, (by show (0 : Int) < 6; decide), _, _, rfl, rfl, ?_⟩
          refine ⟨_, rfl, fa, _, _, _, rfl, rfl, hF, rfl, _, rfl, _, _, rfl, rfl, ⟨by decide, by decide⟩, _, _, rfl, rfl, (by show (0 : Int) < 6; decide), _, _, rfl, rfl, ?_⟩
          dsimp only [gName]
          show tSeq _ _ _ [some (.ref a), some (.int f), some (.ref fa), some (.ref p0), some (.ref dn), some (.int i), some (.int c), some (.int (f0 + c / 3 % 3)), some (.int (f1 + c / 9 % 6)), some (.int (f2 + c / 54 % 6)), v10] _
          generalize f0 + c / 3 % 3 = sp
          generalize f1 + c / 9 % 6 = cl
          generalize f2 + c / 54 % 6 = rp
          obtain ⟨dx, hob⟩ := hB.ob
          have hdi := hB.di
          obtain ⟨ts', ets, pts, ots⟩ := putK_notes (h := sp) (c := cl) (r := rp) (List.Perm.refl ts) hone
          refine ⟨_, rfl, p0, dx, _, rfl, hob, rfl, _, rfl, _, rfl, _, rfl, p0, d0, ts, sp, cl, rp, rfl, hB, by omega, fun H5 hd5 kp => ?_⟩
          rw [ets] at hd5
          have hF5 := SqT.past hdi nt_dT kp hF
          have hS5 := SqL.past hdi nl_dT kp hS
          have hD5 := kp _ _ hD ndn.symm
          have hob5 := kp _ _ hob (ne_obj hob hdi (fun e => by cases e))
          refine ⟨_, rfl, _, rfl, _, rfl, _, rfl, (by show 2 ≤ sizeLine; decide), fun b6 hb6 => ?_⟩
          have nb6 : dn ≠ b6 := ne_of_none hD5 hb6
          have u6 := Same.new (o := .tup [V.int sp, .int cl]) hb6
          refine ⟨dn, _, rfl, DPut.t (k := keyOf sp cl) (kvs := ts.map noteK) (u6 _ _ hD5) upd_same (by rw [List.length_map]; exact small1000 (by omega)), ?_⟩
          rw [ets]
          have hD6 := u6 _ _ hD5
          have hdi6 := u6 _ _ hd5
          have kp6 := upd_keep (H := upd H5 b6 (.tup [V.int sp, .int cl])) (z := dn) (o := .dT (ts'.map noteK))
          refine nx _ _ ⟨⟨ts', ⟨⟨dx, kp6 _ _ (u6 _ _ hob5) (ne_obj (u6 _ _ hob5) hD6 (fun e => by cases e))⟩, kp6 _ _ hdi6 ndn⟩, upd_same, ots, ?_⟩, SqT.past hD6 nt_dT kp6 (u6.seqT hF5), SqL.past hD6 nl_dT kp6 (u6.seq hS5), _, _, _, _, _, _, rfl⟩
          rw [pts.length_eq]
          exact Nat.le_trans (put3_len _ _ _ _) (Nat.succ_le_succ hl)
        · refine ⟨_, rfl, _, rfl, _, rfl, _, rfl, p0, d0, dn, fa, ts, c, f0, f1, f2, rfl, hB, hD, hF, fun H5 s5 => ⟨_, rfl, iteF ?_⟩⟩
          exact nx _ _ ⟨⟨ts, hB.mono s5, s5 _ _ hD, hone, Nat.le_succ_of_le hl⟩, s5.seqT hF, s5.seq hS, _, _, _, _, _, _, rfl⟩
      clear hB hD hone hl hF hS v5 v6 v7 v8 v9 v10 ts
      rintro σ H5 ⟨⟨ts, hB, hD, hone, hl⟩, hF, hS, v5, v6, v7, v8, v9, v10, rfl⟩
      have h64 : ts.length < 64 := by omega
      refine ⟨dn, ts.map noteK, hD, ?_⟩
      refine ⟨_, rfl, dn, _, rfl, hD, fun o => ?_⟩
      intro acc hacc
      have hd2 := upd_same (H := H5) (a := dn) (o := .frz o (.dT (ts.map noteK)))
      have hH : ∀ {H3 : Hp}, Same (upd H5 dn (.frz o (.dT (ts.map noteK)))) H3 → Same H5 (upd H3 dn (.dT (ts.map noteK))) := fun {H3} s3 b u e => by
        by_cases z : b = dn
        · subst z
          rw [hD] at e
          cases e
          exact upd_same
        · rw [upd_ne z]
          exact s3 _ _ (by rw [upd_ne z]; exact e)
      generalize upd H5 dn (.frz o (.dT (ts.map noteK))) = H6 at hd2 hH hacc
      refine comp_by (n := (ts.map noteK).length) (fun i ys H3 => ∃ qs : List Addr, ys = qs.map V.ref ∧ TrisAt K H3 qs (ts.take i)) hacc (ity_go hd2) (ity_stop hd2) ⟨[], rfl, TrisAt.nil⟩ ?_ ?_
      · rintro j ys H7 hj s7 hy ⟨qs, rfl, hqs⟩ y H8 ⟨rfl, kb, ky, vv, rfl, hkv, hkb⟩
        have hj' : j < ts.length := by rw [List.length_map] at hj; exact hj
        rw [List.getElem?_map, List.getElem?_eq_getElem hj'] at hkv
        cases hkv
        generalize ht : ts[j] = u
        have hu : ts[j]? = some u := by rw [List.getElem?_eq_getElem hj', ht]
        obtain ⟨w1, w2, w3⟩ := u
        rw [ht] at hkb
        have hkn : known3 ts w1 w2 = some w3 := (mem_known hone).mpr (List.mem_of_getElem? hu)
        refine ⟨kb, _, rfl, SqT.of hkb, rfl, _, _, rfl, _, _, rfl, rfl, ?_⟩
        refine ⟨_, rfl, _, rfl, _, rfl, _, rfl, _, rfl, (by show 2 ≤ sizeLine; decide), fun b9 hb9 => ?_⟩
        have u9 := Same.new (o := .tup [V.int w1, .int w2]) hb9
        have g9 : DGet (upd H8 b9 (.tup [V.int w1, .int w2])) dn (.ref b9) (valV (ts.map noteK) (keyOf w1 w2)) := .inr ⟨_, keyOf w1 w2, b9, .inr ⟨o, u9 _ _ (s7 _ _ hd2)⟩, rfl, upd_same, rfl⟩
        rw [valV_notes, hkn] at g9
        refine ⟨dn, _, rfl, g9, (by show 3 ≤ sizeLine; decide), fun c9 hc9 => ?_⟩
        have u10 := Same.new (o := .tup [V.int w1, .int w2, .int w3]) hc9
        have s9 := u9.trans u10
        have hy9 := s9 _ _ hy
        have hql : qs.length = j := by rw [hqs.1, List.length_take]; omega
        refine comp_add hacc hj (s7.trans s9) hy9 (by rw [List.length_map]; exact small1000 (by omega)) ⟨qs ++ [c9], by simp, ?_⟩
        rw [List.take_add_one, hu]
        exact TrisAt.past hy9 nt_lst upd_keep (TrisAt.snoc (t := (w1, w2, w3)) (hqs.mono s9) (SqT.of upd_same))
      · rintro ys H7 s7 hy ⟨qs, rfl, hqs⟩
        have hacd : acc ≠ dn := (ne_of_none hd2 hacc).symm
        rw [List.length_map, List.take_length] at hqs
        refine ⟨o, s7 _ _ hd2, ?_⟩
        have s57 := hH s7
        have hac7 : (upd H7 dn (.dT (ts.map noteK))) acc = some (.lst (qs.map V.ref)) := by rw [upd_ne hacd]; exact hy
        have hqs7 : TrisAt K (upd H7 dn (.dT (ts.map noteK))) qs ts := TrisAt.past (s7 _ _ hd2) nt_frz upd_keep hqs
        generalize upd H7 dn (.dT (ts.map noteK)) = H8 at s57 hac7 hqs7
        refine ⟨acc, qs, ts, rfl, SqL.of hac7, hqs7, h64, fun l qs' us hl8 hp hs ht => ?_⟩
        have u9 := Same.new (o := .lst (qs'.map V.ref)) hl8
        have hN1 : KeepAt K (upd H8 l (.lst (qs'.map V.ref))) l us := ⟨qs', upd_same, ht.mono u9⟩
        have s59 := s57.trans u9
        generalize upd H8 l (.lst (qs'.map V.ref)) = H9 at u9 hN1 s59
        obtain ⟨dx, hob⟩ := (hB.mono s59).ob
        refine ⟨_, rfl, p0, dx, _, rfl, hob, rfl, p0, d0, ts, rfl, hB.mono s59, h64, fun ln qn un H10 s10 hln hln10 hqn hpn hsn => ?_⟩
        have hN2 : KeepAt K H10 ln un := ⟨qn, hln10, hqn⟩
        have hN1 := hN1.mono s10
        have eu : un = us := sorted3_uniq (hpn.trans hp.symm) hsn hs
        subst eu
        have ly : PyData.canLay0 (.list (un.map triD)) = true := tris_lay un
        have hdp : PyData.depth (.list (un.map triD)) ≤ 64 := by
          show PyData.depthAll (un.map triD) + 1 ≤ 64
          have := tris_deep un
          omega
        refine ⟨_, rfl, _, _, rep_keep hN2, rep_keep hN1, ly, ly, Nat.lt_of_le_of_lt (Nat.add_le_add_left (Nat.le_trans (Nat.min_le_left _ _) hdp) _) hr.units, ?_⟩
        rw [SeqAt.eqv_refl _ ly]
        refine ⟨_, rfl, iteF ?_⟩
        have s510 := s59.trans s10
        exact ⟨⟨ts, hB.mono s510, s510 _ _ hD, hone, hl⟩, s510.seqT hF, s510.seq hS, _, _, _, _, _, _, rfl⟩
    · rintro σ H4 _
      exact k H4
end
theorem walk {l : PySem.W.OpenLaw} {q : Program} {loose : List Str} {XP : (Str → Option Value) → Heap → Prop} {YP : World → Heap → Prop} {d : DefRec} {K : Params → PySem.W.Frag} (hn : l.most = some 63) (hdf : d.params.defaults = []) (hdn : d.name = "law")
    (hY : ∀ (w : World) (h : Heap), YP w h → (K w.params).In h)
    (F : ∀ (w : World) (mg : Str → Option Value) (h : Heap), (K w.params).In h → h.Ns mainGlobals mg → ∃ t, Txt (K w.params) mg t) :
    PySem.W.WalkO q loose XP YP l.row.toRowW d [] (fun f vs => PySem.call f vs) :=
  L2.walk_of (n := 63) (k := 6) (x := "_law_script") (CX := fun _ => CX0) (sp := fun w => spLaw (K w.params)) hn (by decide) hdf ⟨rfl, by decide, by decide⟩ hY
    (fun w mg fa h KX G hmg => by
      obtain ⟨t, T⟩ := F w mg h KX G
      rw [hdn] at hmg
      have e := hmg.symm.trans T.g_law
      cases e
      refine ⟨t.d_law, fun s v => ?_, fun base _ _ => ok_law T⟩
      obtain ⟨_, _, _, _, _, _, _, _, _, e, _⟩ := T.F_law.ex
      rw [e]
      exact .of_eq rfl)
    (fun _ _ a ns hl _ hS => ⟨a, ns, rfl, hS, hl, fun _ => rfl⟩) fun _ _ _ _ _ z => z
end K26

set_option Elab.async false
set_option linter.all false
open PySem PySem.W PyProof.Rows
set_option maxRecDepth 100000 in
set_option maxHeartbeats 0 in
theorem PySem.Challenge.cw_knotless_k26_targets_holds : PySem.Challenge.rw_knotless_k26_targets.Holds := by
  w_on; o_law; k_head; (case hw => w_witness2)
  k_fill
  refine K26.walk (l := PySem.Challenge.rw_knotless_k26_targets) rfl rfl rfl (fun w h Y => PySem.W.kIn_of Y) ?F
  case F =>
    intro w mg h KX G
    refine' K26.txt_mk KX G ?aC_Letter ?aC_ToOne ?aC_ToAll ?aC_Book ?a_targets ?l_targets ?c_targets ?k_targets ?a_ropes_on ?l_ropes_on ?c_ropes_on ?k_ropes_on ?a_Booku_initu ?i_Booku_initu ?l_Booku_initu ?c_Booku_initu ?k_Booku_initu ?a_Book_learn ?i_Book_learn ?l_Book_learn ?c_Book_learn ?k_Book_learn ?a_Book_known ?i_Book_known ?l_Book_known ?c_Book_known ?k_Book_known ?a_Book_notes ?i_Book_notes ?l_Book_notes ?c_Book_notes ?k_Book_notes ?a_Letteru_initu ?i_Letteru_initu ?l_Letteru_initu ?c_Letteru_initu ?k_Letteru_initu ?a_Letter_meant ?i_Letter_meant ?l_Letter_meant ?c_Letter_meant ?k_Letter_meant ?a_Letter_seeks ?i_Letter_seeks ?l_Letter_seeks ?c_Letter_seeks ?k_Letter_seeks ?a_ToOneu_initu ?i_ToOneu_initu ?l_ToOneu_initu ?c_ToOneu_initu ?k_ToOneu_initu ?a_ToOne_meant ?i_ToOne_meant ?l_ToOne_meant ?c_ToOne_meant ?k_ToOne_meant ?a_ToOne_seeks ?i_ToOne_seeks ?l_ToOne_seeks ?c_ToOne_seeks ?k_ToOne_seeks ?a_ToAll_meant ?i_ToAll_meant ?l_ToAll_meant ?c_ToAll_meant ?k_ToAll_meant ?a_w_cell ?l_w_cell ?c_w_cell ?k_w_cell ?a_w_whole ?l_w_whole ?c_w_whole ?k_w_whole ?a_w_numbers ?l_w_numbers ?c_w_numbers ?k_w_numbers ?a_w_some ?l_w_some ?c_w_some ?k_w_some ?a_w_letter ?l_w_letter ?c_w_letter ?k_w_letter ?a_w_handed ?l_w_handed ?c_w_handed ?k_w_handed ?a_w_goes ?l_w_goes ?c_w_goes ?k_w_goes ?a_w_told ?l_w_told ?c_w_told ?k_w_told ?a_w_asked ?l_w_asked ?c_w_asked ?k_w_asked ?a_law ?l_law ?c_law ?k_law ?pg_Letter ?hd_Letter ?po_Letter ?sa_Letter ?mk_Letter ?kc_Letter ?nA_Letter_sender ?nA_Letter_to ?pg_ToOne ?hd_ToOne ?po_ToOne ?sa_ToOne ?mk_ToOne ?kc_ToOne ?nA_ToOne_sender ?nA_ToOne_to ?pg_ToAll ?hd_ToAll ?po_ToAll ?sa_ToAll ?mk_ToAll ?kc_ToAll ?nA_ToAll_sender ?nA_ToAll_to ?pg_Book ?hd_Book ?po_Book ?sa_Book ?mk_Book ?kc_Book ?nA_Book_kept ?ih_ToAll_seeks ?ii_ToAll ?cg_Letteru_initu ?cr_Letteru_initu ?cm_Letteru_initu ?z_len ?z_isinstance ?z_int ?z_bool ?z_list ?z_tuple ?z_range ?z_min ?z_sorted ?z_zip
    (case aC_Letter => k_is)
    (case aC_ToOne => k_is)
    (case aC_ToAll => k_is)
    (case aC_Book => k_is)
    (case a_targets => k_is)
    (case l_targets => k_is)
    (case c_targets => k_is)
    (case k_targets => k_is)
    (case a_ropes_on => k_is)
    (case l_ropes_on => k_is)
    (case c_ropes_on => k_is)
    (case k_ropes_on => k_is)
    (case a_Booku_initu => k_is)
    (case i_Booku_initu => k_is)
    (case l_Booku_initu => k_is)
    (case c_Booku_initu => k_is)
    (case k_Booku_initu => k_is)
    (case a_Book_learn => k_is)
    (case i_Book_learn => k_is)
    (case l_Book_learn => k_is)
    (case c_Book_learn => k_is)
    (case k_Book_learn => k_is)
    (case a_Book_known => k_is)
    (case i_Book_known => k_is)
    (case l_Book_known => k_is)
    (case c_Book_known => k_is)
    (case k_Book_known => k_is)
    (case a_Book_notes => k_is)
    (case i_Book_notes => k_is)
    (case l_Book_notes => k_is)
    (case c_Book_notes => k_is)
    (case k_Book_notes => k_is)
    (case a_Letteru_initu => k_is)
    (case i_Letteru_initu => k_is)
    (case l_Letteru_initu => k_is)
    (case c_Letteru_initu => k_is)
    (case k_Letteru_initu => k_is)
    (case a_Letter_meant => k_is)
    (case i_Letter_meant => k_is)
    (case l_Letter_meant => k_is)
    (case c_Letter_meant => k_is)
    (case k_Letter_meant => k_is)
    (case a_Letter_seeks => k_is)
    (case i_Letter_seeks => k_is)
    (case l_Letter_seeks => k_is)
    (case c_Letter_seeks => k_is)
    (case k_Letter_seeks => k_is)
    (case a_ToOneu_initu => k_is)
    (case i_ToOneu_initu => k_is)
    (case l_ToOneu_initu => k_is)
    (case c_ToOneu_initu => k_is)
    (case k_ToOneu_initu => k_is)
    (case a_ToOne_meant => k_is)
    (case i_ToOne_meant => k_is)
    (case l_ToOne_meant => k_is)
    (case c_ToOne_meant => k_is)
    (case k_ToOne_meant => k_is)
    (case a_ToOne_seeks => k_is)
    (case i_ToOne_seeks => k_is)
    (case l_ToOne_seeks => k_is)
    (case c_ToOne_seeks => k_is)
    (case k_ToOne_seeks => k_is)
    (case a_ToAll_meant => k_is)
    (case i_ToAll_meant => k_is)
    (case l_ToAll_meant => k_is)
    (case c_ToAll_meant => k_is)
    (case k_ToAll_meant => k_is)
    (case a_w_cell => k_is)
    (case l_w_cell => k_is)
    (case c_w_cell => k_is)
    (case k_w_cell => k_is)
    (case a_w_whole => k_is)
    (case l_w_whole => k_is)
    (case c_w_whole => k_is)
    (case k_w_whole => k_is)
    (case a_w_numbers => k_is)
    (case l_w_numbers => k_is)
    (case c_w_numbers => k_is)
    (case k_w_numbers => k_is)
    (case a_w_some => k_is)
    (case l_w_some => k_is)
    (case c_w_some => k_is)
    (case k_w_some => k_is)
    (case a_w_letter => k_is)
    (case l_w_letter => k_is)
    (case c_w_letter => k_is)
    (case k_w_letter => k_is)
    (case a_w_handed => k_is)
    (case l_w_handed => k_is)
    (case c_w_handed => k_is)
    (case k_w_handed => k_is)
    (case a_w_goes => k_is)
    (case l_w_goes => k_is)
    (case c_w_goes => k_is)
    (case k_w_goes => k_is)
    (case a_w_told => k_is)
    (case l_w_told => k_is)
    (case c_w_told => k_is)
    (case k_w_told => k_is)
    (case a_w_asked => k_is)
    (case l_w_asked => k_is)
    (case c_w_asked => k_is)
    (case k_w_asked => k_is)
    (case a_law => k_is)
    (case l_law => k_is)
    (case c_law => k_is)
    (case k_law => k_is)
    (case pg_Letter => k_is)
    (case hd_Letter => k_is)
    (case po_Letter => k_is)
    (case sa_Letter => k_is)
    (case mk_Letter => k_is)
    (case kc_Letter => k_is)
    (case nA_Letter_sender => k_is)
    (case nA_Letter_to => k_is)
    (case pg_ToOne => k_is)
    (case hd_ToOne => k_is)
    (case po_ToOne => k_is)
    (case sa_ToOne => k_is)
    (case mk_ToOne => k_is)
    (case kc_ToOne => k_is)
    (case nA_ToOne_sender => k_is)
    (case nA_ToOne_to => k_is)
    (case pg_ToAll => k_is)
    (case hd_ToAll => k_is)
    (case po_ToAll => k_is)
    (case sa_ToAll => k_is)
    (case mk_ToAll => k_is)
    (case kc_ToAll => k_is)
    (case nA_ToAll_sender => k_is)
    (case nA_ToAll_to => k_is)
    (case pg_Book => k_is)
    (case hd_Book => k_is)
    (case po_Book => k_is)
    (case sa_Book => k_is)
    (case mk_Book => k_is)
    (case kc_Book => k_is)
    (case nA_Book_kept => k_is)
    (case ih_ToAll_seeks => k_is)
    (case ii_ToAll => k_is)
    (case cg_Letteru_initu => k_is)
    (case cr_Letteru_initu => k_is)
    (case cm_Letteru_initu => k_is)
    (case z_len => k_is)
    (case z_isinstance => k_is)
    (case z_int => k_is)
    (case z_bool => k_is)
    (case z_list => k_is)
    (case z_tuple => k_is)
    (case z_range => k_is)
    (case z_min => k_is)
    (case z_sorted => k_is)
    (case z_zip => k_is)
#print axioms PySem.Challenge.cw_knotless_k26_targets_holds
