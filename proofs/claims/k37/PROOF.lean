import PyProof.Rows.All
import Wide.All
import OpenK.AllK
import Wide.FinOn
import Lean
import PyProof.EqAt
import PyProof.EqKinds
import PyProof.TupleCall
import PySem.Challenge.RW_knotless_k37_town_read
set_option Elab.async false
set_option linter.all false
set_option maxRecDepth 100000
/-! THE HAND LAYER, for ints, bools, texts, own classes, LISTS and tuples (index, slices, in, append, pop ..), calls, loops. Paste it whole ahead of your own text; what your proof does not reach may be deleted. -/
namespace L2
open PySem PySem.Spec PyProof.Rows

/-- a key: an int or a str -/
abbrev Key := Sum Int Str
def keyIs : Key → Value → Bool
  | .inl k, v => Value.isInt k v
  | .inr x, v => Value.isStrOf x v
def keyH (w : World) : Key → Int
  | .inl k => hashInt k
  | .inr x => hashStr w x
theorem keyIs_shape : ∀ {k : Key} {v : Value}, keyIs k v = true → (∃ i t, k = Sum.inl i ∧ v = Value.int i t) ∨ (∃ x t, k = Sum.inr x ∧ v = Value.str x t)
  | .inl i, v, h => by
    obtain ⟨t, e⟩ := Value.isInt_shape (k := i) (v := v) h
    exact .inl ⟨i, t, rfl, e⟩
  | .inr x, v, h => by
    obtain ⟨t, e⟩ := Value.isStrOf_shape (x := x) (v := v) h
    exact .inr ⟨x, t, rfl, e⟩
theorem key_ll (a b : Int) : decide ((Sum.inl a : Key) = Sum.inl b) = (a == b) := by
  by_cases e : a = b
  · subst e; simp
  · have h : ¬ (Sum.inl a : Key) = Sum.inl b := fun q => e (Sum.inl.inj q)
    rw [decide_eq_false h]
    exact (beq_eq_false_iff_ne.mpr e).symm
theorem key_rr (a b : Str) : decide ((Sum.inr a : Key) = Sum.inr b) = decide (a = b) := by
  by_cases e : a = b
  · subst e; simp
  · have h : ¬ (Sum.inr a : Key) = Sum.inr b := fun q => e (Sum.inr.inj q)
    rw [decide_eq_false h, decide_eq_false e]
theorem key_lr (a : Int) (b : Str) : decide ((Sum.inl a : Key) = Sum.inr b) = false := decide_eq_false (fun q => nomatch q)
theorem key_rl (a : Str) (b : Int) : decide ((Sum.inr a : Key) = Sum.inl b) = false := decide_eq_false (fun q => nomatch q)

def mixKind (prog : Program) (w : World) : PySem.KeyKind prog w Key where
  is := keyIs
  hash := keyH w
  inj := fun v a b ha hb => by
    rcases keyIs_shape ha with ⟨i, t, rfl, rfl⟩ | ⟨x, t, rfl, rfl⟩
    · rcases keyIs_shape hb with ⟨j, u, rfl, e⟩ | ⟨y, u, rfl, e⟩
      · injection e with e1 _; rw [e1]
      · exact nomatch e
    · rcases keyIs_shape hb with ⟨j, u, rfl, e⟩ | ⟨y, u, rfl, e⟩
      · exact nomatch e
      · injection e with e1 _; rw [e1]
  byValue := fun k v h => by
    rcases keyIs_shape h with ⟨i, t, rfl, rfl⟩ | ⟨x, t, rfl, rfl⟩ <;> rfl
  pyHash := fun hv h => by
    rcases keyIs_shape hv with ⟨i, t, rfl, rfl⟩ | ⟨x, t, rfl, rfl⟩
    · exact wpAny_pyHash_int h
    · exact wpAny_pyHash_str h
  eqBool := fun hu hv h => by
    rcases keyIs_shape hu with ⟨i, t, rfl, rfl⟩ | ⟨x, t, rfl, rfl⟩
    · rcases keyIs_shape hv with ⟨j, u, rfl, rfl⟩ | ⟨y, u, rfl, rfl⟩
      · rw [key_ll] at h; exact wpAny_eqBool_int h
      · rw [key_lr] at h; exact SeqAt.EqAt.int_str i t y u _ _ _ _ h
    · rcases keyIs_shape hv with ⟨j, u, rfl, rfl⟩ | ⟨y, u, rfl, rfl⟩
      · rw [key_rl] at h; exact SeqAt.EqAt.str_int x t j u _ _ _ _ h
      · rw [key_rr] at h; exact wpAny_eqBool_str h
  «strs» := fun k x t v h => by
    rcases keyIs_shape h with ⟨i, u, rfl, e⟩ | ⟨y, u, rfl, e⟩
    · exact nomatch e
    · injection e with e1 _
      subst e1
      cases v <;> rfl

end L2

namespace L2
open PySem PySem.Spec PyProof.Rows

/-- a value, without the heap -/
inductive V where
  | non | bl (b : Bool) | int (i : Int) | str (x : Str) | byt (b : Array UInt8) | flt (b : UInt64) | ref (a : Addr) | ty (n : String)
  deriving DecidableEq

def RelV : V → Value → Prop
  | .non, u => u = Value.none
  | .bl b, u => u = Value.bool b
  | .int i, u => ∃ t, u = Value.int i t
  | .str x, u => ∃ t, u = Value.str x t
  | .byt b, u => ∃ t, u = Value.bytes b t
  | .flt b, u => ∃ t, u = Value.float b t
  | .ref a, u => u = Value.ref a
  | .ty n, u => u = Value.type n

abbrev Vals : List V → List Value → Prop := Paired RelV
theorem Vals.length {xs : List V} {us : List Value} (r : Vals xs us) : xs.length = us.length := Paired.length r
theorem Vals.get : ∀ {xs : List V} {us : List Value} {i : Nat} {x : V}, Vals xs us → xs[i]? = some x → ∃ u, us[i]? = some u ∧ RelV x u
  | _, _, _, _, .nil, e => by simp at e
  | _, _, 0, _, .cons r _, e => by simp at e; subst e; exact ⟨_, rfl, r⟩
  | _, _, i + 1, x, .cons _ t, e => by
    obtain ⟨u, h1, h2⟩ := Vals.get (i := i) (x := x) t (by simpa using e)
    exact ⟨u, by simpa using h1, h2⟩
theorem Vals.append : ∀ {xs ys : List V} {us ws : List Value}, Vals xs us → Vals ys ws → Vals (xs ++ ys) (us ++ ws)
  | _, _, _, _, .nil, s => s
  | _, _, _, _, .cons r t, s => .cons r (Vals.append t s)
theorem Vals.take : ∀ {xs : List V} {us : List Value} (n : Nat), Vals xs us → Vals (xs.take n) (us.take n)
  | _, _, 0, _ => .nil
  | _, _, _ + 1, .nil => .nil
  | _, _, n + 1, .cons r t => .cons r (Vals.take n t)
theorem Vals.drop : ∀ {xs : List V} {us : List Value} (n : Nat), Vals xs us → Vals (xs.drop n) (us.drop n)
  | _, _, 0, r => r
  | _, _, _ + 1, .nil => .nil
  | _, _, n + 1, .cons _ t => Vals.drop n t
def RelO : Option V → Option Value → Prop
  | some v, some u => RelV v u
  | none, none => True
  | _, _ => False
def KV {κ : Type} : List (κ × V) → List (κ × Value) → Prop := Paired fun (p : κ × V) (q : κ × Value) => p.1 = q.1 ∧ RelV p.2 q.2

/-- a key of a dict (00_mix): an int or a text -/
def kV : Key → V
  | .inl i => .int i
  | .inr x => .str x

/-- what stands at a tracked address -/
inductive HO where
  /-- a list -/
  | lst (xs : List V)
  /-- a tuple (never changes) -/
  | tup (xs : List V)
  /-- a dict whose keys are ints and texts; one whose keys are tuples of ints and texts (the empty one is both) -/
  | dK (kvs : List (Key × V)) | dT (kvs : List (List Key × V))
  /-- a set of ints: its members, its size -/
  | set (S : Int → Bool) (n : Nat)
  /-- an instance of the class at C, its dict at dx, its attributes -/
  | ins (C dx : Addr) (fs : List (Str × V))
  /-- the dict of the instance at x -/
  | own (x : Addr)
  /-- the dict of an exception -/
  | xd (fs : List (Str × V))
  /-- a bound method, f of x -/
  | met (f x : Addr)
  /-- a range object lo, lo + 1, .. below hi -/
  | rng (lo hi : Int)
  /-- a thing that is known to the object (the script; a dict while a loop walks it): read, never written while it is so -/
  | frz (o : Obj) (u : HO)
  /-- a code object's table -/
  | tbl (ps : Array Value)
  /-- any other thing, by what is true of its one object (a def of one's own: SetO a S n := HO.ext fun h => ..) -/
  | ext (φ : Heap → Prop)

abbrev Hp := Addr → Option HO
def upd (H : Hp) (a : Addr) (o : HO) : Hp := fun b => if b = a then some o else H b
theorem upd_same {H : Hp} {a : Addr} {o : HO} : upd H a o a = some o := by unfold upd; rw [if_pos rfl]
theorem upd_ne {H : Hp} {a b : Addr} {o : HO} (h : b ≠ a) : upd H a o b = H b := by unfold upd; rw [if_neg h]
theorem ne_of_none {H : Hp} {a b : Addr} {o : HO} (h : H a = some o) (h' : H b = none) : a ≠ b := by
  intro e; subst e; rw [h] at h'; cases h'

section
variable (P : Program) (w : World)
def ObjOk (H : Hp) (h : Heap) (a : Addr) : HO → Prop
  | .lst xs => xs.length ≤ sizeLine ∧ ∃ (its : List Value) (n : Nat), Vals xs its ∧ h.get? a = some { cls := .type "list", data := .seq its.toArray n }
  | .tup xs => xs.length ≤ sizeLine ∧ ∃ its : List Value, Vals xs its ∧ IsTup h a its.toArray
  | .dK kvs => kvs.length ≤ sizeLine ∧ (a == sysModules) = false ∧ ∃ vs, KV kvs vs ∧ h.DictOf (mixKind P w) a vs
  | .dT kvs => kvs.length ≤ sizeLine ∧ (a == sysModules) = false ∧ ∃ xs : List (List Key × Addr × Value),
      Paired (fun (p : List Key × V) (q : List Key × Addr × Value) => p.1 = q.1 ∧ H q.2.1 = some (.tup (p.1.map kV)) ∧ RelV p.2 q.2.2) kvs xs ∧
      ∃ o es ep, h.get? a = some o ∧ o.ExactDict ∧ o.data = .dict es ep ∧ es.toList = xs.map (entryOfKey (tupleKind (mixKind P w))) ∧ (xs.map (·.1)).Nodup
  | .set S n => h.SetOf (intKind P w) a S n
  | .ins C dx fs => H dx = some (.own a) ∧ fs.length ≤ 1000 ∧ dx ≠ a ∧ h.get? a = some (PySem.W.instObj C dx) ∧
      ∃ mA, h.Ns1 dx mA ∧ (∀ f, RelO (fs.lookup f) (mA f)) ∧ PySem.Within mA (fs.map (·.1))
  | .own _ => ∃ o, h.get? a = some o
  | .xd fs => ∃ mA, h.Ns1 a mA ∧ ∀ f, RelO (fs.lookup f) (mA f)
  | .rng lo hi => ∃ t u v, h.get? a = some { cls := .type "range", data := .fields #[.int lo t, .int hi u, .int 1 v] }
  | .frz o u => h.get? a = some o ∧ ObjOk H h a u
  | .tbl ps => h.get? a = some { cls := .none, data := .fields ps }
  | .met f x => h.get? a = some (PySem.W.methodObj (.ref f) (.ref x))
  | .ext φ => φ h ∧ (∃ o, h.get? a = some o) ∧ ∀ h1 h2 : Heap, φ h1 → (∀ o, h1.get? a = some o → h2.get? a = some o) → φ h2
/-- the abstract heap is held -/
def HOk (H : Hp) (h : Heap) : Prop := ∀ a o, H a = some o → ObjOk P w H h a o
end

section
variable {P : Program} {w : World} {H H' : Hp} {h h' : Heap} {a : Addr} {o : HO}
theorem ObjOk.lt (x : ObjOk P w H h a o) : a < h.objs.size := by
  cases o with
  | lst xs => obtain ⟨_, _, _, _, e⟩ := x; exact Heap.lt_size e
  | tup xs => obtain ⟨_, _, _, p⟩ := x; exact p.lt
  | dK kvs => obtain ⟨_, _, _, _, o, _, _, e, _⟩ := x; exact Heap.lt_size e
  | dT kvs => obtain ⟨_, _, _, _, o, _, _, e, _⟩ := x; exact Heap.lt_size e
  | set S n => obtain ⟨o, _, _, _, e, _⟩ := x; exact Heap.lt_size e
  | ins C dx fs => obtain ⟨_, _, _, e, _⟩ := x; exact Heap.lt_size e
  | own y => obtain ⟨_, e⟩ := x; exact Heap.lt_size e
  | xd fs => obtain ⟨_, ⟨_, _, _, e, _⟩, _⟩ := x; exact Heap.lt_size e
  | rng lo hi => obtain ⟨_, _, _, e⟩ := x; exact Heap.lt_size e
  | frz ob u => obtain ⟨e, _⟩ := x; exact Heap.lt_size e
  | tbl ps => exact Heap.lt_size (show h.get? a = some _ from x)
  | met f y => exact Heap.lt_size (show h.get? a = some _ from x)
  | ext φ => obtain ⟨_, ⟨_, e⟩, _⟩ := x; exact Heap.lt_size e
theorem Paired.mapP {α β : Type} {F G : α → β → Prop} : ∀ {l₁ : List α} {l₂ : List β}, Paired F l₁ l₂ → (∀ a b, F a b → G a b) → Paired G l₁ l₂
  | _, _, .nil, _ => .nil
  | _, _, .cons r t, f => .cons (f _ _ r) (Paired.mapP t f)
/-- what an object's description leans on: its own object, its own dict, the tuples -/
theorem ObjOk.stay (x : ObjOk P w H h a o) (k : ∀ b u, (b = a ∨ H b = some (.own a)) → h.get? b = some u → h'.get? b = some u)
    (ho : ∀ b, H b = some (.own a) → H' b = some (.own a)) (ht : ∀ b xs, H b = some (.tup xs) → H' b = some (.tup xs)) : ObjOk P w H' h' a o := by
  induction o with
  | lst xs => obtain ⟨z, its, n, r, e⟩ := x; exact ⟨z, its, n, r, k _ _ (.inl rfl) e⟩
  | tup xs => obtain ⟨z, its, r, ob, e, c⟩ := x; exact ⟨z, its, r, ob, k _ _ (.inl rfl) e, c⟩
  | dK kvs => obtain ⟨z, y, vs, r, ob, es, ep, e, c⟩ := x; exact ⟨z, y, vs, r, ob, es, ep, k _ _ (.inl rfl) e, c⟩
  | dT kvs =>
    obtain ⟨z, y, xs, r, ob, es, ep, e, c⟩ := x
    exact ⟨z, y, xs, Paired.mapP r fun p q z => ⟨z.1, ht _ _ z.2.1, z.2.2⟩, ob, es, ep, k _ _ (.inl rfl) e, c⟩
  | set S n => obtain ⟨ob, es, ep, t, e, c⟩ := x; exact ⟨ob, es, ep, t, k _ _ (.inl rfl) e, c⟩
  | ins C dx fs =>
    obtain ⟨d, z, ne, e, mA, ⟨od, es, ep, e2, c⟩, r⟩ := x
    exact ⟨ho _ d, z, ne, k _ _ (.inl rfl) e, mA, ⟨od, es, ep, k _ _ (.inr d) e2, c⟩, r⟩
  | own y => obtain ⟨ob, e⟩ := x; exact ⟨ob, k _ _ (.inl rfl) e⟩
  | xd fs => obtain ⟨mA, ⟨od, es, ep, e, c⟩, r⟩ := x; exact ⟨mA, ⟨od, es, ep, k _ _ (.inl rfl) e, c⟩, r⟩
  | rng lo hi => obtain ⟨t, u, v, e⟩ := x; exact ⟨t, u, v, k _ _ (.inl rfl) e⟩
  | frz ob u ih => obtain ⟨e, q⟩ := x; exact ⟨k _ _ (.inl rfl) e, ih q⟩
  | tbl ps =>
    have e : h.get? a = some { cls := .none, data := .fields ps } := x
    show h'.get? a = some { cls := .none, data := .fields ps }
    exact k a _ (.inl rfl) e
  | met f y =>
    have e : h.get? a = some (PySem.W.methodObj (.ref f) (.ref y)) := x
    show h'.get? a = some (PySem.W.methodObj (.ref f) (.ref y))
    exact k a _ (.inl rfl) e
  | ext φ => obtain ⟨p, ⟨o, e⟩, st⟩ := x; exact ⟨st _ _ p fun o q => k _ _ (.inl rfl) q, ⟨o, k _ _ (.inl rfl) e⟩, st⟩
theorem HOk.lt (x : HOk P w H h) (e : H a = some o) : a < h.objs.size := (x a o e).lt
theorem HOk.fresh (x : HOk P w H h) (e : h.objs.size ≤ a) : H a = none := by
  cases q : H a with
  | none => rfl
  | some u => exact absurd (Nat.lt_of_lt_of_le (x.lt q) e) (Nat.lt_irrefl _)
/-- every object of the heap is kept -/
theorem HOk.kept (x : HOk P w H h) (k : ∀ b u, h.get? b = some u → h'.get? b = some u) : HOk P w H h' := fun a o e =>
  (x a o e).stay (fun b u _ q => k b u q) (fun _ q => q) fun _ _ q => q
/-- a new object is laid and tracked -/
theorem HOk.laid (x : HOk P w H h) (k : ∀ b u, h.get? b = some u → h'.get? b = some u) (hp : h.objs.size ≤ a) (new : ObjOk P w (upd H a o) h' a o) : HOk P w (upd H a o) h' := fun b u e => by
  have hn := x.fresh hp
  by_cases hb : b = a
  · subst hb; rw [upd_same] at e; cases e; exact new
  · rw [upd_ne hb] at e
    exact (x b u e).stay (fun c v _ q => k c v q) (fun c q => by rw [upd_ne (ne_of_none q hn)]; exact q) fun c xs q => by rw [upd_ne (ne_of_none q hn)]; exact q
end

/-- what may be read as u: it is u, or a known u -/
def Rd (H : Hp) (a : Addr) (u : HO) : Prop := H a = some u ∨ ∃ o, H a = some (.frz o u)
theorem Rd.ok {P : Program} {w : World} {H : Hp} {h : Heap} {a : Addr} {u : HO} (r : Rd H a u) (x : HOk P w H h) : ObjOk P w H h a u := by
  rcases r with r | ⟨o, r⟩
  · exact x a u r
  · obtain ⟨_, q⟩ := x a _ r
    exact q
/-- what may be written -/
def Mut : Option HO → Prop
  | some (.lst _) => True
  | some (.dK _) => True
  | some (.dT _) => True
  | some (.set _ _) => True
  | some (.ins _ _ _) => True
  | some (.ext _) => True
  | _ => False
section
variable {P : Program} {w : World} {H : Hp} {h h' : Heap} {x e : Addr} {o' : HO}
/-- the object at e is changed: x itself, or the dict of the instance x -/
theorem HOk.write (ok : HOk P w H h) (mu : Mut (H x)) (he : e = x ∨ H e = some (.own x)) (k : ∀ b u, b ≠ e → h.get? b = some u → h'.get? b = some u) (heo : ∃ u, h'.get? e = some u)
    (new : ObjOk P w (upd H x o') h' x o') : HOk P w (upd H x o') h' := fun b u q => by
  have nown : ∀ c y, H c = some (.own y) → c ≠ x := fun c y r z => by subst z; rw [r] at mu; exact mu
  have ntup : ∀ c xs, H c = some (.tup xs) → c ≠ x := fun c xs r z => by subst z; rw [r] at mu; exact mu
  by_cases hb : b = x
  · subst hb; rw [upd_same] at q; cases q; exact new
  · rw [upd_ne hb] at q
    by_cases hbe : b = e
    · have q' : H b = some (.own x) := by
        rcases he with z | z
        · exact absurd (hbe.trans z) hb
        · rw [hbe]; exact z
      rw [q] at q'; cases q'
      obtain ⟨v, hv⟩ := heo
      exact ⟨v, by rw [hbe]; exact hv⟩
    · refine (ok b u q).stay (fun c v hc r => k c v ?_ r) (fun c r => by rw [upd_ne (nown c b r)]; exact r) fun c xs r => by rw [upd_ne (ntup c xs r)]; exact r
      rcases hc with rfl | hc
      · exact hbe
      · rintro rfl
        rcases he with z | z
        · exact nown c b hc z
        · rw [hc] at z; cases z; exact hb rfl
end

/-! ### kept unless tracked; of the frames at fs (the callers') the slots may change (an exception that passes writes there); of the records at ex (iterators) nothing is said -/
structure Un (fs ex : List Addr) (H H' : Hp) (h h' : Heap) : Prop where
  keep : ∀ b o, h.get? b = some o → H b = none → b ∉ fs → b ∉ ex → h'.get? b = some o
  slot : ∀ b o, h.get? b = some o → H b = none → b ∈ fs → b ∉ ex → ∃ sl, h'.get? b = some { o with slots := sl }
  free : ∀ b o, h.get? b = some o → H b = none → b ∉ ex → H' b = none
  there : ∀ b o, h.get? b = some o → b ∉ ex → ∃ o', h'.get? b = some o'
  tups : ∀ b xs, H b = some (.tup xs) → H' b = some (.tup xs)
  frzs : ∀ b o u, H b = some (.frz o u) → H' b = some (.frz o u)
  tbls : ∀ b ps, H b = some (.tbl ps) → ∃ more, H' b = some (.tbl (ps ++ more))
section
variable {fs fs' ex ex' : List Addr} {H H1 H2 : Hp} {h h1 h2 h' : Heap} {a x e : Addr} {o : HO}
theorem Un.any (u : Un fs ex H H1 h h1) {b : Addr} {ob : Obj} (q : h.get? b = some ob) (n : H b = none) (hx : b ∉ ex) : ∃ sl, h1.get? b = some { ob with slots := sl } := by
  by_cases hb : b ∈ fs
  · exact u.slot b ob q n hb hx
  · exact ⟨ob.slots, u.keep b ob q n hb hx⟩
theorem Un.trans (a : Un fs ex H H1 h h1) (b : Un fs ex H1 H2 h1 h2) : Un fs ex H H2 h h2 where
  keep := fun c ob q n hc hx => b.keep c ob (a.keep c ob q n hc hx) (a.free c ob q n hx) hc hx
  slot := fun c ob q n hc hx => by
    obtain ⟨sl, e1⟩ := a.slot c ob q n hc hx
    obtain ⟨sl', e2⟩ := b.slot c _ e1 (a.free c ob q n hx) hc hx
    exact ⟨sl', e2⟩
  free := fun c ob q n hx => by
    obtain ⟨o', e1⟩ := a.there c ob q hx
    exact b.free c o' e1 (a.free c ob q n hx) hx
  there := fun c ob q hx => by
    obtain ⟨o', e1⟩ := a.there c ob q hx
    exact b.there c o' e1 hx
  tups := fun c xs q => b.tups c xs (a.tups c xs q)
  frzs := fun c ob xs q => b.frzs c ob xs (a.frzs c ob xs q)
  tbls := fun c ps q => by
    obtain ⟨m1, e1⟩ := a.tbls c ps q
    obtain ⟨m2, e2⟩ := b.tbls c _ e1
    exact ⟨m1 ++ m2, by rw [e2, Array.append_assoc]⟩
theorem Un.kept (k : ∀ b u, h.get? b = some u → h'.get? b = some u) : Un fs ex H H h h' :=
  ⟨fun b ob q _ _ _ => k b ob q, fun b ob q _ _ _ => ⟨ob.slots, k b ob q⟩, fun _ _ _ n _ => n, fun b ob q _ => ⟨ob, k b ob q⟩, fun _ _ q => q, fun _ _ _ q => q, fun _ ps q => ⟨#[], by rw [q]; simp⟩⟩
theorem Un.refl : Un fs ex H H h h := Un.kept fun _ _ q => q
theorem Un.laid (k : ∀ b u, h.get? b = some u → h'.get? b = some u) (hp : h.objs.size ≤ a) (hn : H a = none) : Un fs ex H (upd H a o) h h' where
  keep := fun b u q _ _ _ => k b u q
  slot := fun b u q _ _ _ => ⟨u.slots, k b u q⟩
  free := fun b u q n _ => by rw [upd_ne (Nat.ne_of_lt (Nat.lt_of_lt_of_le (Heap.lt_size q) hp))]; exact n
  there := fun b u q _ => ⟨u, k b u q⟩
  tups := fun b xs q => by rw [upd_ne (ne_of_none q hn)]; exact q
  frzs := fun b u xs q => by rw [upd_ne (ne_of_none q hn)]; exact q
  tbls := fun b ps q => ⟨#[], by rw [upd_ne (ne_of_none q hn), q]; simp⟩
theorem Un.write (mu : Mut (H x)) (he : e = x ∨ H e = some (.own x)) (k : ∀ b u, b ≠ e → h.get? b = some u → h'.get? b = some u) (heo : ∃ u, h'.get? e = some u) : Un fs ex H (upd H x o) h h' := by
  have hx : ∀ b, H b = none → b ≠ x := fun b n z => by subst z; rw [n] at mu; exact mu
  have hb : ∀ b, H b = none → b ≠ e := fun b n z => by
    subst z
    rcases he with r | r
    · exact hx b n r
    · rw [n] at r; cases r
  have hm : ∀ b u, H b = some u → ¬ Mut (some u) → b ≠ x := fun b u q nm z => by subst z; rw [q] at mu; exact nm mu
  refine ⟨fun b u q n _ _ => k b u (hb b n) q, fun b u q n _ _ => ⟨u.slots, k b u (hb b n) q⟩, fun b u q n _ => by rw [upd_ne (hx b n)]; exact n, fun b u q _ => ?_,
    fun b xs q => by rw [upd_ne (hm b _ q fun z => z)]; exact q, fun b u xs q => by rw [upd_ne (hm b _ q fun z => z)]; exact q, fun b ps q => ⟨#[], by rw [upd_ne (hm b _ q fun z => z), q]; simp⟩⟩
  by_cases hbe : b = e
  · subst hbe; exact heo
  · exact ⟨u, k b u hbe q⟩
end

/-! ### the heap without what is tracked -/
def trk (h : Heap) (H : Hp) : List Addr := (List.range h.objs.size).filter fun a => (H a).isSome
def hidT (h : Heap) (H : Hp) : Heap := PySem.W.hideAll h (trk h H)
theorem hidT_size (h : Heap) (H : Hp) : (hidT h H).objs.size = h.objs.size := PySem.W.hideAll_size _ _
theorem hidT_get {h : Heap} {H : Hp} {b : Addr} {o : Obj} (e : h.get? b = some o) (n : H b = none) : (hidT h H).get? b = some o :=
  PySem.W.hideAll_get _ e fun hm => by
    have q : (H b).isSome = true := (List.mem_filter.mp hm).2
    rw [n] at q; simp at q
theorem of_hidT {h : Heap} {H : Hp} {b : Addr} {o : Obj} (e : (hidT h H).get? b = some o) : h.get? b = some o ∧ H b = none := by
  have e' : h.get? b = some o := PySem.W.of_hideAll (trk h H) e
  refine ⟨e', ?_⟩
  cases q : H b with
  | none => rfl
  | some x =>
    have hm : b ∈ trk h H := List.mem_filter.mpr ⟨List.mem_range.mpr (Heap.lt_size e'), by simp [q]⟩
    have z : (hidT h H).get? b = none := PySem.W.hideAll_none (trk h H) hm
    rw [z] at e; cases e

/-! ### OpenK's ledger, filled with every new object but one -/
def allNews (g h : Heap) (L : Addr) : List (Addr × Obj) := (List.range h.objs.size).filterMap fun a => if a = L ∨ (g.get? a).isSome = true then none else (h.get? a).map fun o => (a, o)
def rest (g h : Heap) (L d : Addr) : List (Addr × Obj) := (allNews g h L).filter fun p => decide (p.1 ≠ d)
end L2

namespace L2
open PySem PySem.Spec PyProof.Rows

/-- the module's facts, over the base: the heap at the law's entry without what is tracked there -/
structure Mod (K : PySem.W.Frag) (mg : Str → Option Value) (base : Heap) : Prop where
  kin : K.In base
  glob : base.Ns mainGlobals mg
  blt : ∃ mb, base.Ns builtinsNs mb ∧ ∀ x : Str, x ≠ "__name__" → mb x = bootBuiltins x
  nolimit : base.NoLimit

/-- the context: a def's body (or a comprehension's block) running. base: fixed through the whole law; s₀, H₀: the entry; outer: the frames whose slots others may change (a def's callers); stack: all frames that run;
   ex: iterators that were made ahead of the entry and are walked here (a comprehension's); fn: the names whose cells were made at the entry (a def: all; a comprehension's block: its own); calm: not within an except suite; pn: pins that every state bears; xe: what is wanted of an exception that leaves the code -/
structure Cx where
  prog : Program
  w : World
  K : PySem.W.Frag
  mg : Str → Option Value
  base : Heap
  A : Around
  N : List Str
  s₀ : Shared
  H₀ : Hp
  env : Env
  outer : List Env
  stack : List Env
  ex : List Addr
  fn : Str → Bool
  calm : Bool
  pn : List (Addr × Obj)
  xe : Value → Shared → Prop
/-- the callers' frames -/
def frs (l : List Env) : List Addr := l.filterMap (·.frame)
abbrev Cx.fs (X : Cx) : List Addr := frs X.outer

def Vis (sc : Scope) (x : Str) : Prop := sc.names.lookup x = some .local ∨ sc.names.lookup x = some .cell ∨ sc.names.lookup x = some .free
def Loc (sc : Scope) (x : Str) : Prop := sc.names.lookup x = some .local ∨ sc.names.lookup x = some .cell
def Look (env : Env) (h : Heap) (m : Str → Option Value) (x : Str) (u : Value) : Prop :=
  (env.kindOf x = some .local ∧ m x = some u) ∨ ((env.kindOf x = some .cell ∨ env.kindOf x = some .free) ∧ ∃ c, env.cells.lookup x = some c ∧ h.IsCell c (some u))

structure Cx.Ok (X : Cx) : Prop where
  mod : Mod X.K X.mg X.base
  kind : X.env.scope.kind = .function
  glob : X.env.globals = mainGlobals
  blt : X.env.builtins = builtinsNs
  above : X.s₀.heap.objs.size ≤ X.env.locals
  inj : ∀ x y c, X.env.cells.lookup x = some c → X.env.cells.lookup y = some c → x = y
  has : ∀ x, (X.env.kindOf x = some .cell ∨ X.env.kindOf x = some .free) → ∃ c, X.env.cells.lookup x = some c
  cab : ∀ x c, X.fn x = true → X.env.cells.lookup x = some c → X.s₀.heap.objs.size ≤ c
  hd : X.calm = true → X.A.handled = none
  frames : X.A.frames = some X.stack
  stk : X.stack = X.outer ∨ (X.stack = X.env :: X.outer ∧ X.env.frame = some X.env.locals)
  exf : ∀ b ∈ X.ex, b ≠ X.env.locals ∧ ∀ x c, X.env.cells.lookup x = some c → c ≠ b
  bs : ∀ b o, X.base.get? b = some o → X.s₀.heap.get? b = some o ∧ X.H₀ b = none
  bsz : X.base.objs.size ≤ X.s₀.heap.objs.size
  noex : ∀ b o, X.base.get? b = some o → b ∉ X.ex
  exfs : ∀ b ∈ X.ex, b ∉ X.fs
  funs : X.s₀.heap.FunFrames X.base X.outer
  frf : ∀ b ∈ X.fs, X.H₀ b = none

structure Inv (X : Cx) (pins : List (Addr × Obj)) (σ : List (Option V)) (H : Hp) (s : Shared) : Prop where
  ok : X.Ok
  os : s.os = X.s₀.os
  bare : AllBare s.gens
  base : Un X.fs X.ex X.H₀ H X.s₀.heap s.heap
  loc : ∃ m, s.heap.Ns X.env.locals m ∧ ∀ (i : Nat) (x : Str) (v : V), X.N[i]? = some x → σ[i]? = some (some v) → Vis X.env.scope x → ∃ u, RelV v u ∧ Look X.env s.heap m x u
  cell : ∀ x c, X.env.cells.lookup x = some c → ∃ v, s.heap.IsCell c v
  free : H X.env.locals = none
  freeC : ∀ x c, X.env.cells.lookup x = some c → H c = none
  pin : ∀ p ∈ X.pn ++ pins, s.heap.get? p.1 = some p.2 ∧ H p.1 = none ∧ p.1 ≠ X.env.locals ∧ p.1 ∉ X.fs ∧ ∀ v, p.2.data ≠ .cell v
  hok : HOk X.prog X.w H s.heap
  len : σ.length = X.N.length

section
variable {X : Cx} {pins : List (Addr × Obj)} {σ : List (Option V)} {H H' : Hp} {s : Shared} {h' : Heap}

theorem Cx.Ok.nofr (ok : X.Ok) {b : Addr} {o : Obj} (e : X.base.get? b = some o) : b ∉ X.fs := fun hb => by
  have := (ok.funs.mem hb).1
  rw [e] at this; cases this
theorem Inv.bs (I : Inv X pins σ H s) : ∀ b o, X.base.get? b = some o → s.heap.get? b = some o ∧ H b = none := fun b o e =>
  ⟨I.base.keep b o (I.ok.bs b o e).1 (I.ok.bs b o e).2 (I.ok.nofr e) (I.ok.noex b o e), I.base.free b o (I.ok.bs b o e).1 (I.ok.bs b o e).2 (I.ok.noex b o e)⟩
theorem Inv.bk (I : Inv X pins σ H s) : ∀ b o, X.base.get? b = some o → s.heap.get? b = some o := fun b o e => (I.bs b o e).1
theorem Inv.mod (I : Inv X pins σ H s) : Mod X.K X.mg X.base := I.ok.mod
theorem Inv.kIn (I : Inv X pins σ H s) : X.K.In s.heap := I.ok.mod.kin.keeps I.bk
theorem Inv.lt (I : Inv X pins σ H s) : X.env.locals < s.heap.objs.size := let ⟨_, hn, _⟩ := I.loc; hn.lt
theorem Inv.sz (I : Inv X pins σ H s) : X.s₀.heap.objs.size ≤ s.heap.objs.size := Nat.le_trans I.ok.above (Nat.le_of_lt I.lt)
theorem Inv.nofs (I : Inv X pins σ H s) {a : Addr} (h : s.heap.objs.size ≤ a) : a ∉ X.fs := fun hb => by
  obtain ⟨_, o, ho, _⟩ := I.ok.funs.mem hb
  exact absurd (Nat.lt_of_lt_of_le (Heap.lt_size ho) (Nat.le_trans I.sz h)) (Nat.lt_irrefl _)
theorem Inv.cne (I : Inv X pins σ H s) : ∀ x c, X.env.cells.lookup x = some c → c ≠ X.env.locals := fun x c e z => by
  obtain ⟨v, o, ho, hd⟩ := I.cell x c e
  obtain ⟨m, ⟨o', es, ep, ho', hd', _⟩, _⟩ := I.loc
  rw [z, ho'] at ho; cases ho; rw [hd'] at hd; cases hd
theorem Inv.funs (I : Inv X pins σ H s) : s.heap.FunFrames X.base X.outer := by
  have all : ∀ (l : List Env), (∀ b ∈ frs l, b ∈ X.fs) → X.s₀.heap.FunFrames X.base l → s.heap.FunFrames X.base l := by
    intro l
    induction l with
    | nil => intro _ _; trivial
    | cons env r ih =>
      intro hs hl
      obtain ⟨hk, ⟨L, o, hf, hn, ho, hd⟩, hr⟩ := hl
      have hL : L ∈ X.fs := hs L (by unfold frs; rw [List.filterMap_cons, hf]; exact List.mem_cons_self)
      obtain ⟨sl, e⟩ := I.base.slot L o ho (I.ok.frf L hL) hL fun z => I.ok.exfs L z hL
      exact ⟨hk, ⟨L, _, hf, hn, e, hd⟩, ih (fun b hb => hs b (by unfold frs; rw [List.filterMap_cons, hf]; exact List.mem_cons_of_mem _ hb)) hr⟩
  exact all X.outer (fun _ hb => hb) I.ok.funs

/-- the frames that run, for a call -/
theorem Inv.stack (I : Inv X pins σ H s) : s.heap.FunFrames X.base X.stack := by
  rcases I.ok.stk with e | ⟨e, hf⟩
  · rw [e]; exact I.funs
  · rw [e]
    obtain ⟨m, hn, _⟩ := I.loc
    refine .cons (by rw [I.ok.kind]; decide) hf hn ?_ I.funs
    exact Heap.get?_none_of_le (Nat.le_trans I.ok.bsz I.ok.above)
theorem Inv.stkSub (I : Inv X pins σ H s) : ∀ b ∈ frs X.stack, b ∈ X.env.locals :: X.fs := fun b hb => by
  rcases I.ok.stk with e | ⟨e, hf⟩
  · rw [e] at hb; exact List.mem_cons_of_mem _ hb
  · rw [e] at hb
    unfold frs at hb
    rw [List.filterMap_cons, hf] at hb
    exact hb
theorem Inv.stkFree (I : Inv X pins σ H s) : ∀ b ∈ frs X.stack, H b = none := fun b hb => by
  rcases List.mem_cons.mp (I.stkSub b hb) with e | hb
  · rw [e]; exact I.free
  · obtain ⟨_, o, ho, _⟩ := I.ok.funs.mem hb
    exact I.base.free b o ho (I.ok.frf b hb) fun z => I.ok.exfs b z hb

/-- THE STEP: the untracked objects but the frame and the records at ch are kept (the callers' frames up to slots), the frame's map is kept, the new abstract heap is held -/
theorem Inv.step {g' : Array GenState} {t' : Nat} {d' : Drawn} {ch : List Addr} (I : Inv X pins σ H s)
    (hch : ∀ b ∈ ch, (b ∈ X.ex ∨ X.s₀.heap.objs.size ≤ b) ∧ b ≠ X.env.locals ∧ (∀ x c, X.env.cells.lookup x = some c → c ≠ b) ∧ ∀ p ∈ X.pn ++ pins, p.1 ≠ b)
    (keep : ∀ b o, b ≠ X.env.locals → b ∉ X.fs → b ∉ ch → s.heap.get? b = some o → H b = none → h'.get? b = some o)
    (slot : ∀ b o, b ≠ X.env.locals → b ∈ X.fs → b ∉ ch → s.heap.get? b = some o → H b = none → ∃ sl, h'.get? b = some { o with slots := sl }) (free : ∀ b o, b ∉ ch → s.heap.get? b = some o → H b = none → H' b = none)
    (there : ∀ b o, b ∉ ch → s.heap.get? b = some o → ∃ o', h'.get? b = some o')
    (tups : ∀ b xs, H b = some (.tup xs) → H' b = some (.tup xs)) (frzs : ∀ b o u, H b = some (.frz o u) → H' b = some (.frz o u)) (tbls : ∀ b ps, H b = some (.tbl ps) → ∃ more, H' b = some (.tbl (ps ++ more)))
    (ns : ∀ m, s.heap.Ns X.env.locals m → h'.Ns X.env.locals m) (hok : HOk X.prog X.w H' h') (hg : AllBare g') :
    Inv X pins σ H' { s with heap := h', gens := g', drawn := d', toks := t' } := by
  have neL : ∀ b o, X.s₀.heap.get? b = some o → b ≠ X.env.locals := fun b o e => Nat.ne_of_lt (Nat.lt_of_lt_of_le (Heap.lt_size e) I.ok.above)
  have neC : ∀ b o, X.s₀.heap.get? b = some o → b ∉ X.ex → b ∉ ch := fun b o e hx hb => by
    rcases (hch b hb).1 with z | z
    · exact hx z
    · exact absurd (Nat.lt_of_lt_of_le (Heap.lt_size e) z) (Nat.lt_irrefl _)
  have cellK : ∀ x c, X.env.cells.lookup x = some c → ∀ v, s.heap.IsCell c v → h'.IsCell c v := fun x c e v ⟨o, ho, hd⟩ => by
    have nch : c ∉ ch := fun z => (hch c z).2.2.1 x c e rfl
    by_cases hc : c ∈ X.fs
    · obtain ⟨sl, q⟩ := slot c o (I.cne x c e) hc nch ho (I.freeC x c e)
      exact ⟨_, q, hd⟩
    · exact ⟨o, keep c o (I.cne x c e) hc nch ho (I.freeC x c e), hd⟩
  refine ⟨I.ok, I.os, hg, ⟨fun b o e n hb hx => ?_, fun b o e n hb hx => ?_, fun b o e n hx => ?_, fun b o e hx => ?_, fun b xs e => tups b xs (I.base.tups b xs e), fun b o xs e => frzs b o xs (I.base.frzs b o xs e), fun b ps e => ?_⟩, ?_, fun x c e => ?_, ?_, fun x c e => ?_, fun p hp => ?_, hok, I.len⟩
  · exact keep b o (neL b o e) hb (neC b o e hx) (I.base.keep b o e n hb hx) (I.base.free b o e n hx)
  · obtain ⟨sl, e1⟩ := I.base.slot b o e n hb hx
    obtain ⟨sl', e2⟩ := slot b _ (neL b o e) hb (neC b o e hx) e1 (I.base.free b o e n hx)
    exact ⟨sl', e2⟩
  · obtain ⟨o', e1⟩ := I.base.there b o e hx
    exact free b o' (neC b o e hx) e1 (I.base.free b o e n hx)
  · obtain ⟨o', e1⟩ := I.base.there b o e hx
    exact there b o' (neC b o e hx) e1
  · obtain ⟨m1, e1⟩ := I.base.tbls b ps e
    obtain ⟨m2, e2⟩ := tbls b _ e1
    exact ⟨m1 ++ m2, by rw [e2, Array.append_assoc]⟩
  · obtain ⟨m, hn, hl⟩ := I.loc
    refine ⟨m, ns m hn, fun i x v e1 e2 e3 => ?_⟩
    obtain ⟨u, r, l⟩ := hl i x v e1 e2 e3
    refine ⟨u, r, ?_⟩
    rcases l with l | ⟨k, c, e, z⟩
    · exact .inl l
    · exact .inr ⟨k, c, e, cellK x c e _ z⟩
  · obtain ⟨v, z⟩ := I.cell x c e
    exact ⟨v, cellK x c e v z⟩
  · obtain ⟨m, ⟨o, _, _, ho, _⟩, _⟩ := I.loc
    exact free _ o (fun z => (hch _ z).2.1 rfl) ho I.free
  · obtain ⟨v, o, ho, hd⟩ := I.cell x c e
    exact free c o (fun z => (hch c z).2.2.1 x c e rfl) ho (I.freeC x c e)
  · obtain ⟨e, n, ne, nf, d⟩ := I.pin p hp
    have nch : p.1 ∉ ch := fun z => (hch p.1 z).2.2.2 p hp rfl
    exact ⟨keep p.1 p.2 ne nf nch e n, free p.1 p.2 nch e n, ne, nf, d⟩
/-- .. where the frame's own object is kept too -/
theorem Inv.un {t' : Nat} (I : Inv X pins σ H s) (u : Un X.fs [] H H' s.heap h') (hok : HOk X.prog X.w H' h') : Inv X pins σ H' { s with heap := h', toks := t' } := by
  obtain ⟨m, ⟨o, es, ep, ho, r⟩, _⟩ := id I.loc
  obtain ⟨sl, hL⟩ := u.any ho I.free (by simp)
  exact I.step (g' := s.gens) (d' := s.drawn) (ch := []) (fun _ z => nomatch z) (fun b o _ hb _ e n => u.keep b o e n hb (by simp)) (fun b o _ hb _ e n => u.slot b o e n hb (by simp)) (fun b o _ e n => u.free b o e n (by simp)) (fun b o _ e => u.there b o e (by simp)) u.tups u.frzs u.tbls (fun m' hm => by
    obtain ⟨o', es', ep', ho', r'⟩ := hm
    rw [ho] at ho'; cases ho'
    exact ⟨_, es', ep', hL, r'⟩) hok I.bare
/-- behind a call (or a comprehension's block): the slots of this frame may have changed too, the records at ch may have turned -/
theorem Inv.call {g' : Array GenState} {t' : Nat} {d' : Drawn} {ch : List Addr} (I : Inv X pins σ H s) (u : Un (frs X.stack) ch H H' s.heap h') (hok : HOk X.prog X.w H' h') (hg : AllBare g')
    (hch : ∀ b ∈ ch, (b ∈ X.ex ∨ X.s₀.heap.objs.size ≤ b) ∧ b ≠ X.env.locals ∧ (∀ x c, X.env.cells.lookup x = some c → c ≠ b) ∧ ∀ p ∈ X.pn ++ pins, p.1 ≠ b) :
    Inv X pins σ H' { s with heap := h', gens := g', drawn := d', toks := t' } := by
  obtain ⟨m, ⟨o, es, ep, ho, r⟩, _⟩ := id I.loc
  obtain ⟨sl, hL⟩ := u.any ho I.free fun z => (hch _ z).2.1 rfl
  exact I.step (ch := ch) hch (fun b o hL hb hc e n => u.keep b o e n (fun z => (List.mem_cons.mp (I.stkSub b z)).elim hL hb) hc) (fun b o _ _ hc e n => u.any e n hc) (fun b o hc e n => u.free b o e n hc) (fun b o hc e => u.there b o e hc) u.tups u.frzs u.tbls (fun m' hm => by
    obtain ⟨o', es', ep', ho', r'⟩ := hm
    rw [ho] at ho'; cases ho'
    exact ⟨_, es', ep', hL, r'⟩) hok hg
/-- an untracked record of ours (an iterator) has turned -/
theorem Inv.turned {t' : Nat} {it : Addr} (I : Inv X pins σ H s) (k : ∀ b o, b ≠ it → s.heap.get? b = some o → h'.get? b = some o) (hn : H it = none) (hL : it ≠ X.env.locals)
    (h1 : it ∈ X.ex ∨ X.s₀.heap.objs.size ≤ it) (h2 : ∀ x c, X.env.cells.lookup x = some c → c ≠ it) (h3 : ∀ p ∈ X.pn ++ pins, p.1 ≠ it) : Inv X pins σ H { s with heap := h', toks := t' } := by
  have nit : ∀ b u, H b = some u → b ≠ it := fun b u e z => by rw [z, hn] at e; cases e
  refine I.step (g' := s.gens) (d' := s.drawn) (ch := [it]) (fun b hb => ?_) (fun b o _ _ hc e _ => k b o (fun z => hc (by simp [z])) e) (fun b o _ _ hc e _ => ⟨o.slots, k b o (fun z => hc (by simp [z])) e⟩) (fun _ _ _ _ n => n)
    (fun b o hc e => ⟨o, k b o (fun z => hc (by simp [z])) e⟩) (fun _ _ e => e) (fun _ _ _ e => e) (fun b ps e => ⟨#[], by rw [e]; simp⟩) (fun m hm => ?_) (fun b u e => ?_) I.bare
  · have e : b = it := by simpa using hb
    subst e
    exact ⟨h1, hL, h2, h3⟩
  · obtain ⟨o, es, ep, ho, r⟩ := hm
    exact ⟨o, es, ep, k _ o (Ne.symm hL) ho, r⟩
  · refine (I.hok b u e).stay (fun c v hc q => k c v ?_ q) (fun _ q => q) fun _ _ q => q
    rcases hc with z | z
    · rw [z]; exact nit b u e
    · exact nit c _ z
theorem Inv.tok (I : Inv X pins σ H s) (t : Nat) : Inv X pins σ H { s with toks := t } := I.un (h' := s.heap) (t' := t) Un.refl I.hok
/-- all objects kept -/
theorem Inv.kept {t' : Nat} (I : Inv X pins σ H s) (k : ∀ b u, s.heap.get? b = some u → h'.get? b = some u) : Inv X pins σ H { s with heap := h', toks := t' } := I.un (Un.kept k) (I.hok.kept k)
/-- a new object laid and tracked -/
theorem Inv.laid {a : Addr} {o : HO} {t' : Nat} (I : Inv X pins σ H s) (k : ∀ b u, s.heap.get? b = some u → h'.get? b = some u) (hp : s.heap.objs.size ≤ a) (new : ObjOk X.prog X.w (upd H a o) h' a o) :
    Inv X pins σ (upd H a o) { s with heap := h', toks := t' } := I.un (Un.laid k hp (I.hok.fresh hp)) (I.hok.laid k hp new)
/-- an object written -/
theorem Inv.write {x e : Addr} {o : HO} {t' : Nat} (I : Inv X pins σ H s) (mu : Mut (H x)) (he : e = x ∨ H e = some (.own x)) (k : ∀ b u, b ≠ e → s.heap.get? b = some u → h'.get? b = some u) (heo : ∃ u, h'.get? e = some u)
    (new : ObjOk X.prog X.w (upd H x o) h' x o) : Inv X pins σ (upd H x o) { s with heap := h', toks := t' } := I.un (Un.write mu he k heo) (I.hok.write mu he k heo new)
theorem Inv.pins_of {pins' : List (Addr × Obj)} (I : Inv X pins σ H s) (h : ∀ p ∈ pins', s.heap.get? p.1 = some p.2 ∧ H p.1 = none ∧ p.1 ≠ X.env.locals ∧ p.1 ∉ X.fs ∧ ∀ v, p.2.data ≠ .cell v) : Inv X pins' σ H s :=
  ⟨I.ok, I.os, I.bare, I.base, I.loc, I.cell, I.free, I.freeC, fun p hp => (List.mem_append.mp hp).elim (fun z => I.pin p (List.mem_append_left _ z)) (h p), I.hok, I.len⟩

theorem nodup_ix {N : List Str} (hN : N.Nodup) {i j : Nat} {x : Str} (a : N[i]? = some x) (b : N[j]? = some x) : i = j := by
  obtain ⟨h1, e1⟩ := List.getElem?_eq_some_iff.mp a
  obtain ⟨h2, e2⟩ := List.getElem?_eq_some_iff.mp b
  exact (List.getElem_inj hN).mp (e1.trans e2.symm)

/-- a name is stored; what changed -/
theorem store_ok2 {M : Model} {A : Around} {E : Value → Shared → Prop} {i : Nat} {x : Str} {v : V} {u : Value} {Q : Unit → Shared → Prop} (I : Inv X pins σ H s) (hN : X.N.Nodup) (hi : X.N[i]? = some x) (hx : Loc X.env.scope x) (r : RelV v u)
    (h : ∀ s', Inv X pins (σ.set i (some v)) H s' → (∃ a, Heap.SameBut a s.heap s'.heap ∧ (a = X.env.locals ∨ X.env.cells.lookup x = some a)) → Q () s') (hf : X.fn x = true ∨ X.env.scope.names.lookup x = some .local := by first | exact .inl rfl | exact .inr rfl | assumption) : wpAny M A (storeName X.env x u) Q E s := by
  obtain ⟨m, hn, hl⟩ := id I.loc
  have hcls : (X.env.scope.kind == .class || (X.env.scope.kind == .module && X.env.locals != X.env.globals)) = false := by rw [I.ok.kind]; rfl
  have hiσ : i < σ.length := by rw [I.len]; exact (List.getElem?_eq_some_iff.mp hi).1
  have cne := I.cne
  have tracked : ∀ {a : Addr} {h' : Heap}, (∃ o, s.heap.get? a = some o ∧ H a = none) → Heap.SameBut a s.heap h' → HOk X.prog X.w H h' := fun {a h'} ha hs b ob e => by
    obtain ⟨_, _, hfree⟩ := ha
    refine (I.hok b ob e).stay (fun c w' hc q => (hs.2 c ?_).trans q) (fun _ q => q) fun _ _ q => q
    rintro rfl
    rcases hc with rfl | hc
    · rw [hfree] at e; cases e
    · rw [hfree] at hc; cases hc
  rcases hx with hk | hk
  · refine wpAny_storeName_local hk hn (fun h' hn' hs => ?_) hcls
    obtain ⟨oL, _, _, hoL, _⟩ := id hn
    refine h _ ⟨I.ok, I.os, I.bare, ⟨fun b o e n hb hx => ?_, fun b o e n hb hx => ?_, I.base.free, fun b o e hx => ?_, I.base.tups, I.base.frzs, I.base.tbls⟩, ⟨_, hn', fun j y v' e1 e2 e3 => ?_⟩, fun y c e => ?_, I.free, I.freeC, fun p hp => ?_, tracked ⟨oL, hoL, I.free⟩ hs, by simpa using I.len⟩ ⟨_, hs, .inl rfl⟩
    · exact (hs.2 b (Nat.ne_of_lt (Nat.lt_of_lt_of_le (Heap.lt_size e) I.ok.above))).trans (I.base.keep b o e n hb hx)
    · obtain ⟨sl, e1⟩ := I.base.slot b o e n hb hx
      exact ⟨sl, (hs.2 b (Nat.ne_of_lt (Nat.lt_of_lt_of_le (Heap.lt_size e) I.ok.above))).trans e1⟩
    · obtain ⟨o', e1⟩ := I.base.there b o e hx
      exact ⟨o', (hs.2 b (Nat.ne_of_lt (Nat.lt_of_lt_of_le (Heap.lt_size e) I.ok.above))).trans e1⟩
    · by_cases hj : j = i
      · subst hj
        rw [hi] at e1; cases e1
        rw [List.getElem?_set_self hiσ] at e2
        cases e2
        exact ⟨u, r, .inl ⟨hk, by simp⟩⟩
      · rw [List.getElem?_set_ne (Ne.symm hj)] at e2
        obtain ⟨u', r', q⟩ := hl j y v' e1 e2 e3
        refine ⟨u', r', ?_⟩
        rcases q with ⟨k, e⟩ | ⟨k, c, e, z⟩
        · refine .inl ⟨k, ?_⟩
          have : y ≠ x := fun e => hj (nodup_ix hN e1 (e ▸ hi))
          simp [this, e]
        · exact .inr ⟨k, c, e, z.sameBut hs (cne y c e)⟩
    · obtain ⟨w', z⟩ := I.cell y c e
      exact ⟨w', z.sameBut hs (cne y c e)⟩
    · obtain ⟨e, n, ne, nf, d⟩ := I.pin p hp
      exact ⟨(hs.2 p.1 ne).trans e, n, ne, nf, d⟩
  · have hfn : X.fn x = true := by
      rcases hf with z | z
      · exact z
      · rw [z] at hk; cases hk
    obtain ⟨c, hc⟩ := I.ok.has x (.inl hk)
    obtain ⟨w', z⟩ := I.cell x c hc
    refine wpAny_storeName_cell I.ok.kind hk hc z (fun h' hc' hs => ?_)
    obtain ⟨oc, hoc, hocd⟩ := id z
    refine h { s with heap := h' } ⟨I.ok, I.os, I.bare, ⟨fun b o e n hb hx => ?_, fun b o e n hb hx => ?_, I.base.free, fun b o e hx => ?_, I.base.tups, I.base.frzs, I.base.tbls⟩, ⟨m, hn.sameBut hs (Ne.symm (cne x c hc)), fun j y v' e1 e2 e3 => ?_⟩, fun y c' e => ?_, I.free, I.freeC, fun p hp => ?_, tracked ⟨oc, hoc, I.freeC x c hc⟩ hs, by simpa using I.len⟩ ⟨c, hs, .inr hc⟩
    · exact (hs.2 b (Nat.ne_of_lt (Nat.lt_of_lt_of_le (Heap.lt_size e) (I.ok.cab x c hfn hc)))).trans (I.base.keep b o e n hb hx)
    · obtain ⟨sl, e1⟩ := I.base.slot b o e n hb hx
      exact ⟨sl, (hs.2 b (Nat.ne_of_lt (Nat.lt_of_lt_of_le (Heap.lt_size e) (I.ok.cab x c hfn hc)))).trans e1⟩
    · obtain ⟨o', e1⟩ := I.base.there b o e hx
      exact ⟨o', (hs.2 b (Nat.ne_of_lt (Nat.lt_of_lt_of_le (Heap.lt_size e) (I.ok.cab x c hfn hc)))).trans e1⟩
    · by_cases hj : j = i
      · subst hj
        rw [hi] at e1; cases e1
        rw [List.getElem?_set_self hiσ] at e2
        cases e2
        exact ⟨u, r, .inr ⟨.inl hk, c, hc, hc'⟩⟩
      · rw [List.getElem?_set_ne (Ne.symm hj)] at e2
        obtain ⟨u', r', q⟩ := hl j y v' e1 e2 e3
        refine ⟨u', r', ?_⟩
        rcases q with q | ⟨k, c', e, z'⟩
        · exact .inl q
        · refine .inr ⟨k, c', e, z'.sameBut hs ?_⟩
          rintro rfl
          exact hj (nodup_ix hN e1 (I.ok.inj _ _ _ e hc ▸ hi))
    · by_cases hcc : c' = c
      · subst hcc; exact ⟨_, hc'⟩
      · obtain ⟨w2, z2⟩ := I.cell y c' e
        exact ⟨w2, z2.sameBut hs hcc⟩
    · obtain ⟨e, n, ne, nf, d⟩ := I.pin p hp
      refine ⟨(hs.2 p.1 ?_).trans e, n, ne, nf, d⟩
      intro q
      rw [q, hoc] at e
      have q' : oc = p.2 := Option.some.inj e
      exact d w' (by rw [← q']; exact hocd)
theorem store_ok {M : Model} {A : Around} {E : Value → Shared → Prop} {i : Nat} {x : Str} {v : V} {u : Value} {Q : Unit → Shared → Prop} (I : Inv X pins σ H s) (hN : X.N.Nodup) (hi : X.N[i]? = some x) (hx : Loc X.env.scope x) (r : RelV v u)
    (h : ∀ s', Inv X pins (σ.set i (some v)) H s' → Q () s') (hf : X.fn x = true ∨ X.env.scope.names.lookup x = some .local := by first | exact .inl rfl | exact .inr rfl | assumption) : wpAny M A (storeName X.env x u) Q E s :=
  store_ok2 I hN hi hx r (fun s' I' _ => h s' I') hf
/-- behind a call or a block, the state as it is -/
theorem Inv.call' {s' : Shared} {ch : List Addr} (I : Inv X pins σ H s) (ho : s'.os = s.os) (u : Un (frs X.stack) ch H H' s.heap s'.heap) (hok : HOk X.prog X.w H' s'.heap) (hg : AllBare s'.gens)
    (hch : ∀ b ∈ ch, (b ∈ X.ex ∨ X.s₀.heap.objs.size ≤ b) ∧ b ≠ X.env.locals ∧ (∀ x c, X.env.cells.lookup x = some c → c ≠ b) ∧ ∀ p ∈ X.pn ++ pins, p.1 ≠ b) : Inv X pins σ H' s' := by
  obtain ⟨h', g', d', t', o'⟩ := s'
  have e : o' = s.os := ho
  subst e
  exact I.call (g' := g') (t' := t') (d' := d') u hok hg hch
end

/-! ### the judgements -/
/-- an exception: its class, its own dict's address (where it has one), the abstract heap behind it -/
abbrev XK := Value → Option Addr → Hp → Prop
abbrev St := List (Option V)
abbrev VK := V → Hp → Prop
/-- an expression's reading; a test's; an argument list's -/
abbrev TE := St → Hp → VK → Prop
abbrev TT := St → Hp → (Bool → Hp → Prop) → Prop
abbrev TA := St → Hp → (List V → Hp → Prop) → Prop
/-- what is wanted behind a statement -/
structure Ends where
  nx : St → Hp → Prop
  rt : VK
  bk : St → Hp → Prop := fun _ _ => False
  ct : St → Hp → Prop := fun _ _ => False
abbrev TS := Ends → St → Hp → Prop

def EP (X : Cx) (pins : List (Addr × Obj)) (σ : St) (Q : VK) (u : Value) (s' : Shared) : Prop := ∃ v H', Inv X pins σ H' s' ∧ RelV v u ∧ Q v H'
def TP (X : Cx) (pins : List (Addr × Obj)) (σ : St) (Q : Bool → Hp → Prop) (b : Bool) (s' : Shared) : Prop := ∃ H', Inv X pins σ H' s' ∧ Q b H'
def AP (X : Cx) (pins : List (Addr × Obj)) (σ : St) (Q : List V → Hp → Prop) (us : List Value) (s' : Shared) : Prop := ∃ vs H', Inv X pins σ H' s' ∧ Vals vs us ∧ Q vs H'
def SP (X : Cx) (pins : List (Addr × Obj)) (D : Ends) (f : Flow) (s' : Shared) : Prop :=
  match f with
  | .next => ∃ σ' H', Inv X pins σ' H' s' ∧ D.nx σ' H'
  | .brk => ∃ σ' H', Inv X pins σ' H' s' ∧ D.bk σ' H'
  | .cont => ∃ σ' H', Inv X pins σ' H' s' ∧ D.ct σ' H'
  | .ret u => ∃ v σ' H', Inv X pins σ' H' s' ∧ RelV v u ∧ D.rt v H'

def PE (X : Cx) (e : Expr) (t : TE) : Prop :=
  ∀ (pins : List (Addr × Obj)) (s : Shared) (σ : St) (H : Hp) (Q : VK), Inv X pins σ H s → t σ H Q → wpAny (model X.prog X.w) X.A (eval e X.env) (EP X pins σ Q) X.xe s
def PT (X : Cx) (e : Expr) (t : TT) : Prop :=
  ∀ (pins : List (Addr × Obj)) (s : Shared) (σ : St) (H : Hp) (Q : Bool → Hp → Prop), Inv X pins σ H s → t σ H Q → wpAny (model X.prog X.w) X.A (isTrue e X.env (eval e X.env)) (TP X pins σ Q) X.xe s
/-- a test whatever its 'whole' is (and, or) -/
def PW (X : Cx) (e : Expr) (t : TT) : Prop :=
  ∀ (whole : Sem Value) (pins : List (Addr × Obj)) (s : Shared) (σ : St) (H : Hp) (Q : Bool → Hp → Prop), Inv X pins σ H s → t σ H Q → wpAny (model X.prog X.w) X.A (isTrue e X.env whole) (TP X pins σ Q) X.xe s
theorem PW.pt {X : Cx} {e : Expr} {t : TT} (h : PW X e t) : PT X e t := h _
/-- an argument list (no star), from the left -/
def PA (X : Cx) (es : List Expr) (t : TA) : Prop :=
  ∀ (pos : Pos) (pins : List (Addr × Obj)) (s : Shared) (σ : St) (H : Hp) (Q : List V → Hp → Prop), Inv X pins σ H s → t σ H Q → wpAny (model X.prog X.w) X.A (spliced (backTo pos (starEach es X.env))) (AP X pins σ Q) X.xe s
def PS (X : Cx) (st : Stmt) (t : TS) : Prop :=
  ∀ (pins : List (Addr × Obj)) (s : Shared) (σ : St) (H : Hp) (D : Ends), Inv X pins σ H s → t D σ H → wpAny (model X.prog X.w) X.A (exec st X.env) (SP X pins D) X.xe s
def PSs (X : Cx) (st : List Stmt) (t : TS) : Prop :=
  ∀ (pins : List (Addr × Obj)) (s : Shared) (σ : St) (H : Hp) (D : Ends), Inv X pins σ H s → t D σ H → wpAny (model X.prog X.w) X.A (execs st X.env) (SP X pins D) X.xe s
/-- weaken the end -/
theorem thn {α : Type} {t : Sem α} {Q Q' : α → Shared → Prop} {M : Model} {A : Around} {E : Value → Shared → Prop} {s : Shared} (h : wpAny M A t Q E s) (hQ : ∀ a s, Q a s → Q' a s) : wpAny M A t Q' E s := wpAny_mono h hQ fun _ _ x => x
end L2

namespace L2
open PySem PySem.Spec PyProof.Rows
section
variable {X : Cx}

/-! ### names and constants -/
def tVar (i : Nat) : TE := fun σ H Q => ∃ v, σ[i]? = some (some v) ∧ Q v H
def tC (v : V) : TE := fun _ H Q => Q v H
theorem pe_var {i : Nat} {x : Str} {pos : Pos} (hN : X.N[i]? = some x) (hv : Vis X.env.scope x) (hd : (x == ("__debug__" : Str)) = false := by decide) (hcd : (x == ("__classdict__" : Str)) = false := by decide) : PE X (.Name x pos) (tVar i) := by
  intro pins s σ H Q I h
  obtain ⟨v, e, h⟩ := h
  obtain ⟨m, hn, hl⟩ := I.loc
  obtain ⟨u, r, l⟩ := hl i x v hN e hv
  have fin : EP X pins σ Q u s := ⟨v, H, I, r, h⟩
  rcases l with ⟨hk, hm⟩ | ⟨hk, c, hc, hcell⟩
  · exact wpAny_Name (wpAny_loadName_local I.ok.kind hk hn hm fin) hd
  · rcases hk with hk | hk
    · exact wpAny_Name (wpAny_loadName_cell I.ok.kind hk hc hcell fin) hd
    · exact wpAny_Name (wpAny_loadName_free I.ok.kind hk hc hcell fin hcd) hd
theorem pe_int {i j pos} : PE X (.Constant (.int i) j pos) (tC (.int i)) := fun _ _ _ H _ I h => wpAny_Constant_int ⟨.int i, H, I.tok _, ⟨_, rfl⟩, h⟩
theorem pe_bl {b j pos} : PE X (.Constant (.bool b) j pos) (tC (.bl b)) := fun _ _ _ H _ I h => Constant_bool ⟨.bl b, H, I, rfl, h⟩
theorem pe_str {x j pos} : PE X (.Constant (.str x) j pos) (tC (.str x)) := fun _ _ _ H _ I h => Calls.Constant_str ⟨.str x, H, I.tok _, ⟨_, rfl⟩, h⟩

/-- a global name of the def -/
def Gl (X : Cx) (x : Str) : Prop := X.env.kindOf x = some .globalImplicit
theorem ld_glob {E : Value → Shared → Prop} {pins : List (Addr × Obj)} {s : Shared} {σ : St} {H : Hp} {x : Str} {u : Value} {pos : Pos} {Q : Value → Shared → Prop} (I : Inv X pins σ H s) (hg : Gl X x) (hm : X.mg x = some u) (h : Q u s)
    (hd : (x == ("__debug__" : Str)) = false := by decide) : wpAny (model X.prog X.w) X.A (eval (.Name x pos) X.env) Q E s :=
  Calls.Name_function_global I.ok.kind hg (Calls.loadGlobal_global (by rw [I.ok.glob]; exact I.mod.glob.keeps I.bk) hm h) hd
theorem ld_blt {E : Value → Shared → Prop} {pins : List (Addr × Obj)} {s : Shared} {σ : St} {H : Hp} {x : Str} {u : Value} {pos : Pos} {Q : Value → Shared → Prop} (I : Inv X pins σ H s) (hg : Gl X x) (hm : X.mg x = none) (hv : bootBuiltins x = some u) (h : Q u s)
    (hn : x ≠ "__name__" := by decide) (hd : (x == ("__debug__" : Str)) = false := by decide) : wpAny (model X.prog X.w) X.A (eval (.Name x pos) X.env) Q E s := by
  obtain ⟨mb, h1, h2⟩ := I.mod.blt
  exact Calls.Name_function_global I.ok.kind hg (Calls.loadGlobal_builtin (by rw [I.ok.glob]; exact I.mod.glob.keeps I.bk) hm (by rw [I.ok.blt]; exact h1.keeps I.bk) ((h2 x hn).trans hv) h) hd
/-- a module's constant, a class, a function, as a value -/
theorem pe_glob {x : Str} {v : V} {u : Value} {pos : Pos} (hg : Gl X x) (hm : X.mg x = some u) (r : RelV v u) (hd : (x == ("__debug__" : Str)) = false := by decide) : PE X (.Name x pos) (tC v) :=
  fun _ _ _ H _ I h => ld_glob I hg hm ⟨v, H, I, r, h⟩ hd
theorem pe_bltn {x : Str} {v : V} {u : Value} {pos : Pos} (hg : Gl X x) (hm : X.mg x = none) (hv : bootBuiltins x = some u) (r : RelV v u) (hn : x ≠ "__name__" := by decide) (hd : (x == ("__debug__" : Str)) = false := by decide) : PE X (.Name x pos) (tC v) :=
  fun _ _ _ H _ I h => ld_blt I hg hm hv ⟨v, H, I, r, h⟩ hn hd

/-! ### arithmetic -/
variable {a b : Expr} {ta tb : TE} {pos : Pos}
/-! ### comparisons -/
/-- a comparison as a value, as a test -/
def tB (t : TE) : TT := fun σ H Q => t σ H fun x H1 => ∃ c, x = .bl c ∧ Q c H1
/-- an expression whose value is a bool, as a test -/
theorem pt_val {e : Expr} {t : TE} (h : PE X e t) (he : ∀ whole, isTrue e X.env whole = (do let v ← whole; standAt e.pos; holding [v] (truthy v)) := by intro _; rfl) : PT X e (tB t) := by
  intro pins s σ H Q I hw
  refine isTrue_plain (thn (h pins s σ H _ I hw) fun v s1 ⟨x, H1, I1, r1, q1⟩ => ?_) (he _)
  obtain ⟨d, rfl, q⟩ := q1
  cases r1
  exact wpAny_truthy_bool ⟨H1, I1, q⟩

/-! ### and, or, not -/
variable {tA tB' : TT} {rest : List Expr}
def tAnd (t u : TT) : TT := fun σ H Q => t σ H fun c H1 => if c = true then u σ H1 Q else Q false H1
def tOr (t u : TT) : TT := fun σ H Q => t σ H fun c H1 => if c = true then Q true H1 else u σ H1 Q
def tNot (t : TT) : TT := fun σ H Q => t σ H fun c H1 => Q (!c) H1
theorem pw_and1 (ha : PT X a tA) : PW X (.BoolOp .And [a] pos) tA := by
  intro wh pins s σ H Q I h
  refine isTrue_and (thn (ha pins s σ H Q I h) fun c s1 e => ?_)
  cases c with
  | true => exact isTrue_and_nil e
  | false => exact e
theorem pw_or1 (ha : PT X a tA) : PW X (.BoolOp .Or [a] pos) tA := by
  intro wh pins s σ H Q I h
  refine isTrue_or (thn (ha pins s σ H Q I h) fun c s1 e => ?_)
  cases c with
  | false => exact isTrue_or_nil e
  | true => exact e
theorem pw_and (ha : PT X a tA) (hb : PW X (.BoolOp .And (b :: rest) pos) tB') : PW X (.BoolOp .And (a :: b :: rest) pos) (tAnd tA tB') := by
  intro wh pins s σ H Q I h
  refine isTrue_and (thn (ha pins s σ H _ I h) fun c s1 ⟨H1, I1, q1⟩ => ?_)
  cases c with
  | true => exact hb wh pins s1 σ H1 Q I1 q1
  | false => exact ⟨H1, I1, q1⟩
theorem pw_or (ha : PT X a tA) (hb : PW X (.BoolOp .Or (b :: rest) pos) tB') : PW X (.BoolOp .Or (a :: b :: rest) pos) (tOr tA tB') := by
  intro wh pins s σ H Q I h
  refine isTrue_or (thn (ha pins s σ H _ I h) fun c s1 ⟨H1, I1, q1⟩ => ?_)
  cases c with
  | true => exact ⟨H1, I1, q1⟩
  | false => exact hb wh pins s1 σ H1 Q I1 q1
theorem pt_not (ha : PT X a tA) : PT X (.UnaryOp .Not a pos) (tNot tA) := by
  intro pins s σ H Q I h
  exact isTrue_not (ha pins s σ H (fun c H1 => Q (!c) H1) I h)
/-- .. as values (bools) -/
def tAndV (ta tb : TE) : TE := fun σ H Q => ta σ H fun x H1 => ∃ c, x = .bl c ∧ if c = true then tb σ H1 Q else Q (.bl false) H1
def tNotV (ta : TE) : TE := fun σ H Q => ta σ H fun x H1 => ∃ c, x = .bl c ∧ Q (.bl (!c)) H1
theorem pe_one {op} {t : TE} (h : PE X a t) : PE X (.BoolOp op [a] pos) t := fun pins s σ H Q I hw => BoolOp_one (h pins s σ H Q I hw)
theorem pe_and (ha : PE X a ta) (hb : PE X (.BoolOp .And (b :: rest) pos) tb) : PE X (.BoolOp .And (a :: b :: rest) pos) (tAndV ta tb) := by
  intro pins s σ H Q I h
  refine BoolOp_and (thn (ha pins s σ H _ I h) fun v s1 ⟨x, H1, I1, r1, q1⟩ => ?_)
  obtain ⟨c, rfl, q1⟩ := q1
  cases r1
  refine wpAny_truthy_bool ?_
  cases c with
  | true => exact hb pins s1 σ H1 Q I1 q1
  | false => exact ⟨.bl false, H1, I1, rfl, q1⟩
theorem pe_not (ha : PE X a ta) : PE X (.UnaryOp .Not a pos) (tNotV ta) := by
  intro pins s σ H Q I h
  refine UnaryOp_ (thn (ha pins s σ H _ I h) fun v s1 ⟨x, H1, I1, r1, q1⟩ => ?_)
  obtain ⟨c, rfl, q1⟩ := q1
  cases r1
  exact not_of (wpAny_truthy_bool ⟨.bl (!c), H1, I1, rfl, q1⟩)
end
end L2

namespace L2
open PySem PySem.Spec PyProof.Rows

/-! ### a list, a tuple that is read: tracked, frozen, or an object of the module -/
def SqL (K : PySem.W.Frag) (H : Hp) (a : Addr) (xs : List V) : Prop :=
  Rd H a (.lst xs) ∨
    ∃ (o : Obj) (its : Array Value) (n : Nat), K.lookup a = some o ∧ o.cls = .type "list" ∧ o.dict = none ∧ o.data = .seq its n ∧ its.size ≤ sizeLine ∧ Vals xs its.toList
def SqT (K : PySem.W.Frag) (H : Hp) (a : Addr) (xs : List V) : Prop :=
  Rd H a (.tup xs) ∨
    ∃ (o : Obj) (its : Array Value) (n : Nat), K.lookup a = some o ∧ o.cls = .type "tuple" ∧ o.data = .seq its n ∧ its.size ≤ sizeLine ∧ Vals xs its.toList
def absV : Value → Option V
  | .none => some .non
  | .bool b => some (.bl b)
  | .int i _ => some (.int i)
  | .str x _ => some (.str x)
  | .bytes b _ => some (.byt b)
  | .float b _ => some (.flt b)
  | .ref a => some (.ref a)
  | .type n => some (.ty n)
  | _ => none
theorem RelV.abs {x : V} {u : Value} (r : RelV x u) : absV u = some x := by
  cases x with
  | non => cases r; rfl
  | bl _ => cases r; rfl
  | int _ => obtain ⟨t, rfl⟩ := r; rfl
  | str _ => obtain ⟨t, rfl⟩ := r; rfl
  | byt _ => obtain ⟨t, rfl⟩ := r; rfl
  | flt _ => obtain ⟨t, rfl⟩ := r; rfl
  | ref _ => cases r; rfl
  | ty _ => cases r; rfl
theorem RelV.inj {x y : V} {u : Value} (r : RelV x u) (q : RelV y u) : x = y := Option.some.inj (r.abs.symm.trans q.abs)
theorem Vals.inj : ∀ {xs ys : List V} {us : List Value}, Vals xs us → Vals ys us → xs = ys
  | _, _, _, .nil, .nil => rfl
  | _, _, _, .cons r t, .cons r' t' => by rw [r.inj r', Vals.inj t t']
section
variable {X : Cx} {pins : List (Addr × Obj)} {σ : St} {H : Hp} {s : Shared} {a : Addr} {xs ys : List V}
theorem SqL.of {K : PySem.W.Frag} (h : H a = some (.lst xs)) : SqL K H a xs := .inl (.inl h)
theorem SqT.of {K : PySem.W.Frag} (h : H a = some (.tup xs)) : SqT K H a xs := .inl (.inl h)
theorem Inv.list (I : Inv X pins σ H s) (h : SqL X.K H a xs) : ∃ its : List Value, Vals xs its ∧ PlainL s.heap a its.toArray ∧ xs.length ≤ sizeLine := by
  rcases h with h | ⟨o, its, n, hk, hc, hd, hs, hz, r⟩
  · obtain ⟨z, its, n, r, e⟩ := h.ok I.hok
    exact ⟨its, r, ⟨_, n, e, rfl, rfl, rfl⟩, z⟩
  · refine ⟨its.toList, r, ⟨o, n, I.kIn a o hk, hc, hd, by simpa using hs⟩, ?_⟩
    have e := r.length
    simp only [Array.length_toList] at e
    omega
theorem Inv.tuple (I : Inv X pins σ H s) (h : SqT X.K H a xs) : ∃ its : List Value, Vals xs its ∧ IsTup s.heap a its.toArray ∧ xs.length ≤ sizeLine := by
  rcases h with h | ⟨o, its, n, hk, hc, hs, hz, r⟩
  · obtain ⟨z, its, r, p⟩ := h.ok I.hok
    exact ⟨its, r, p, z⟩
  · refine ⟨its.toList, r, ⟨o, I.kIn a o hk, hc, n, by simpa using hs⟩, ?_⟩
    have e := r.length
    simp only [Array.length_toList] at e
    omega
theorem Inv.list_inj (I : Inv X pins σ H s) (h : SqL X.K H a xs) (h' : SqL X.K H a ys) : xs = ys := by
  obtain ⟨its, r, ⟨o, n, e, _, _, d⟩, _⟩ := I.list h
  obtain ⟨its', r', ⟨o', n', e', _, _, d'⟩, _⟩ := I.list h'
  rw [e] at e'; cases e'
  rw [d] at d'
  injection d' with d1 _
  have : its = its' := by simpa using congrArg Array.toList d1
  subst this
  exact r.inj r'
theorem Inv.tuple_inj (I : Inv X pins σ H s) (h : SqT X.K H a xs) (h' : SqT X.K H a ys) : xs = ys := by
  obtain ⟨its, r, ⟨o, e, _, n, d⟩, _⟩ := I.tuple h
  obtain ⟨its', r', ⟨o', e', _, n', d'⟩, _⟩ := I.tuple h'
  rw [e] at e'; cases e'
  rw [d] at d'
  injection d' with d1 _
  have : its = its' := by simpa using congrArg Array.toList d1
  subst this
  exact r.inj r'
end

/-! ### another wish about exceptions -/
abbrev Cx.wish (X : Cx) (E : Value → Shared → Prop) : Cx := { X with xe := E }
/-- no exception leaves -/
abbrev Cx.nox (X : Cx) : Cx := X.wish fun _ _ => False
theorem Cx.Ok.wish {X : Cx} (ok : X.Ok) (E : Value → Shared → Prop) : (X.wish E).Ok :=
  ⟨ok.mod, ok.kind, ok.glob, ok.blt, ok.above, ok.inj, ok.has, ok.cab, ok.hd, ok.frames, ok.stk, ok.exf, ok.bs, ok.bsz, ok.noex, ok.exfs, ok.funs, ok.frf⟩
theorem Cx.Ok.unwish {X : Cx} {E : Value → Shared → Prop} (ok : (X.wish E).Ok) : X.Ok :=
  ⟨ok.mod, ok.kind, ok.glob, ok.blt, ok.above, ok.inj, ok.has, ok.cab, ok.hd, ok.frames, ok.stk, ok.exf, ok.bs, ok.bsz, ok.noex, ok.exfs, ok.funs, ok.frf⟩
section
variable {X : Cx} {pins : List (Addr × Obj)} {σ : St} {H : Hp} {s : Shared} {E : Value → Shared → Prop}
theorem Inv.wish (I : Inv X pins σ H s) (E : Value → Shared → Prop) : Inv (X.wish E) pins σ H s := ⟨I.ok.wish E, I.os, I.bare, I.base, I.loc, I.cell, I.free, I.freeC, I.pin, I.hok, I.len⟩
theorem Inv.unwish (I : Inv (X.wish E) pins σ H s) : Inv X pins σ H s := ⟨I.ok.unwish, I.os, I.bare, I.base, I.loc, I.cell, I.free, I.freeC, I.pin, I.hok, I.len⟩
theorem SP.unwish {D : Ends} {f : Flow} {s' : Shared} (h : SP (X.wish E) pins D f s') : SP X pins D f s' := by
  cases f with
  | next => obtain ⟨σ', H', I, q⟩ := h; exact ⟨σ', H', I.unwish, q⟩
  | brk => obtain ⟨σ', H', I, q⟩ := h; exact ⟨σ', H', I.unwish, q⟩
  | cont => obtain ⟨σ', H', I, q⟩ := h; exact ⟨σ', H', I.unwish, q⟩
  | ret u => obtain ⟨v, σ', H', I, r, q⟩ := h; exact ⟨v, σ', H', I.unwish, r, q⟩
theorem PSs.nox {st : List Stmt} {t : TS} (h : PSs X.nox st t) : PSs X st t := fun pins s σ H D I hw =>
  wpAny_mono (h pins s σ H D (I.wish _) hw) (fun _ _ q => q.unwish) fun _ _ z => False.elim z
end

/-! ### blocks and small statements -/
section
variable {X : Cx} {st : Stmt} {rest : List Stmt} {t u : TS} {e : Expr} {te : TE} {pos : Pos}
def tNext : TS := fun D σ H => D.nx σ H
def tSeq (t u : TS) : TS := fun D σ H => t { D with nx := u D } σ H
theorem pss_nil : PSs X [] tNext := fun _ _ σ H _ I h => wpAny_execs_nil ⟨σ, H, I, h⟩
theorem pss_cons (h1 : PS X st t) (h2 : PSs X rest u) : PSs X (st :: rest) (tSeq t u) := by
  intro pins s σ H D I h
  refine wpAny_execs_cons (thn (h1 pins s σ H { D with nx := u D } I h) fun f s1 q => ?_)
  cases f with
  | next =>
    obtain ⟨σ', H', I', q⟩ := q
    exact h2 pins s1 σ' H' D I' q
  | ret v => exact q
  | brk => exact q
  | cont => exact q
theorem pss_one (h1 : PS X st t) : PSs X [st] t := by
  intro pins s σ H D I h
  refine wpAny_execs_cons (thn (h1 pins s σ H D I h) fun f s1 q => ?_)
  cases f with
  | next => exact wpAny_execs_nil q
  | ret v => exact q
  | brk => exact q
  | cont => exact q
/-- in a def's body nothing is shown -/
theorem Inv.quiet {pins : List (Addr × Obj)} {σ : St} {H : Hp} {s : Shared} (I : Inv X pins σ H s) : interactive X.env = false := by simp [interactive, I.ok.kind]
/-- an expression whose value is dropped -/
def tDrop (te : TE) : TS := fun D σ H => te σ H fun _ H1 => D.nx σ H1
theorem ps_expr (he : PE X e te) (hs : swapsWith e none pos.line X.env = pure false := by rfl) : PS X (.Expr e pos) (tDrop te) := by
  intro pins s σ H D I h
  exact wpAny_Expr_any (thn (he pins s σ H _ I h) fun v s1 ⟨x, H1, I1, r1, q1⟩ => ⟨σ, H1, I1, q1⟩) I.quiet hs
def tRet (te : TE) : TS := fun D σ H => te σ H D.rt
theorem ps_ret (he : PE X e te) : PS X (.Return (some e) pos) (tRet te) := by
  intro pins s σ H D I h
  exact wpAny_Return_some (thn (he pins s σ H _ I h) fun v s1 ⟨x, H1, I1, r1, q1⟩ => ⟨x, σ, H1, I1, r1, q1⟩)
def tIfS (c : TT) (t u : TS) : TS := fun D σ H => c σ H fun b H1 => if b = true then t D σ H1 else u D σ H1
theorem ps_if {c : Expr} {a b : List Stmt} {tc : TT} (hc : PT X c tc) (ha : PSs X a t) (hb : PSs X b u) : PS X (.If c a b pos) (tIfS tc t u) := by
  intro pins s σ H D I h
  refine wpAny_If (thn (hc pins s σ H _ I h) fun d s1 ⟨H1, I1, q1⟩ => ?_)
  cases d with
  | true => exact ha pins s1 σ H1 D I1 q1
  | false => exact hb pins s1 σ H1 D I1 q1
/-- code that the proof never comes to -/
def tNever : TS := fun _ _ _ => False
theorem pss_never {sts : List Stmt} : PSs X sts tNever := fun _ _ _ _ _ _ h => h.elim
end

/-! ### targets -/
abbrev TG := V → St → Hp → (St → Hp → Prop) → Prop
abbrev TGs := List V → St → Hp → (St → Hp → Prop) → Prop
def PG (X : Cx) (target : Expr) (t : TG) : Prop :=
  ∀ (pins : List (Addr × Obj)) (s : Shared) (σ : St) (H : Hp) (v : V) (u : Value) (Q : St → Hp → Prop), Inv X pins σ H s → RelV v u → t v σ H Q →
    wpAny (model X.prog X.w) X.A (assign target X.env u) (fun _ s' => ∃ σ' H', Inv X pins σ' H' s' ∧ Q σ' H') X.xe s
/-- several targets, one after another -/
def PGs (X : Cx) (ts : List Expr) (t : TGs) : Prop :=
  ∀ (pins : List (Addr × Obj)) (s : Shared) (σ : St) (H : Hp) (vs : List V) (us : List Value) (Q : St → Hp → Prop), Inv X pins σ H s → Vals vs us → t vs σ H Q →
    wpAny (model X.prog X.w) X.A (assignInOrder ((assignEach ts X.env).map (·.2)) us) (fun _ s' => ∃ σ' H', Inv X pins σ' H' s' ∧ Q σ' H') X.xe s
section
variable {X : Cx} {pos : Pos}
def gName (i : Nat) : TG := fun v σ H Q => Q (σ.set i (some v)) H
theorem pg_name {i : Nat} {x : Str} (hN : X.N.Nodup) (hi : X.N[i]? = some x) (hx : Loc X.env.scope x) (hf : X.fn x = true ∨ X.env.scope.names.lookup x = some .local := by first | exact .inl rfl | exact .inr rfl | assumption) : PG X (.Name x pos) (gName i) := by
  intro pins s σ H v u Q I r h
  exact wpAny_assign_Name (store_ok I hN hi hx r (fun s' I' => ⟨_, H, I', h⟩) hf)
def gNil : TGs := fun vs σ H Q => vs = [] ∧ Q σ H
def gCons (t : TG) (u : TGs) : TGs := fun vs σ H Q => ∃ v r, vs = v :: r ∧ t v σ H fun σ' H' => u r σ' H' Q
theorem pgs_nil : PGs X [] gNil := by
  intro pins s σ H vs us Q I r h
  obtain ⟨e, h⟩ := h
  subst e
  cases r
  exact assignInOrder_nil ⟨σ, H, I, h⟩
theorem pgs_cons {e : Expr} {es : List Expr} {t : TG} {u : TGs} (h1 : PG X e t) (h2 : PGs X es u)
    (hs : (assignEach (e :: es) X.env).map (·.2) = assign e X.env :: (assignEach es X.env).map (·.2) := by rfl) : PGs X (e :: es) (gCons t u) := by
  intro pins s σ H vs us Q I r h
  obtain ⟨v, vr, e1, h⟩ := h
  subst e1
  cases r with
  | cons r rr =>
    rw [hs]
    refine assignInOrder_cons (thn (h1 pins s σ H _ _ _ I r h) fun _ s1 ⟨σ1, H1, I1, q1⟩ => ?_)
    exact h2 pins s1 σ1 H1 _ _ Q I1 rr q1
/-- (a, b, ..) = a tuple of that length -/
def gTup (K : PySem.W.Frag) (n : Nat) (t : TGs) : TG := fun v σ H Q => ∃ a xs, v = .ref a ∧ SqT K H a xs ∧ xs.length = n ∧ t xs σ H Q
theorem pg_tup {es : List Expr} {k : Nat} {t : TGs} {n : Nat} (hc : X.calm = true) (h : PGs X es t)
    (hn : (assignEach es X.env).length = n := by rfl) (hst : (assignEach es X.env).findIdx? (·.1) = none := by rfl) : PG X (.Tuple es k pos) (gTup X.K n t) := by
  intro pins s σ H v u Q I r hw
  obtain ⟨a, xs, e1, hq, hl, hw⟩ := hw
  subst e1
  cases r
  obtain ⟨its, rv, ht, hz⟩ := I.tuple hq
  refine assign_Tuple_tuple (I.ok.hd hc) ht (by simp [hn, ← hl, rv.length]) hst fun h' hx => ?_
  have I1 : Inv X pins σ H { s with heap := h' } := I.kept (t' := s.toks) fun b o e => hx b o (Nat.ne_of_lt (Heap.lt_size e)) e
  exact h pins _ σ H xs _ Q I1 (by simpa using rv) hw
/-- target = value -/
def tAsg (te : TE) (g : TG) : TS := fun D σ H => te σ H fun x H1 => g x σ H1 D.nx
/-- name = value -/
theorem ps_set {i : Nat} {x : Str} {e : Expr} {te : TE} {pos' : Pos} (hN : X.N.Nodup) (hi : X.N[i]? = some x) (hx : Loc X.env.scope x) (he : PE X e te) (hs : swapsWith e (some (.Name x pos')) pos.line X.env = pure false := by rfl) (hf : X.fn x = true ∨ X.env.scope.names.lookup x = some .local := by first | exact .inl rfl | exact .inr rfl | assumption) :
    PS X (.Assign [.Name x pos'] e pos) (tAsg te (gName i)) := by
  intro pins s σ H D I h
  refine wpAny_Assign_Name (thn (he pins s σ H _ I h) fun v s1 ⟨y, H1, I1, r1, q1⟩ => ?_) hs
  exact store_ok I1 hN hi hx r1 (fun s2 I2 => ⟨_, H1, I2, q1⟩) hf
end

/-! ### while -/

/-! ### what a loop or a comprehension walks -/
/-- at turn i: it yields x (the heap may grow), or it stops -/
structure It where
  go : Nat → Hp → Prop
  yld : Nat → Hp → V → Hp → Prop
  stop : Nat → Hp → Prop
/-- the iterator's own objects may turn: they are not the frame's, not pinned, younger than the entry (or a comprehension's own) -/
def FpOk (X : Cx) (pins : List (Addr × Obj)) (H : Hp) (b : Addr) : Prop :=
  H b = none ∧ b ≠ X.env.locals ∧ b ∉ X.fs ∧ (b ∈ X.ex ∨ X.s₀.heap.objs.size ≤ b) ∧ (∀ x c, X.env.cells.lookup x = some c → c ≠ b) ∧ ∀ p ∈ X.pn ++ pins, p.1 ≠ b
theorem Inv.fpOk {X : Cx} {pins : List (Addr × Obj)} {σ : St} {H H' : Hp} {s : Shared} {b : Addr} (I : Inv X pins σ H s) (hb : s.heap.objs.size ≤ b) (hn : H' b = none) : FpOk X pins H' b := by
  refine ⟨hn, Nat.ne_of_gt (Nat.lt_of_lt_of_le I.lt hb), I.nofs hb, .inr (Nat.le_trans I.sz hb), fun x c e z => ?_, fun p hp z => ?_⟩
  · obtain ⟨v, q⟩ := I.cell x c e
    exact absurd (Nat.lt_of_lt_of_le q.lt (by rw [z]; exact hb)) (Nat.lt_irrefl _)
  · exact absurd (Nat.lt_of_lt_of_le (Heap.lt_size (I.pin p hp).1) (by rw [z]; exact hb)) (Nat.lt_irrefl _)
structure Turn (P : Program) (w : World) (K : PySem.W.Frag) (tg : Expr) (J : It) (fp : List Addr) (it : Addr) (tn : Nat → Heap → Prop) : Prop where
  mem : it ∈ fp
  obj : ∀ i h, tn i h → ∀ b ∈ fp, ∃ o, h.get? b = some o ∧ ∀ v, o.data ≠ .cell v
  keep : ∀ i h h', tn i h → (∀ b ∈ fp, ∀ o, h.get? b = some o → h'.get? b = some o) → tn i h'
  item : ∀ (X : Cx), X.prog = P → X.w = w → X.K = K → X.calm = true → ∀ (i : Nat) (pins : List (Addr × Obj)) (s : Shared) (σ : St) (H : Hp) (E : Value → Shared → Prop), Inv X pins σ H s → (∀ b ∈ fp, FpOk X pins H b) → tn i s.heap → J.go i H →
    wpAny (model P w) X.A (pyNext (.ref it)) (fun r s1 => ∃ u, r = some u ∧
      wpAny (model P w) X.A (letOwnedTupleGo tg (.ref it) u) (fun _ s2 => ∃ x H', Inv X pins σ H' s2 ∧ RelV x u ∧ J.yld i H x H' ∧ tn (i + 1) s2.heap ∧ ∀ b ∈ fp, H' b = none) E s1) E s
  done : ∀ (X : Cx), X.prog = P → X.w = w → X.K = K → X.calm = true → ∀ (i : Nat) (pins : List (Addr × Obj)) (s : Shared) (σ : St) (H : Hp) (E : Value → Shared → Prop), Inv X pins σ H s → (∀ b ∈ fp, FpOk X pins H b) → tn i s.heap → J.stop i H →
    wpAny (model P w) X.A (pyNext (.ref it)) (fun r s1 => r = none ∧ Inv X pins σ H s1) E s
  self : ∀ (A : Around) (i : Nat) (s : Shared) (Q : Value → Shared → Prop) (E : Value → Shared → Prop), tn i s.heap → Q (.ref it) s → wpAny (model P w) A (pyIter (.ref it)) Q E s
abbrev TI := St → Hp → (It → Hp → Prop) → Prop
/-- an iterator has come -/
def PIE (X : Cx) (pins : List (Addr × Obj)) (σ : St) (tg : Expr) (R : It → Hp → Prop) (itv : Value) (s2 : Shared) : Prop :=
  ∃ (it : Addr) (fp : List Addr) (tn : Nat → Heap → Prop) (J : It) (H' : Hp), itv = .ref it ∧ Inv X pins σ H' s2 ∧ Turn X.prog X.w X.K tg J fp it tn ∧ tn 0 s2.heap ∧ (∀ b ∈ fp, FpOk X pins H' b) ∧ R J H'
def PI (X : Cx) (tg iter : Expr) (wi : TI) : Prop :=
  ∀ (pins : List (Addr × Obj)) (s : Shared) (σ : St) (H : Hp) (R : It → Hp → Prop), Inv X pins σ H s → wi σ H R →
    wpAny (model X.prog X.w) X.A (eval iter X.env) (fun v s1 => wpAny (model X.prog X.w) X.A (pyIter v) (PIE X pins σ tg R) X.xe s1) X.xe s

/-- the step ahead of the store is nothing for an iterator that keeps no tuple -/
theorem go_of {M : Model} {A : Around} {E : Value → Shared → Prop} {s : Shared} {tg : Expr} {it : Addr} {u : Value} {o : Obj} {n : String} {vs : Array Value} {Q : Unit → Shared → Prop} (ho : s.heap.get? it = some o) (hc : o.cls = .type n) (hd : o.data = .fields vs)
    (hn : ["enumerate", "zip", "dict_itemiterator", "dict_reverseitemiterator", "odict_iterator", "itertools.zip_longest", "itertools.pairwise"].contains n = false) (hQ : Q () s) : wpAny M A (letOwnedTupleGo tg (.ref it) u) Q E s := by
  unfold letOwnedTupleGo
  cases tg <;> first
    | exact wpAny_pure hQ
    | (cases u <;> first
        | exact wpAny_pure hQ
        | (refine wpAny_bind (wpAny_load ho ?_)
           rw [hc, hd]
           show wpAny M A (if (["enumerate", "zip", "dict_itemiterator", "dict_reverseitemiterator", "odict_iterator", "itertools.zip_longest", "itertools.pairwise"].contains n && vs[0]? == some (rawInt _)) = true then _ else _) Q E s
           rw [if_neg (by intro h; rw [hn, Bool.false_and] at h; cases h)]
           exact wpAny_pure hQ))

/-- the list at a, as it stands at each turn (a loop may append to it) -/
def Itl (K : PySem.W.Frag) (a : Addr) : It :=
  ⟨fun i H => ∃ xs x, SqL K H a xs ∧ xs[i]? = some x, fun i H x H' => H' = H ∧ ∀ xs, SqL K H a xs → xs[i]? = some x, fun i H => ∃ xs, SqL K H a xs ∧ xs.length ≤ i⟩
def Itt (K : PySem.W.Frag) (a : Addr) : It :=
  ⟨fun i H => ∃ xs x, SqT K H a xs ∧ xs[i]? = some x, fun i H x H' => H' = H ∧ ∀ xs, SqT K H a xs → xs[i]? = some x, fun i H => ∃ xs, SqT K H a xs ∧ xs.length ≤ i⟩
/-- lo, lo + 1, .. (n of them) -/
def Itr (lo : Int) (n : Nat) : It := ⟨fun i _ => i < n, fun i H x H' => H' = H ∧ x = .int (lo + i), fun i _ => n ≤ i⟩
theorem turn_list {P : Program} {w : World} {K : PySem.W.Frag} {tg : Expr} (a it : Addr) : Turn P w K tg (Itl K a) [it] it (fun i h => h.IsListIter it a i) where
  mem := by simp
  obj := fun i h st b hb => by
    have e : b = it := by simpa using hb
    subst e
    obtain ⟨o, e, c, d⟩ := st
    exact ⟨o, e, fun v z => by rw [d] at z; cases z⟩
  keep := fun i h h' st k => st.at fun o e => k it (by simp) o e
  item := by
    intro X hP hw hK hc i pins s σ H E I hf st hg
    subst hP hw hK
    obtain ⟨xs, x, hq, hx⟩ := hg
    obtain ⟨its, rv, p, hz⟩ := I.list hq
    obtain ⟨u, hu, ru⟩ := rv.get hx
    obtain ⟨f0, f1, f2, f3, f4, f5⟩ := hf it (by simp)
    refine wpAny_pyNext_list_item st p.isList (x := u) (by simpa using hu) fun h' st' sb => ?_
    have I1 : Inv X pins σ H { s with heap := h' } := I.turned (t' := s.toks) (fun b o hb e => (sb.2 b hb).trans e) f0 f1 f3 f4 f5
    obtain ⟨o, e, c, d⟩ := id st'
    exact ⟨u, rfl, go_of (s := { s with heap := h' }) e c d (by decide) ⟨x, H, I1, ru, ⟨rfl, fun ys hy => by rw [I.list_inj hy hq]; exact hx⟩, st', fun b hb => (hf b hb).1⟩⟩
  done := by
    intro X hP hw hK hc i pins s σ H E I hf st hg
    subst hP hw hK
    obtain ⟨xs, hq, hx⟩ := hg
    obtain ⟨its, rv, p, hz⟩ := I.list hq
    obtain ⟨f0, f1, f2, f3, f4, f5⟩ := hf it (by simp)
    have hl := rv.length
    exact wpAny_pyNext_list_end (I.ok.hd hc) st p.isList (by simp; omega) fun h' eb => ⟨rfl, I.turned (t' := s.toks) (fun b o hb e => eb b o hb e) f0 f1 f3 f4 f5⟩
  self := fun _ _ _ _ _ st h => wpAny_pyIter_listiter st h
theorem turn_tuple {P : Program} {w : World} {K : PySem.W.Frag} {tg : Expr} (a it : Addr) : Turn P w K tg (Itt K a) [it] it (fun i h => h.IsTupleIter it a i) where
  mem := by simp
  obj := fun i h st b hb => by
    have e : b = it := by simpa using hb
    subst e
    obtain ⟨o, e, c, d⟩ := st
    exact ⟨o, e, fun v z => by rw [d] at z; cases z⟩
  keep := fun i h h' st k => st.at fun o e => k it (by simp) o e
  item := by
    intro X hP hw hK hc i pins s σ H E I hf st hg
    subst hP hw hK
    obtain ⟨xs, x, hq, hx⟩ := hg
    obtain ⟨its, rv, p, hz⟩ := I.tuple hq
    obtain ⟨u, hu, ru⟩ := rv.get hx
    obtain ⟨f0, f1, f2, f3, f4, f5⟩ := hf it (by simp)
    refine wpAny_pyNext_tuple_item st (show s.heap.IsTuple a its.toArray from p) (x := u) (by simpa using hu) fun h' st' sb => ?_
    have I1 : Inv X pins σ H { s with heap := h' } := I.turned (t' := s.toks) (fun b o hb e => (sb.2 b hb).trans e) f0 f1 f3 f4 f5
    obtain ⟨o, e, c, d⟩ := id st'
    exact ⟨u, rfl, go_of (s := { s with heap := h' }) e c d (by decide) ⟨x, H, I1, ru, ⟨rfl, fun ys hy => by rw [I.tuple_inj hy hq]; exact hx⟩, st', fun b hb => (hf b hb).1⟩⟩
  done := by
    intro X hP hw hK hc i pins s σ H E I hf st hg
    subst hP hw hK
    obtain ⟨xs, hq, hx⟩ := hg
    obtain ⟨its, rv, p, hz⟩ := I.tuple hq
    obtain ⟨f0, f1, f2, f3, f4, f5⟩ := hf it (by simp)
    have hl := rv.length
    exact wpAny_pyNext_tuple_end (I.ok.hd hc) st (show s.heap.IsTuple a its.toArray from p) (by simp; omega) fun h' eb => ⟨rfl, I.turned (t' := s.toks) (fun b o hb e => eb b o hb e) f0 f1 f3 f4 f5⟩
  self := fun _ _ _ _ _ st h => wpAny_pyIter_tupleiter st h
theorem turn_range {P : Program} {w : World} {K : PySem.W.Frag} {tg : Expr} (it : Addr) (lo : Int) (n : Nat) : Turn P w K tg (Itr lo n) [it] it (fun i h => IsRangeIter h it (lo + (i : Nat) * 1) ((n : Int) - (i : Nat)) 1) where
  mem := by simp
  obj := fun i h st b hb => by
    have e : b = it := by simpa using hb
    subst e
    exact ⟨_, st, fun v z => by
      have z' : Data.fields _ = Data.cell v := z
      cases z'⟩
  keep := fun i h h' st k => k it (by simp) _ st
  item := by
    intro X hP hw hK hc i pins s σ H E I hf st hg
    subst hP hw hK
    obtain ⟨f0, f1, f2, f3, f4, f5⟩ := hf it (by simp)
    have W := Walks.range (prog := X.prog) (w := X.w) (I.ok.hd hc) it lo 1 n
    refine W.item i s _ _ hg st fun v h' tk hv st' kk => ?_
    obtain ⟨t, rfl⟩ := hv
    have I1 : Inv X pins σ H { s with heap := h', toks := tk } := I.turned (fun b o hb e => kk b o (by simpa using hb) e) f0 f1 f3 f4 f5
    refine ⟨_, rfl, go_of (s := { s with heap := h', toks := tk }) (n := "range_iterator") st' rfl rfl (by decide) ⟨.int (lo + i), H, I1, ⟨t, ?_⟩, ⟨rfl, rfl⟩, st', fun b hb => (hf b hb).1⟩⟩
    rw [Int.mul_one]
  done := by
    intro X hP hw hK hc i pins s σ H E I hf st hg
    subst hP hw hK
    obtain ⟨f0, f1, f2, f3, f4, f5⟩ := hf it (by simp)
    exact wpAny_pyNext_range_end (I.ok.hd hc) st (by have : n ≤ i := hg; omega) fun h' eb => ⟨rfl, I.turned (t' := s.toks) (fun b o hb e => eb b o hb e) f0 f1 f3 f4 f5⟩
  self := fun _ _ _ _ _ st h => wpAny_pyIter_rangeiter st h
end L2

namespace L2
open PySem PySem.Spec PyProof.Rows
section
variable {X : Cx} {tg : Expr}
def iList (K : PySem.W.Frag) (tl : TE) : TI := fun σ H R => tl σ H fun x H1 => ∃ a, x = .ref a ∧ (∃ xs, SqL K H1 a xs) ∧ R (Itl K a) H1
def iTup (K : PySem.W.Frag) (tl : TE) : TI := fun σ H R => tl σ H fun x H1 => ∃ a, x = .ref a ∧ (∃ xs, SqT K H1 a xs) ∧ R (Itt K a) H1
theorem pi_list {l : Expr} {tl : TE} (hl : PE X l tl) : PI X tg l (iList X.K tl) := by
  intro pins s σ H R I h
  refine thn (hl pins s σ H _ I h) fun v s1 ⟨x, H1, I1, r1, q1⟩ => ?_
  obtain ⟨a, e, ⟨xs, hq⟩, q⟩ := q1
  subst e
  cases r1
  obtain ⟨its, rv, p, hz⟩ := I1.list hq
  refine wpAny_pyIter_list p.isList ?_
  refine ⟨s1.heap.objs.size, [s1.heap.objs.size], _, _, H1, rfl, I1.kept (t' := s1.toks) fun b o e => Heap.get?_push_of_some _ e, turn_list a _, ⟨_, Heap.get?_push_size _ rfl, rfl, rfl⟩, fun b hb => ?_, q⟩
  have e : b = s1.heap.objs.size := by simpa using hb
  subst e
  exact I1.fpOk (Nat.le_refl _) (I1.hok.fresh (Nat.le_refl _))
theorem pi_tup {l : Expr} {tl : TE} (hl : PE X l tl) : PI X tg l (iTup X.K tl) := by
  intro pins s σ H R I h
  refine thn (hl pins s σ H _ I h) fun v s1 ⟨x, H1, I1, r1, q1⟩ => ?_
  obtain ⟨a, e, ⟨xs, hq⟩, q⟩ := q1
  subst e
  cases r1
  obtain ⟨its, rv, p, hz⟩ := I1.tuple hq
  refine wpAny_pyIter_tuple (show s1.heap.IsTuple a its.toArray from p) ?_
  refine ⟨s1.heap.objs.size, [s1.heap.objs.size], _, _, H1, rfl, I1.kept (t' := s1.toks) fun b o e => Heap.get?_push_of_some _ e, turn_tuple a _, ⟨_, Heap.get?_push_size _ rfl, rfl, rfl⟩, fun b hb => ?_, q⟩
  have e : b = s1.heap.objs.size := by simpa using hb
  subst e
  exact I1.fpOk (Nat.le_refl _) (I1.hok.fresh (Nat.le_refl _))
/-- a range object just made, walked -/
theorem range_it {pins : List (Addr × Obj)} {σ : St} {H : Hp} {s : Shared} {R : It → Hp → Prop} {E : Value → Shared → Prop} {lo hi : Int} {t u v : Tok} {tk : Nat} (I : Inv X pins σ H s) (h1 : -(2 ^ 62) ≤ lo) (h2 : lo < 2 ^ 62) (h3 : -(2 ^ 62) ≤ hi) (h4 : hi < 2 ^ 62)
    (q : R (Itr lo (hi - lo).toNat) H) : wpAny (model X.prog X.w) X.A (pyIter (.ref s.heap.objs.size)) (PIE X pins σ tg R) E { s with heap := s.heap.push { cls := .type "range", data := .fields #[.int lo t, .int hi u, .int 1 v] }, toks := tk } := by
  refine wpAny_pyIter_range (IsRange.new ..) (small_one h1 h2 h3 h4) ?_
  have I1 : Inv X pins σ H { s with heap := s.heap.push { cls := .type "range", data := .fields #[.int lo t, .int hi u, .int 1 v] }, toks := tk } := I.kept fun b o e => Heap.get?_push_of_some _ e
  refine ⟨(s.heap.push { cls := .type "range", data := .fields #[.int lo t, .int hi u, .int 1 v] }).objs.size, [(s.heap.push { cls := .type "range", data := .fields #[.int lo t, .int hi u, .int 1 v] }).objs.size], _, _, H, rfl,
    I1.kept (t' := tk) fun b o e => Heap.get?_push_of_some _ e, turn_range _ lo (hi - lo).toNat, ?_, fun b hb => ?_, q⟩
  · have e1 : lo + ((0 : Nat) : Int) * 1 = lo := by simp
    have e2 : (((hi - lo).toNat : Nat) : Int) - ((0 : Nat) : Int) = Builtin.Range.rangeSize lo hi 1 := by rw [rangeSize_one]; split <;> omega
    show IsRangeIter _ _ (lo + ((0 : Nat) : Int) * 1) ((((hi - lo).toNat : Nat) : Int) - ((0 : Nat) : Int)) 1
    rw [e1, e2]
    exact Heap.get?_push_size _ rfl
  · have e : b = (s.heap.push { cls := .type "range", data := .fields #[.int lo t, .int hi u, .int 1 v] }).objs.size := by simpa using hb
    subst e
    exact I1.fpOk (Nat.le_refl _) (I1.hok.fresh (Nat.le_refl _))
def iRng1 (ta : TA) : TI := fun σ H R => ta σ H fun vs H1 => ∃ j : Int, vs = [.int j] ∧ -(2 ^ 62) ≤ j ∧ j < 2 ^ 62 ∧ R (Itr 0 j.toNat) H1
theorem pi_range1 {a : Expr} {ta : TA} {p pos : Pos} (hg : Gl X "range") (hm : X.mg "range" = none) (ha : PA X [a] ta) (hs : starEach [a] X.env = [(false, eval a X.env)] := by rfl) : PI X tg (.Call (.Name "range" p) [a] [] pos) (iRng1 ta) := by
  intro pins s σ H R I h
  refine Call_ (ld_blt I hg hm boot_range (PyProof.Rows.callWith_type1 (thn (ha pos pins s σ H _ I h) fun us s1 ⟨vs, H1, I1, r1, q1⟩ => ?_) hs rfl))
  obtain ⟨j, e, q1, q2, q⟩ := q1
  subst e
  cases r1 with
  | cons r rr =>
    cases rr
    obtain ⟨t, rfl⟩ := r
    exact call_range_1 (range_it I1 (by omega) (by omega) q1 q2 (by simpa using q))
/-! ### for -/
/-- W: the invariant by the turn and a measure; N: what the body is to reach -/
def tFor (wi : TI) (g : TG) (tb : TS) : TS := fun D σ H => wi σ H fun J H1 => ∃ W : Nat → Nat → St → Hp → Prop, (∃ m, W 0 m σ H1) ∧ ∀ i m σ H, W i m σ H →
  (J.stop i H ∧ D.nx σ H) ∨ (J.go i H ∧ ∃ N : St → Hp → Prop, (∀ σ' H', N σ' H' → ∃ m', m' < m ∧ W (i + 1) m' σ' H') ∧ ∀ x H', J.yld i H x H' → g x σ H' fun σ2 H2 => tb { D with nx := N, ct := N, bk := D.nx } σ2 H2)
/-- the records at fp as they stand -/
def pinsAt (fp : List Addr) (h : Heap) : List (Addr × Obj) := fp.filterMap fun b => (h.get? b).map fun o => (b, o)
theorem mem_pinsAt {fp : List Addr} {h : Heap} {b : Addr} {o : Obj} (hb : b ∈ fp) (e : h.get? b = some o) : (b, o) ∈ pinsAt fp h := List.mem_filterMap.mpr ⟨b, hb, by rw [e]; rfl⟩
theorem of_pinsAt {fp : List Addr} {h : Heap} {p : Addr × Obj} (hp : p ∈ pinsAt fp h) : p.1 ∈ fp ∧ h.get? p.1 = some p.2 := by
  obtain ⟨b, hb, e⟩ := List.mem_filterMap.mp hp
  cases q : h.get? b with
  | none => rw [q] at e; cases e
  | some o =>
    rw [q] at e
    have e' : (b, o) = p := Option.some.inj e
    subst e'
    exact ⟨hb, q⟩
theorem Inv.pinned {pins : List (Addr × Obj)} {σ : St} {H : Hp} {s : Shared} {fp : List Addr} (I : Inv X pins σ H s) (hf : ∀ b ∈ fp, FpOk X pins H b) (ho : ∀ b ∈ fp, ∃ o, s.heap.get? b = some o ∧ ∀ v, o.data ≠ .cell v) : Inv X (pins ++ pinsAt fp s.heap) σ H s :=
  I.pins_of fun p hp => (List.mem_append.mp hp).elim (fun z => I.pin p (List.mem_append_right _ z)) fun z => by
    obtain ⟨hb, e⟩ := of_pinsAt z
    obtain ⟨f0, f1, f2, _⟩ := hf p.1 hb
    obtain ⟨o, e', d⟩ := ho p.1 hb
    rw [e] at e'; cases e'
    exact ⟨e, f0, f1, f2, d⟩
theorem Inv.unpinned {pins pl : List (Addr × Obj)} {σ : St} {H : Hp} {s : Shared} (I : Inv X (pins ++ pl) σ H s) : Inv X pins σ H s := I.pins_of fun p hp => I.pin p (List.mem_append_right _ (List.mem_append_left _ hp))
theorem ps_for {iter : Expr} {body : List Stmt} {wi : TI} {g : TG} {tb : TS} {pos : Pos} (hp : PassesOwn (model X.prog X.w) X.A X.env X.xe) (hc : X.calm = true) (hi : PI X tg iter wi) (hg : PG X tg g) (hb : PSs X body tb)
    (hs : ∀ x, foldedSetIterable iter X.env x = pure x := by intro _; rfl) : PS X (.For tg iter body [] pos) (tFor wi g tb) := by
  intro pins s σ H D I h
  refine wpAny_For (thn (hi pins s σ H _ I h) fun v s1 h1 => thn h1 fun itv s2 h2 => ?_) hs
  obtain ⟨it, fp, tn, J, H2, e, I2, T, st2, f2, W, ⟨m0, w0⟩, turn⟩ := h2
  subst e
  -- what stays true of the iterator's objects through the loop
  have stat : ∀ {H' : Hp}, (∀ b ∈ fp, H' b = none) → ∀ b ∈ fp, FpOk X pins H' b := fun hn b hb => ⟨hn b hb, (f2 b hb).2⟩
  refine codeAny_forLoop_any (fun n s' => ∃ i σ' H', Inv X pins σ' H' s' ∧ tn i s'.heap ∧ (∀ b ∈ fp, H' b = none) ∧ W i n σ' H') ?_ m0 ⟨0, σ, H2, I2, st2, fun b hb => (f2 b hb).1, w0⟩
  rintro n s3 ⟨i, σ3, H3, I3, st3, fr3, w3⟩
  rcases turn i n σ3 H3 w3 with ⟨stop, qn⟩ | ⟨go, N, hN, step⟩
  · refine wpAny_passesOwn hp (thn (T.done X rfl rfl rfl hc i pins s3 σ3 H3 X.xe I3 (stat fr3) st3 stop) fun r s4 ⟨hr, I4⟩ => ?_)
    subst hr
    exact wpAny_execs_nil ⟨σ3, H3, I4, qn⟩
  · refine wpAny_passesOwn hp (thn (T.item X rfl rfl rfl hc i pins s3 σ3 H3 X.xe I3 (stat fr3) st3 go) fun r s4 ⟨u, hr, h4⟩ => ?_)
    subst hr
    refine wpAny_passesOwn hp (thn h4 fun _ s5 ⟨x, H5, I5, r5, y5, st5, fr5⟩ => ?_)
    have I5' := I5.pinned (stat fr5) (T.obj _ _ st5)
    refine wpAny_passesOwn hp (thn (hg _ s5 σ3 H5 x u _ I5' r5 (step x H5 y5)) fun _ s6 ⟨σ6, H6, I6, q6⟩ => ?_)
    refine wpAny_passesOwn hp (thn (hb _ s6 σ6 H6 _ I6 q6) fun f s7 q7 => ?_)
    have again : ∀ {σ7 : St} {H7 : Hp}, Inv X (pins ++ pinsAt fp s5.heap) σ7 H7 s7 → N σ7 H7 → ∃ m, m < n ∧ ∃ i σ' H', Inv X pins σ' H' s7 ∧ tn i s7.heap ∧ (∀ b ∈ fp, H' b = none) ∧ W i m σ' H' := fun {σ7 H7} I7 n7 => by
      obtain ⟨m', hm, w7⟩ := hN σ7 H7 n7
      refine ⟨m', hm, i + 1, σ7, H7, I7.unpinned, T.keep _ _ _ st5 fun b hb o e => (I7.pin (b, o) (List.mem_append_right _ (List.mem_append_right _ (mem_pinsAt hb e)))).1, fun b hb => ?_, w7⟩
      obtain ⟨o, e, d⟩ := T.obj _ _ st5 b hb
      exact (I7.pin (b, o) (List.mem_append_right _ (List.mem_append_right _ (mem_pinsAt hb e)))).2.1
    cases f with
    | next => obtain ⟨σ7, H7, I7, n7⟩ := q7; exact again I7 n7
    | cont => obtain ⟨σ7, H7, I7, n7⟩ := q7; exact again I7 n7
    | brk => obtain ⟨σ7, H7, I7, q7⟩ := q7; exact ⟨σ7, H7, I7.unpinned, q7⟩
    | ret v => obtain ⟨x7, σ7, H7, I7, r7, q7⟩ := q7; exact ⟨x7, σ7, H7, I7.unpinned, r7, q7⟩
end

/-! ### the forms one uses -/
/-- over a list that the body leaves as it is -/
theorem for_list {K : PySem.W.Frag} {a : Addr} {xs : List V} {g : TG} {tb : TS} {D : Ends} {σ : St} {H : Hp} (Pv : Nat → St → Hp → Prop) (h0 : Pv 0 σ H) (hl : ∀ i σ H, i ≤ xs.length → Pv i σ H → SqL K H a xs)
    (hs : ∀ i x σ H, xs[i]? = some x → Pv i σ H → g x σ H fun σ2 H2 => tb { D with nx := Pv (i + 1), ct := Pv (i + 1), bk := D.nx } σ2 H2) (hd : ∀ σ H, Pv xs.length σ H → D.nx σ H) :
    ∃ W : Nat → Nat → St → Hp → Prop, (∃ m, W 0 m σ H) ∧ ∀ i m σ H, W i m σ H →
      ((Itl K a).stop i H ∧ D.nx σ H) ∨ ((Itl K a).go i H ∧ ∃ N : St → Hp → Prop, (∀ σ' H', N σ' H' → ∃ m', m' < m ∧ W (i + 1) m' σ' H') ∧ ∀ x H', (Itl K a).yld i H x H' → g x σ H' fun σ2 H2 => tb { D with nx := N, ct := N, bk := D.nx } σ2 H2) := by
  refine ⟨fun i m σ H => m = xs.length - i ∧ i ≤ xs.length ∧ Pv i σ H, ⟨xs.length, by simp, Nat.zero_le _, h0⟩, ?_⟩
  rintro i m σ H ⟨rfl, hi, p⟩
  have q := hl i σ H hi p
  by_cases hlt : i < xs.length
  · refine .inr ⟨⟨xs, xs[i], q, by simp [hlt]⟩, Pv (i + 1), fun σ' H' p' => ⟨xs.length - (i + 1), by omega, rfl, hlt, p'⟩, fun x H' y => ?_⟩
    obtain ⟨e, y⟩ := y
    subst e
    exact hs i x σ _ (y xs q) p
  · have e : i = xs.length := by omega
    subst e
    exact .inl ⟨⟨xs, q, Nat.le_refl _⟩, hd σ H p⟩
theorem for_range {lo : Int} {n : Nat} {g : TG} {tb : TS} {D : Ends} {σ : St} {H : Hp} (Pv : Nat → St → Hp → Prop) (h0 : Pv 0 σ H)
    (hs : ∀ i σ H, i < n → Pv i σ H → g (.int (lo + i)) σ H fun σ2 H2 => tb { D with nx := Pv (i + 1), ct := Pv (i + 1), bk := D.nx } σ2 H2) (hd : ∀ σ H, Pv n σ H → D.nx σ H) :
    ∃ W : Nat → Nat → St → Hp → Prop, (∃ m, W 0 m σ H) ∧ ∀ i m σ H, W i m σ H →
      ((Itr lo n).stop i H ∧ D.nx σ H) ∨ ((Itr lo n).go i H ∧ ∃ N : St → Hp → Prop, (∀ σ' H', N σ' H' → ∃ m', m' < m ∧ W (i + 1) m' σ' H') ∧ ∀ x H', (Itr lo n).yld i H x H' → g x σ H' fun σ2 H2 => tb { D with nx := N, ct := N, bk := D.nx } σ2 H2) := by
  refine ⟨fun i m σ H => m = n - i ∧ i ≤ n ∧ Pv i σ H, ⟨n, by simp, Nat.zero_le _, h0⟩, ?_⟩
  rintro i m σ H ⟨rfl, hi, p⟩
  by_cases hlt : i < n
  · refine .inr ⟨hlt, Pv (i + 1), fun σ' H' p' => ⟨n - (i + 1), by omega, rfl, hlt, p'⟩, fun x H' y => ?_⟩
    obtain ⟨e, y⟩ := y
    subst e y
    exact hs i σ _ hlt p
  · have e : i = n := by omega
    subst e
    exact .inl ⟨Nat.le_refl _, hd σ H p⟩
end L2

namespace L2
open PySem PySem.Spec PyProof.Rows

abbrev R2 := V → V → Hp → VK → Prop
/-- a two-place operation on values: f is binaryOp op, inplaceOp op or compareOp op -/
def OpR (X : Cx) (f : Value → Value → Sem Value) (r : R2) : Prop :=
  ∀ (pins : List (Addr × Obj)) (s : Shared) (σ : St) (H : Hp) (x y : V) (v u : Value) (Q : VK), Inv X pins σ H s → RelV x v → RelV y u → r x y H Q →
    wpAny (model X.prog X.w) X.A (f v u) (EP X pins σ Q) X.xe s
/-- a call of a value that is known (a builtin, a type) with values -/
def CallR (X : Cx) (f : Value) (r : List V → Hp → VK → Prop) : Prop :=
  ∀ (pins : List (Addr × Obj)) (s : Shared) (σ : St) (H : Hp) (xs : List V) (us : List Value) (Q : VK), Inv X pins σ H s → Vals xs us → r xs H Q →
    wpAny (model X.prog X.w) X.A (call f us) (EP X pins σ Q) X.xe s
def tOp (r : R2) (ta tb : TE) : TE := fun σ H Q => ta σ H fun x H1 => tb σ H1 fun y H2 => r x y H2 Q
/-- ints in, under C, and a value out -/
def rI (C : Int → Int → Prop) (g : Int → Int → V) : R2 := fun x y H Q => ∃ i j, x = .int i ∧ y = .int j ∧ C i j ∧ Q (g i j) H
def rI0 (g : Int → Int → V) : R2 := fun x y H Q => ∃ i j, x = .int i ∧ y = .int j ∧ Q (g i j) H
section
variable {X : Cx} {a b c : Expr} {ta tb tc : TE} {pos : Pos}

theorem binT (ha : PE X a ta) (hb : PE X b tb) {pins : List (Addr × Obj)} {s : Shared} {σ : St} {H : Hp} {R : V → V → Hp → Prop} (I : Inv X pins σ H s)
    (h : ta σ H fun x H1 => tb σ H1 fun y H2 => R x y H2) {Q : Value → Shared → Prop} {f : Value → Value → Sem Value}
    (hf : ∀ v u s2 x y H2, Inv X pins σ H2 s2 → RelV x v → RelV y u → R x y H2 → wpAny (model X.prog X.w) X.A (f v u) Q X.xe s2) :
    wpAny (model X.prog X.w) X.A (eval a X.env) (fun v s₁ => wpAny (model X.prog X.w) X.A (eval b X.env) (fun u s₂ => wpAny (model X.prog X.w) X.A (f v u) Q X.xe s₂) X.xe s₁) X.xe s := by
  refine thn (ha pins s σ H _ I h) fun v s1 ⟨x, H1, I1, r1, q1⟩ => ?_
  refine thn (hb pins s1 σ H1 _ I1 q1) fun u s2 ⟨y, H2, I2, r2, q2⟩ => ?_
  exact hf v u s2 x y H2 I2 r1 r2 q2

theorem pe_op {op : Operator} {r : R2} (ho : OpR X (binaryOp op) r) (ha : PE X a ta) (hb : PE X b tb) : PE X (.BinOp a op b pos) (tOp r ta tb) := by
  intro pins s σ H Q I h
  exact wpAny_BinOp (binT ha hb I h fun v u s2 x y H2 I2 rx ry q => ho pins s2 σ H2 x y v u Q I2 rx ry q)
/-! ### ints -/
theorem opI {f : Value → Value → Sem Value} {C : Int → Int → Prop} {g : Int → Int → Int}
    (rule : ∀ (i j : Int) (t u : Tok) (s : Shared) (Q : Value → Shared → Prop) (E : Value → Shared → Prop), C i j → Q (.int (g i j) s.toks) { s with toks := s.toks + 1 } → wpAny (model X.prog X.w) X.A (f (.int i t) (.int j u)) Q E s) :
    OpR X f (rI C fun i j => .int (g i j)) := by
  intro pins s σ H x y v u Q I rx ry h
  obtain ⟨i, j, rfl, rfl, hc, q⟩ := h
  obtain ⟨t, rfl⟩ := rx
  obtain ⟨t', rfl⟩ := ry
  exact rule i j t t' s _ _ hc ⟨.int (g i j), H, I.tok _, ⟨_, rfl⟩, q⟩
theorem opI0 {f : Value → Value → Sem Value} {g : Int → Int → Int}
    (rule : ∀ (i j : Int) (t u : Tok) (s : Shared) (Q : Value → Shared → Prop) (E : Value → Shared → Prop), Q (.int (g i j) s.toks) { s with toks := s.toks + 1 } → wpAny (model X.prog X.w) X.A (f (.int i t) (.int j u)) Q E s) :
    OpR X f (rI0 fun i j => .int (g i j)) := by
  intro pins s σ H x y v u Q I rx ry h
  obtain ⟨i, j, rfl, rfl, q⟩ := h
  obtain ⟨t, rfl⟩ := rx
  obtain ⟨t', rfl⟩ := ry
  exact rule i j t t' s _ _ ⟨.int (g i j), H, I.tok _, ⟨_, rfl⟩, q⟩
theorem opB0 {f : Value → Value → Sem Value} {g : Int → Int → Bool}
    (rule : ∀ (i j : Int) (t u : Tok) (s : Shared) (Q : Value → Shared → Prop) (E : Value → Shared → Prop), Q (.bool (g i j)) s → wpAny (model X.prog X.w) X.A (f (.int i t) (.int j u)) Q E s) :
    OpR X f (rI0 fun i j => .bl (g i j)) := by
  intro pins s σ H x y v u Q I rx ry h
  obtain ⟨i, j, rfl, rfl, q⟩ := h
  obtain ⟨t, rfl⟩ := rx
  obtain ⟨t', rfl⟩ := ry
  exact rule i j t t' s _ _ ⟨.bl (g i j), H, I, rfl, q⟩

def CDiv (i j : Int) : Prop := 0 < j ∧ j < 1073741824
def CPow (i j : Int) : Prop := 0 ≤ j ∧ j ≤ 1000000 ∧ i.natAbs < 2 ^ 64
def CMul (i j : Int) : Prop := (-(2 ^ 64) < i ∧ i < 2 ^ 64) ∨ (-(2 ^ 64) < j ∧ j < 2 ^ 64)
theorem CMul.ok {i j : Int} (h : CMul i j) : IntMulOk i j := by
  rcases h with ⟨h1, h2⟩ | ⟨h1, h2⟩
  · exact .of_left (intBits_le_64 h1 h2)
  · exact .of_right (intBits_le_64 h1 h2)
theorem op_add : OpR X (binaryOp .Add) (rI0 fun i j => .int (i + j)) := opI0 fun _ _ _ _ _ _ _ q => add_int q
theorem op_mul : OpR X (binaryOp .Mult) (rI CMul fun i j => .int (i * j)) := opI fun _ _ _ _ _ _ _ hc q => mul_int q hc.ok
/-- // by a positive divisor -/
theorem op_fdiv : OpR X (binaryOp .FloorDiv) (rI CDiv fun i j => .int (i / j)) := opI fun i j _ _ _ _ _ hc q => by
  have h1 : (0 : Int) < j := hc.1
  have h2 : j < 1073741824 := hc.2
  exact floordiv_int (by omega) (by rw [Int.fdiv_eq_ediv_of_nonneg i (by omega)]; exact q) (.inl (PyProof.noPylong_small (by omega)))
/-- % by a positive divisor of any size -/
theorem op_mod : OpR X (binaryOp .Mod) (rI (fun _ j => 0 < j) fun i j => .int (i % j)) := opI fun i j _ _ _ _ _ hc q => by
  have h1 : (0 : Int) < j := hc
  exact mod_int' (by omega) (by rw [Int.fmod_eq_emod_of_nonneg i (by omega)]; exact q)
theorem op_pow : OpR X (binaryOp .Pow) (rI CPow fun i j => .int (i ^ j.toNat)) := opI fun _ _ _ _ _ _ _ hc q => pow_int_small hc.1 hc.2.1 hc.2.2 q
/-! ### bools among ints: n += (a < b) -/
end

/-! ### comparisons -/
/-- the scalars that == tells apart as data does -/
def scal : V → V → Bool
  | .non, .non => true | .non, .int _ => true | .int _, .non => true | .non, .bl _ => true | .bl _, .non => true | .non, .str _ => true | .str _, .non => true
  | .int _, .int _ => true | .bl _, .bl _ => true | .str _, .str _ => true | .byt _, .byt _ => true
  | .int _, .str _ => true | .str _, .int _ => true | .bl _, .str _ => true | .str _, .bl _ => true
  | _, _ => false
def rEq : R2 := fun x y H Q => scal x y = true ∧ Q (.bl (decide (x = y))) H
def rNe : R2 := fun x y H Q => scal x y = true ∧ Q (.bl (!decide (x = y))) H

theorem dec_int {i j : Int} : decide (V.int i = V.int j) = (i == j) := by
  rw [Bool.eq_iff_iff]
  simp
theorem dec_bl {i j : Bool} : decide (V.bl i = V.bl j) = (i == j) := by
  rw [Bool.eq_iff_iff]
  simp
theorem dec_str {i j : Str} : decide (V.str i = V.str j) = (i == j) := by
  rw [Bool.eq_iff_iff]
  simp
theorem dec_byt {i j : Array UInt8} : decide (V.byt i = V.byt j) = (i.toList == j.toList) := by
  rw [Bool.eq_iff_iff]
  cases i
  cases j
  simp

section
variable {X : Cx} {a b c : Expr} {ta tb tc : TE} {pos : Pos}
theorem fin_bl {pins : List (Addr × Obj)} {σ : St} {H : Hp} {s : Shared} {Q : VK} {k k' : Bool} (I : Inv X pins σ H s) (q : Q (.bl k) H) (e : k = k') : EP X pins σ Q (.bool k') s := by
  subst e
  exact ⟨.bl k, H, I, rfl, q⟩
theorem op_eq : OpR X (compareOp .Eq) rEq := by
  intro pins s σ H x y v u Q I rx ry h
  obtain ⟨hs, q⟩ := h
  cases x with
  | non =>
    cases rx
    cases y with
    | non => cases ry; exact PySem.EqNone.eq_none_none (fin_bl I q (by simp))
    | bl j => cases ry; exact PySem.EqNone.eq_none_bool (fin_bl I q (by simp))
    | int j => obtain ⟨t', rfl⟩ := ry; exact PySem.EqNone.eq_none_int (fin_bl I q (by simp))
    | str j => obtain ⟨t', rfl⟩ := ry; exact PySem.EqNone.eq_none_str (fin_bl I q (by simp))
    | _ => exact absurd (show false = true from hs) Bool.false_ne_true
  | bl i =>
    cases rx
    cases y with
    | non => cases ry; exact PySem.EqNone.eq_bool_none (fin_bl I q (by simp))
    | bl j => cases ry; exact eq_bool (fin_bl I q dec_bl)
    | str j => obtain ⟨t', rfl⟩ := ry; exact PySem.EqMixed.eq_bool_str (fin_bl I q (by simp))
    | _ => exact absurd (show false = true from hs) Bool.false_ne_true
  | int i =>
    obtain ⟨t, rfl⟩ := rx
    cases y with
    | non => cases ry; exact PySem.EqNone.eq_int_none (fin_bl I q (by simp))
    | int j => obtain ⟨t', rfl⟩ := ry; exact eq_int (fin_bl I q dec_int)
    | str j => obtain ⟨t', rfl⟩ := ry; exact PySem.EqMixed.eq_int_str (fin_bl I q (by simp))
    | _ => exact absurd (show false = true from hs) Bool.false_ne_true
  | str i =>
    obtain ⟨t, rfl⟩ := rx
    cases y with
    | non => cases ry; exact PySem.EqNone.eq_str_none (fin_bl I q (by simp))
    | bl j => cases ry; exact PySem.EqMixed.eq_str_bool (fin_bl I q (by simp))
    | int j => obtain ⟨t', rfl⟩ := ry; exact PySem.EqMixed.eq_str_int (fin_bl I q (by simp))
    | str j => obtain ⟨t', rfl⟩ := ry; exact eq_str (fin_bl I q dec_str)
    | _ => exact absurd (show false = true from hs) Bool.false_ne_true
  | byt i =>
    obtain ⟨t, rfl⟩ := rx
    cases y with
    | byt j => obtain ⟨t', rfl⟩ := ry; exact PySem.W.eq_bytes (fin_bl I q dec_byt)
    | _ => exact absurd (show false = true from hs) Bool.false_ne_true
  | _ => cases y <;> exact absurd (show false = true from hs) Bool.false_ne_true
theorem op_ne : OpR X (compareOp .NotEq) rNe := by
  intro pins s σ H x y v u Q I rx ry h
  obtain ⟨hs, q⟩ := h
  cases x with
  | non =>
    cases rx
    cases y with
    | non => cases ry; exact PySem.EqNone.ne_none_none (fin_bl I q (by simp))
    | bl j => cases ry; exact PySem.EqNone.ne_none_bool (fin_bl I q (by simp))
    | int j => obtain ⟨t', rfl⟩ := ry; exact PySem.EqNone.ne_none_int (fin_bl I q (by simp))
    | str j => obtain ⟨t', rfl⟩ := ry; exact PySem.EqNone.ne_none_str (fin_bl I q (by simp))
    | _ => exact absurd (show false = true from hs) Bool.false_ne_true
  | bl i =>
    cases rx
    cases y with
    | non => cases ry; exact PySem.EqNone.ne_bool_none (fin_bl I q (by simp))
    | bl j => cases ry; exact ne_bool (fin_bl I q (congrArg not dec_bl))
    | str j => obtain ⟨t', rfl⟩ := ry; exact PySem.EqMixed.ne_bool_str (fin_bl I q (by simp))
    | _ => exact absurd (show false = true from hs) Bool.false_ne_true
  | int i =>
    obtain ⟨t, rfl⟩ := rx
    cases y with
    | non => cases ry; exact PySem.EqNone.ne_int_none (fin_bl I q (by simp))
    | int j => obtain ⟨t', rfl⟩ := ry; exact ne_int (fin_bl I q (congrArg not dec_int))
    | str j => obtain ⟨t', rfl⟩ := ry; exact PySem.EqMixed.ne_int_str (fin_bl I q (by simp))
    | _ => exact absurd (show false = true from hs) Bool.false_ne_true
  | str i =>
    obtain ⟨t, rfl⟩ := rx
    cases y with
    | non => cases ry; exact PySem.EqNone.ne_str_none (fin_bl I q (by simp))
    | bl j => cases ry; exact PySem.EqMixed.ne_str_bool (fin_bl I q (by simp))
    | int j => obtain ⟨t', rfl⟩ := ry; exact PySem.EqMixed.ne_str_int (fin_bl I q (by simp))
    | str j => obtain ⟨t', rfl⟩ := ry; exact ne_str (fin_bl I q (congrArg not dec_str))
    | _ => exact absurd (show false = true from hs) Bool.false_ne_true
  | byt i =>
    obtain ⟨t, rfl⟩ := rx
    cases y with
    | byt j => obtain ⟨t', rfl⟩ := ry; exact PySem.W.ne_bytes (fin_bl I q (congrArg not dec_byt))
    | _ => exact absurd (show false = true from hs) Bool.false_ne_true
  | _ => cases y <;> exact absurd (show false = true from hs) Bool.false_ne_true

theorem op_lt : OpR X (compareOp .Lt) (rI0 fun i j => .bl (decide (i < j))) := opB0 fun _ _ _ _ _ _ _ q => lt_int q
theorem op_le : OpR X (compareOp .LtE) (rI0 fun i j => .bl (decide (i ≤ j))) := opB0 fun _ _ _ _ _ _ _ q => le_int q
/-- the one string within the other -/
theorem op_in_str : OpR X (compareOp .In) (fun x y H Q => ∃ i j, x = .str i ∧ y = .str j ∧ Q (.bl (!(Builtin.Str.occurrences j i 0 j.length 1).isEmpty)) H) := by
  intro pins s σ H x y v u Q I rx ry h
  obtain ⟨i, j, rfl, rfl, q⟩ := h
  obtain ⟨t, rfl⟩ := rx
  obtain ⟨t', rfl⟩ := ry
  exact in_str (fin_bl I q rfl)

theorem nomark (b : Expr) {op : CmpOp} (h : op ≠ .In := by decide) (h2 : op ≠ .NotIn := by decide) : behindInMarks op b = false := by
  have e1 : (op == CmpOp.In) = false := by cases op <;> first | rfl | exact absurd rfl h
  have e2 : (op == CmpOp.NotIn) = false := by cases op <;> first | rfl | exact absurd rfl h2
  cases b <;> simp [behindInMarks, e1, e2]
/-- a comparison as a value; hm: nomark b, or (for in, not in) by with_unfolding_all rfl -/
theorem pe_cmpR {op : CmpOp} {r : R2} (ho : OpR X (compareOp op) r) (ha : PE X a ta) (hb : PE X b tb) (hm : behindInMarks op b = false) : PE X (.Compare a [op] [b] pos) (tOp r ta tb) := by
  intro pins s σ H Q I h
  exact wpAny_Compare1 (binT ha hb I h fun v u s2 x y H2 I2 rx ry q => ho pins s2 σ H2 x y v u Q I2 rx ry q) hm
/-- a reading of a value as a test -/
def tTest (t : TE) : TT := fun σ H Q => t σ H fun x H' => ∃ k, x = .bl k ∧ Q k H'
theorem pt_cmpR {op : CmpOp} {r : R2} (ho : OpR X (compareOp op) r) (ha : PE X a ta) (hb : PE X b tb) (hm : behindInMarks op b = false) : PT X (.Compare a [op] [b] pos) (tTest (tOp r ta tb)) := by
  intro pins s σ H Q I h
  refine wpAny_isTrue_Compare1 (thn (ha pins s σ H _ I h) fun v s1 ⟨x, H1, I1, r1, q1⟩ => thn (hb pins s1 σ H1 _ I1 q1) fun u s2 ⟨y, H2, I2, r2, q2⟩ =>
    thn (ho pins s2 σ H2 x y v u _ I2 r1 r2 q2) fun c s3 ⟨z, H3, I3, r3, k, e, q3⟩ => ?_) hm
  subst e
  cases r3
  exact wpAny_truthy_bool ⟨H3, I3, q3⟩
/-- a op1 b op2 c -/
def tChain (r r' : R2) (ta tb tc : TE) : TE := fun σ H Q => ta σ H fun x H1 => tb σ H1 fun y H2 => r x y H2 fun z H3 => ∃ k, z = .bl k ∧
  (if k = true then tc σ H3 fun w' H4 => r' y w' H4 Q else Q (.bl false) H3)
theorem pt_chain {op op' : CmpOp} {r r' : R2} (ho : OpR X (compareOp op) r) (ho' : OpR X (compareOp op') r') (ha : PE X a ta) (hb : PE X b tb) (hc : PE X c tc)
    (hm : lastMarks [op, op'] [b, c] = false := by with_unfolding_all rfl) : PT X (.Compare a [op, op'] [b, c] pos) (tTest (tChain r r' ta tb tc)) := by
  intro pins s σ H Q I h
  refine isTrue_chain (thn (ha pins s σ H _ I h) fun v s1 ⟨x, H1, I1, r1, q1⟩ => test_link (thn (hb pins s1 σ H1 _ I1 q1) fun u s2 ⟨y, H2, I2, r2, q2⟩ =>
    thn (ho pins s2 σ H2 x y v u _ I2 r1 r2 q2) fun d s3 ⟨z, H3, I3, r3, k, e, q3⟩ => ?_)) hm
  subst e
  cases r3
  refine wpAny_truthy_bool ?_
  cases k with
  | false =>
    obtain ⟨k', e', q'⟩ := q3
    cases e'
    exact ite_ff ⟨H3, I3, q'⟩
  | true =>
    refine ite_tt (test_last (thn (hc pins s3 σ H3 _ I3 q3) fun w' s4 ⟨z', H4, I4, r4, q4⟩ => thn (ho' pins s4 σ H4 y z' u w' _ I4 r2 r4 q4) fun d' s5 ⟨z2, H5, I5, r5, k2, e2, q5⟩ => ?_))
    subst e2
    cases r5
    exact wpAny_truthy_bool ⟨H5, I5, q5⟩

/-! ### truth -/
theorem line63 : (sizeLine : Nat) < 2 ^ 63 := by rw [sizeLine_eq]; decide
/-! ### strs and bytes -/
/-! ### scalar builtins, by CallR -/
theorem vals1 {x : V} {us : List Value} (r : Vals [x] us) : ∃ u, us = [u] ∧ RelV x u := by
  cases r with
  | cons r1 r2 => cases r2; exact ⟨_, rfl, r1⟩
theorem call_str_int : CallR X (.type "str") (fun xs H Q => ∃ i, xs = [.int i] ∧ i.natAbs.log2 < 1920 ∧ Q (.str (toString i)) H) := by
  intro pins s σ H xs us Q I r h
  obtain ⟨i, rfl, hz, q⟩ := h
  obtain ⟨u, rfl, t, rfl⟩ := vals1 r
  exact PySem.P.str_of_int hz ⟨.str _, H, I.tok _, ⟨_, rfl⟩, q⟩
end
end L2

namespace L2
open PySem PySem.Spec PyProof.Rows

/-! ### an instance, its attributes a map -/
structure ObjM (h : Heap) (x dx C : Addr) (mA : Str → Option Value) : Prop where
  obj : h.get? x = some (PySem.W.instObj C dx)
  ns : h.Ns1 dx mA
  ne : dx ≠ x

theorem lookIn_ns {h : Heap} {dx : Addr} {mA : Str → Option Value} (n : h.Ns1 dx mA) : ∃ od, h.get? dx = some od ∧ ∀ name, PySem.W.lookIn name od = some (mA name) := by
  obtain ⟨o, es, ep, ho, hd, hk, _, hm⟩ := n
  refine ⟨o, ho, fun name => ?_⟩
  have e := hm name
  unfold nsFind findBy at e
  rw [← Array.find?_toList] at e
  unfold PySem.W.lookIn
  rw [hd]
  dsimp only
  split
  · rename_i y q
    rw [q] at e
    exact congrArg some e
  · rename_i q
    rw [q] at e
    have a : es.toList.any (·.refKey) = false := by
      rw [List.any_eq_false]
      intro y hy
      obtain ⟨z, t, hkey⟩ := hk y (Array.mem_toList_iff.mp hy)
      simp [DictEntry.refKey, hkey]
    have a' : ¬ es.toList.any (·.refKey) = true := by rw [a]; exact Bool.false_ne_true
    rw [if_neg a']
    exact congrArg some e

theorem ObjM.look {h : Heap} {x dx C : Addr} {mA : Str → Option Value} (I : ObjM h x dx C mA) : ∃ od, PySem.W.InstAt h x (PySem.W.instObj C dx) C (some od) ∧ ∀ name, PySem.W.lookIn name od = some (mA name) :=
  let ⟨od, ho, hl⟩ := lookIn_ns I.ns
  ⟨od, ⟨I.obj, rfl, rfl, ho⟩, hl⟩


/-! ### the attributes as a list of pairs -/
section
variable {P : Program} {w : World} {H H' : Hp} {h h' : Heap} {a C dx : Addr} {fs fs' : List (Str × V)}
theorem ins_get (hok : HOk P w H h) (e : H a = some (.ins C dx fs)) : ∃ mA, ObjM h a dx C mA ∧ (∀ f, RelO (fs.lookup f) (mA f)) ∧ PySem.Within mA (fs.map (·.1)) ∧ fs.length ≤ 1000 ∧ H dx = some (.own a) := by
  obtain ⟨d, z, ne, ob, mA, n, r, q⟩ := (show ObjOk P w H h a (.ins C dx fs) from hok a _ e)
  exact ⟨mA, ⟨ob, n, ne⟩, r, q, z, d⟩
end

/-! ### what of the text a class must have -/
structure Cls (K : PySem.W.Frag) (C : Addr) : Prop where
  pg : PySem.W.plainGet K C Str.empty = true
  hd : PySem.W.hasDictIn K C = true
  po : PySem.W.plainOver K C = true
  sa : PySem.W.findIn K (.ref C) "__setattr__" = some (some (.builtin "object.__setattr__"))
theorem Cls.get {K : PySem.W.Frag} {C : Addr} (c : Cls K C) (f : Str) : PySem.W.plainGet K C f = true := c.pg

/-! ### readings and rules -/

/-! ### isinstance -/
section
variable {X : Cx} {pins : List (Addr × Obj)} {σ : St} {H : Hp} {s : Shared} {A : Around} {E : Value → Shared → Prop} {Q : Value → Shared → Prop} {c : Value} {b : Bool}
/-- the type of a value, as the fragment's deciders take it; for an instance its class -/
inductive TyOf (K : PySem.W.Frag) (H : Hp) : V → Value → Prop where
  | non : TyOf K H .non (.type "NoneType")
  | bl (x : Bool) : TyOf K H (.bl x) (.type "bool")
  | int (i : Int) : TyOf K H (.int i) (.type "int")
  | str (x : Str) : TyOf K H (.str x) (.type "str")
  | flt (x : UInt64) : TyOf K H (.flt x) (.type "float")
  | lst {a : Addr} {xs : List V} (e : H a = some (.lst xs)) : TyOf K H (.ref a) (.type "list")
  | frz {a : Addr} {o : Obj} {xs : List V} (e : H a = some (.frz o (.lst xs))) : TyOf K H (.ref a) (.type "list")
  | tup {a : Addr} {xs : List V} (e : H a = some (.tup xs)) : TyOf K H (.ref a) (.type "tuple")
  | dK {a : Addr} {kvs : List (Key × V)} (e : H a = some (.dK kvs)) : TyOf K H (.ref a) (.type "dict")
  | dT {a : Addr} {kvs : List (List Key × V)} (e : H a = some (.dT kvs)) : TyOf K H (.ref a) (.type "dict")
  | ins {a C dx : Addr} {fs : List (Str × V)} (e : H a = some (.ins C dx fs)) (cl : Cls K C) (ha : PySem.W.findIn K (.ref C) "__class__" = some (some (.builtin "object.__class__")))
      (hn : PySem.W.specialIn K (.builtin "object.__class__") "__get__" = some (some (.builtin "getset_descriptor.__get__"))) (htk : PySem.W.takesIn K (.builtin "object.__class__") = some true)
      (hm : PySem.W.mroIn K C (.type "object") = some true) : TyOf K H (.ref a) (.ref C)
/-- isinstance(x, c) for one class c, a built-in or an own one: kitOne's answer -/
theorem isinst_ok {x : V} {u t : Value} (I : Inv X pins σ H s) (rx : RelV x u) (ty : TyOf X.K H x t) (e : PySem.W.kitOne X.K t c = some b) (h : ∀ tk, Q (.bool b) { s with toks := tk }) :
    wpAny (model X.prog X.w) A (call (.builtin "isinstance") [u, c]) Q E s := by
  cases ty with
  | non => cases (show u = Value.none from rx); exact PySem.W.kia_one PySem.W.kitx_none I.kIn True.intro e (fun z => nomatch z) h
  | bl y => cases (show u = Value.bool y from rx); exact PySem.W.kia_one PySem.W.kitx_bool I.kIn True.intro e (fun z => nomatch z) h
  | int i => obtain ⟨t, q⟩ := (show ∃ t, u = Value.int i t from rx); cases q; exact PySem.W.kia_one PySem.W.kitx_int I.kIn True.intro e (fun z => nomatch z) h
  | str y => obtain ⟨t, q⟩ := (show ∃ t, u = Value.str y t from rx); cases q; exact PySem.W.kia_one PySem.W.kitx_str I.kIn True.intro e (fun z => nomatch z) h
  | flt y => obtain ⟨t, q⟩ := (show ∃ t, u = Value.float y t from rx); cases q; exact PySem.W.kia_one PySem.W.kitx_float I.kIn True.intro e (fun z => nomatch z) h
  | @lst a xs ea =>
    cases (show u = Value.ref a from rx)
    obtain ⟨_, _, n, _, h1⟩ := (show ObjOk X.prog X.w H s.heap a (.lst xs) from I.hok a _ ea)
    exact PySem.W.kia_one PySem.W.kitx_list I.kIn ⟨_, h1, rfl⟩ e (fun z => nomatch z) h
  | @frz a ob xs ea =>
    cases (show u = Value.ref a from rx)
    obtain ⟨_, _, _, n, _, h1⟩ := (show ObjOk X.prog X.w H s.heap a (.frz ob (.lst xs)) from I.hok a _ ea)
    exact PySem.W.kia_one PySem.W.kitx_list I.kIn ⟨_, h1, rfl⟩ e (fun z => nomatch z) h
  | @tup a xs ea =>
    cases (show u = Value.ref a from rx)
    obtain ⟨_, _, _, p⟩ := (show ObjOk X.prog X.w H s.heap a (.tup xs) from I.hok a _ ea)
    obtain ⟨o, h1, h2, _⟩ := p
    exact PySem.W.kia_one PySem.W.kitx_tuple I.kIn ⟨o, h1, h2⟩ e (fun z => nomatch z) h
  | @dK a kvs ea =>
    cases (show u = Value.ref a from rx)
    obtain ⟨_, _, vs, _, p⟩ := (show ObjOk X.prog X.w H s.heap a (.dK kvs) from I.hok a _ ea)
    obtain ⟨o, es, ep, h1, h2, _⟩ := p
    exact PySem.W.kia_one PySem.W.kitx_dict I.kIn ⟨o, h1, h2.1⟩ e (fun z => nomatch z) h
  | @dT a kvs ea =>
    cases (show u = Value.ref a from rx)
    obtain ⟨_, _, xs, _, o, es, ep, h1, h2, _⟩ := (show ObjOk X.prog X.w H s.heap a (.dT kvs) from I.hok a _ ea)
    exact PySem.W.kia_one PySem.W.kitx_dict I.kIn ⟨o, h1, h2.1⟩ e (fun z => nomatch z) h
  | @ins a C dx fs ea cl ha hn htk hm =>
    cases (show u = Value.ref a from rx)
    obtain ⟨mA, O, _⟩ := ins_get I.hok ea
    obtain ⟨od, J, _⟩ := O.look
    exact PySem.W.kia_one (PySem.W.kitx_own (cl.get _) cl.hd ha hn htk hm) I.kIn J e (fun z => nomatch z) h
end
end L2

namespace L2
open PySem PySem.Spec PyProof.Rows

/-! ### room -/
structure Room (k : Nat) (A : Around) : Prop where
  hd : A.handled = none
  dp : A.depth + 3 * k + 5 < recursionLimit
  un : A.units + 16 * k + 200 < cLine
theorem Room.mono {j k : Nat} {A : Around} (r : Room k A) (h : j ≤ k) : Room j A := ⟨r.hd, by have := r.dp; omega, by have := r.un; omega⟩
theorem Room.deeper {k : Nat} {A : Around} (r : Room (k + 1) A) (env : Env) : Room k (A.deeper env) :=
  ⟨r.hd, by have := r.dp; show A.depth + 1 + 3 * k + 5 < _; omega, by have := r.un; show A.units + 3 + 16 * k + 200 < _; omega⟩
theorem Room.depth {k : Nat} {A : Around} (r : Room k A) : A.depth < recursionLimit := by have := r.dp; omega
theorem Room.units {k : Nat} {A : Around} (r : Room k A) : A.units + 64 < cLine := by have := r.un; omega
/-! ### argument lists and displays -/
def tNil : TA := fun _ H Q => Q [] H
def tCons (ta : TE) (tr : TA) : TA := fun σ H Q => ta σ H fun x H1 => tr σ H1 fun xs H2 => Q (x :: xs) H2
section
variable {X : Cx} {e : Expr} {es : List Expr} {te : TE} {t : TA} {pos : Pos}
theorem pa_nil : PA X [] tNil := fun _ _ _ _ H Q I h => Calls.spliced_nil ⟨[], H, I, .nil, h⟩
theorem pa_cons (ha : PE X e te) (hr : PA X es t) (hs : starEach (e :: es) X.env = (false, eval e X.env) :: starEach es X.env := by rfl) : PA X (e :: es) (tCons te t) := by
  intro pos pins s σ H Q I h
  rw [hs]
  show wpAny _ _ (spliced ((false, eval e X.env) :: backTo pos (starEach es X.env))) _ _ s
  refine Calls.spliced_cons (thn (ha pins s σ H _ I h) fun u s1 ⟨x, H1, I1, r1, q1⟩ => ?_)
  exact thn (hr pos pins s1 σ H1 _ I1 q1) fun us s2 ⟨xs, H2, I2, r2, q2⟩ => ⟨x :: xs, H2, I2, .cons r1 r2, q2⟩

/-- a tuple, a list of written items -/
def tTup (t : TA) : TE := fun σ H Q => t σ H fun xs H1 => xs.length ≤ sizeLine ∧ ∀ p, H1 p = none → Q (.ref p) (upd H1 p (.tup xs))
def tLst (t : TA) : TE := fun σ H Q => t σ H fun xs H1 => xs.length ≤ sizeLine ∧ ∀ p, H1 p = none → Q (.ref p) (upd H1 p (.lst xs))
theorem pe_tup {x1} (h : PA X es t) : PE X (.Tuple es x1 pos) (tTup t) := by
  intro pins s σ H Q I hq
  refine wpAny_Tuple_spliced (thn (h pos pins s σ H _ I hq) fun us s1 ⟨xs, H1, I1, r, z, q⟩ => ⟨by rw [← r.length]; exact z, ?_⟩)
  have hf : H1 s1.heap.objs.size = none := I1.hok.fresh (Nat.le_refl _)
  refine ⟨.ref s1.heap.objs.size, upd H1 s1.heap.objs.size (.tup xs), I1.laid (t' := s1.toks) (fun b u e => Heap.get?_push_of_some _ e) (Nat.le_refl _) ?_, rfl, q _ hf⟩
  exact ⟨z, us, r, ⟨_, Heap.get?_push_size _ rfl, rfl, _, rfl⟩⟩
theorem pe_lst (h : PA X es t) : PE X (.List es pos) (tLst t) := by
  intro pins s σ H Q I hq
  refine wpAny_List_spliced (thn (h pos pins s σ H _ I hq) fun us s1 ⟨xs, H1, I1, r, z, q⟩ => ⟨by rw [← r.length]; exact z, ?_⟩)
  have hf : H1 s1.heap.objs.size = none := I1.hok.fresh (Nat.le_refl _)
  refine ⟨.ref s1.heap.objs.size, upd H1 s1.heap.objs.size (.lst xs), I1.laid (t' := s1.toks) (fun b u e => Heap.get?_push_of_some _ e) (Nat.le_refl _) ?_, rfl, q _ hf⟩
  exact ⟨z, us, 0, r, Heap.get?_push_size _ rfl⟩
end

/-! ### what a def promises -/
/-- a def's promise: the bound arguments in the parameters' order, the heap, the wanted end, the wanted exception -/
abbrev Sp := List V → Hp → VK → XK → Prop
/-- how an exception lies behind a call (file 08 gives it): the callers' frames, abstract heap and state ahead of the call, the wish, the exception, the state -/
abbrev CXT := List Env → Hp → Shared → XK → Value → Shared → Prop

/-- the state at a call -/
structure Env0 (P : Program) (w : World) (K : PySem.W.Frag) (mg : Str → Option Value) (base : Heap) (A : Around) (outer : List Env) (s : Shared) (H : Hp) : Prop where
  frames : A.frames = some outer
  mod : Mod K mg base
  bs : ∀ b o, base.get? b = some o → s.heap.get? b = some o ∧ H b = none
  bsz : base.objs.size ≤ s.heap.objs.size
  funs : s.heap.FunFrames base outer
  frf : ∀ b ∈ frs outer, H b = none
  hok : HOk P w H s.heap
  bare : AllBare s.gens
/-- a call's end -/
def CE (outer : List Env) (P : Program) (w : World) (H : Hp) (s : Shared) (Q : VK) (u : Value) (s' : Shared) : Prop :=
  ∃ v H', s'.os = s.os ∧ AllBare s'.gens ∧ Un (frs outer) [] H H' s.heap s'.heap ∧ HOk P w H' s'.heap ∧ RelV v u ∧ Q v H'
def CR (CX : CXT) (outer : List Env) (P : Program) (w : World) (H : Hp) (s : Shared) (Q : VK) (E : XK) (r : Result) (s' : Shared) : Prop :=
  match r with
  | .ok (.ret u) => CE outer P w H s Q u s'
  | .ok _ => False
  | .error e => CX outer H s E e s'
structure FnOk (P : Program) (w : World) (K : PySem.W.Frag) (mg : Str → Option Value) (base : Heap) (CX : CXT) (k : Nat) (f : Addr) (fd : FuncData) (ps : List Str) (sp : Sp) : Prop where
  len : ∀ vs H Q E, sp vs H Q E → vs.length = ps.length
  run : ∀ (A : Around) (outer : List Env) (s : Shared) (H : Hp) (args : Args) (us : List Value) (vs : List V) (Q : VK) (E : XK), Room k A → Env0 P w K mg base A outer s H → BindsTo s fd args (ps.zip us) → Vals vs us → sp vs H Q E →
    codeAny (model P w) A (.call (.ref f) args) (CR CX outer P w H s Q E) s
section
variable {X : Cx} {pins : List (Addr × Obj)} {σ : St} {H : Hp} {s s' : Shared}
/-- from a body: what a callee wants -/
theorem Inv.env0 (I : Inv X pins σ H s) : Env0 X.prog X.w X.K X.mg X.base X.A X.stack s H :=
  ⟨I.ok.frames, I.ok.mod, I.bs, Nat.le_trans I.ok.bsz I.sz, I.stack, I.stkFree, I.hok, I.bare⟩
/-- behind a call -/
theorem Inv.after {Q : VK} {u : Value} (I : Inv X pins σ H s) (h : CE X.stack X.prog X.w H s Q u s') : EP X pins σ Q u s' := by
  obtain ⟨v, H', os, bare, un, hok, r, q⟩ := h
  obtain ⟨hh, g, d, t, os'⟩ := s'
  obtain rfl : os' = s.os := os
  exact ⟨v, H', I.call (h' := hh) (g' := g) (d' := d) (t' := t) (ch := []) un hok bare (fun b z => absurd z (by simp)), r, q⟩
end

/-! ### calls -/
/-- f(..): the written arguments, then the defaults dvs; E: what is wanted of an exception -/
def tCall (sp : Sp) (dvs : List V) (E : XK) (t : TA) : TE := fun σ H Q => t σ H fun vs H1 => sp (vs ++ dvs) H1 Q E
/-- how the parameters are bound: us the positional arguments, kw the keywords' values by name, ds the defaults that fill up -/
def Binds (K : PySem.W.Frag) (fd : FuncData) (ps : List Str) (ds : List Value) : Prop :=
  ∀ (s : Shared) (us : List Value), K.In s.heap → (us ++ ds).length = ps.length → BindsTo s fd ⟨us, []⟩ (ps.zip (us ++ ds))
/-- every parameter is given -/
theorem Binds.all {K : PySem.W.Frag} {fd : FuncData} {ps : List Str} (h : ∀ us : List Value, us.length = ps.length → bindArgs fd ⟨us, []⟩ = pure (ps.zip us)) : Binds K fd ps [] := fun s us _ hl => by
  rw [List.append_nil] at hl ⊢
  exact .of_eq (h us hl)

/-- an exception of a callee reaches what this body wants of exceptions -/
def Passes (CX : CXT) (X : Cx) (E : XK) : Prop := ∀ (pins : List (Addr × Obj)) (σ : St) (H : Hp) (s : Shared) (e : Value) (s' : Shared), Inv X pins σ H s → CX X.stack H s E e s' → X.xe e s'

section
variable {X : Cx} {CX : CXT} {k : Nat} {f C : Addr} {fd : FuncData} {ps : List Str} {sp : Sp} {dvs : List V} {ds : List Value} {E : XK} {x m : Str} {p pos apos : Pos} {e o : Expr} {es : List Expr} {ta : TE} {t : TA}

/-- the callee runs -/
theorem run_fn {pins : List (Addr × Obj)} {σ : St} {H : Hp} {s : Shared} {Q : VK} {us : List Value} {vs : List V} (F : FnOk X.prog X.w X.K X.mg X.base CX k f fd ps sp) (hr : Room k X.A) (hb : Binds X.K fd ps ds) (hd : Vals dvs ds) (hx : Passes CX X E)
    (I : Inv X pins σ H s) (r : Vals vs us) (h : sp (vs ++ dvs) H Q E) : wpAny (model X.prog X.w) X.A (call (.ref f) us) (EP X pins σ Q) X.xe s := by
  have r2 : Vals (vs ++ dvs) (us ++ ds) := r.append hd
  have hl : (us ++ ds).length = ps.length := by rw [← r2.length]; exact F.len _ _ _ _ h
  refine wpAny_call (codeAny_mono (F.run X.A X.stack s H ⟨us, []⟩ (us ++ ds) (vs ++ dvs) Q E hr I.env0 (hb s us I.kIn hl) r2 h) fun r s' hq => ?_)
  cases r with
  | error e => exact hx pins σ H s e s' I hq
  | ok fl =>
    cases fl with
    | ret u => exact I.after hq
    | next => exact False.elim hq
    | brk => exact False.elim hq
    | cont => exact False.elim hq

theorem pe_call (F : FnOk X.prog X.w X.K X.mg X.base CX k f fd ps sp) (hr : Room k X.A) (hg : Gl X x) (hm : X.mg x = some (.ref f)) (hk : PySem.W.keepIn X.K (.ref f) = true) (hb : Binds X.K fd ps ds) (hd : Vals dvs ds) (hx : Passes CX X E)
    (ha : PA X (e :: es) t) (hdb : (x == ("__debug__" : Str)) = false := by decide) (he : starEach (e :: es) X.env = (false, eval e X.env) :: starEach es X.env := by rfl) (hpl : (backTo pos (starEach es X.env)).any (·.1) = false := by rfl) :
    PE X (.Call (.Name x p) (e :: es) [] pos) (tCall sp dvs E t) := by
  intro pins s σ H Q I h
  refine wpAny_Call_Name_kw (ld_glob I hg hm ?_ hdb)
  refine PySem.W.callWith_K (h₀ := X.base) I.ok.mod.kin hk (thn (ha pos pins s σ H _ I h) fun us s1 ⟨vs, H1, I1, r, q⟩ => ⟨I1.kIn, ?_⟩) he hpl
  exact run_fn F hr hb hd hx I1 r q
end

/-! ### keywords -/

/-! ### a def's body keeps its promise -/
/-- names: the parameters first -/
structure FnScope (N P : List Str) (sc : Scope) : Prop where
  kind : sc.kind = .function
  co : sc.isCoroutine = false
  gen : sc.isGenerator = false
  nd : N.Nodup
  pre : N.take P.length = P
  par : ∀ x ∈ P, sc.names.lookup x = some .local ∨ sc.names.lookup x = some .cell
  nofree : ∀ y ∈ sc.names, y.2 ≠ .free

theorem bindL_out {kindOf : Str → Option NameKind} {x : Str} : ∀ {binds : List (Str × Value)} {m : Str → Option Value}, (∀ v, (x, v) ∉ binds) → bindL kindOf binds m x = m x
  | [], _, _ => rfl
  | (n, v) :: r, m, h => by
    unfold bindL
    rw [bindL_out fun w hw => h w (List.mem_cons_of_mem _ hw)]
    split
    · have : x ≠ n := by rintro rfl; exact h v List.mem_cons_self
      simp [this]
    · rfl
theorem bindC_out {kindOf : Str → Option NameKind} {x : Str} : ∀ {binds : List (Str × Value)} {m : Str → Option Value}, (∀ v, (x, v) ∉ binds) → bindC kindOf binds m x = m x
  | [], _, _ => rfl
  | (n, v) :: r, m, h => by
    unfold bindC
    rw [bindC_out fun w hw => h w (List.mem_cons_of_mem _ hw)]
    split
    · rfl
    · have : x ≠ n := by rintro rfl; exact h v List.mem_cons_self
      simp [this]
theorem bindL_get {kindOf : Str → Option NameKind} {x : Str} {v : Value} : ∀ {P : List Str} {vs : List Value} {i : Nat} {m : Str → Option Value}, P.Nodup → P[i]? = some x → vs[i]? = some v → kindOf x = some .local →
    bindL kindOf (P.zip vs) m x = some v
  | [], _, _, _, _, h, _, _ => by simp at h
  | _ :: _, [], _, _, _, _, h, _ => by simp at h
  | p :: P, w :: vs, 0, m, nd, h1, h2, hk => by
    simp at h1 h2; subst h1; subst h2
    show bindL kindOf ((p, w) :: P.zip vs) m p = _
    unfold bindL
    rw [bindL_out fun v hv => (List.nodup_cons.mp nd).1 (List.of_mem_zip hv).1, if_pos hk]
    simp
  | p :: P, w :: vs, i + 1, m, nd, h1, h2, hk => by
    show bindL kindOf ((p, w) :: P.zip vs) m x = _
    unfold bindL
    exact bindL_get (i := i) (List.nodup_cons.mp nd).2 (by simpa using h1) (by simpa using h2) hk
theorem bindC_get {kindOf : Str → Option NameKind} {x : Str} {v : Value} : ∀ {P : List Str} {vs : List Value} {i : Nat} {m : Str → Option Value}, P.Nodup → P[i]? = some x → vs[i]? = some v → kindOf x ≠ some .local →
    bindC kindOf (P.zip vs) m x = some v
  | [], _, _, _, _, h, _, _ => by simp at h
  | _ :: _, [], _, _, _, _, h, _ => by simp at h
  | p :: P, w :: vs, 0, m, nd, h1, h2, hk => by
    simp at h1 h2; subst h1; subst h2
    show bindC kindOf ((p, w) :: P.zip vs) m p = _
    unfold bindC
    rw [bindC_out fun v hv => (List.nodup_cons.mp nd).1 (List.of_mem_zip hv).1, if_neg hk]
    simp
  | p :: P, w :: vs, i + 1, m, nd, h1, h2, hk => by
    show bindC kindOf ((p, w) :: P.zip vs) m x = _
    unfold bindC
    exact bindC_get (i := i) (List.nodup_cons.mp nd).2 (by simpa using h1) (by simpa using h2) hk

/-- the names' values at the entry -/
def start (N : List Str) (vs : List V) : St := vs.map some ++ List.replicate (N.length - vs.length) none

/-- the context of a def's body, at its entry; an exception leaves the frame, then lies as CX says -/
def cxOf (CX : CXT) (P : Program) (w : World) (K : PySem.W.Frag) (mg : Str → Option Value) (base : Heap) (N : List Str) (qual : Str) (scope : Scope) (f : Addr) (cd : Value) (A : Around) (outer : List Env) (s : Shared) (H : Hp) (E : XK) : Cx where
  prog := P
  w := w
  K := K
  mg := mg
  base := base
  A := A.deeper (envOfC qual scope s.heap.objs.size f cd)
  N := N
  s₀ := s
  H₀ := H
  env := envOfC qual scope s.heap.objs.size f cd
  outer := outer
  stack := envOfC qual scope s.heap.objs.size f cd :: outer
  ex := []
  calm := true
  fn := fun _ => true
  pn := []
  xe := fun e s' => wpAny (model P w) (A.deeper (envOfC qual scope s.heap.objs.size f cd)) (leaving (envOfC qual scope s.heap.objs.size f cd) e) (fun _ s'' => CX outer H s E e s'') (fun e' s'' => CX outer H s E e' s'') s'

theorem cell_has {sc : Scope} {n : Nat} {x : Str} (h : sc.names.lookup x = some .cell) : ∃ c, (cellsFrom n sc.names []).lookup x = some c := by
  have q := PySem.W.cellsFrom_some sc.names n [] (.inl h)
  exact Option.isSome_iff_exists.mp q

theorem inv_start {CX : CXT} {P : Program} {w : World} {K : PySem.W.Frag} {mg : Str → Option Value} {base : Heap} {N ps : List Str} {qual : Str} {scope : Scope} {f : Addr} {cd : Value} {A : Around} {outer : List Env} {s s1 : Shared} {H : Hp} {E : XK} {us : List Value} {vs : List V}
    (S : FnScope N ps scope) (hd : A.handled = none) (e0 : Env0 P w K mg base A outer s H) (hl : vs.length = ps.length) (r : Vals vs us)
    (x : InCallC s s.heap.objs.size (bindL (envOfC qual scope s.heap.objs.size f cd).kindOf (ps.zip us) fun _ => none) (cellsFrom (s.heap.objs.size + 1) scope.names []) (bindC (envOfC qual scope s.heap.objs.size f cd).kindOf (ps.zip us) fun _ => none) s1) :
    Inv (cxOf CX P w K mg base N qual scope f cd A outer s H E) [] (start N vs) H s1 := by
  have hpl : ps.length ≤ N.length := by have := congrArg List.length S.pre; rw [List.length_take] at this; omega
  obtain ⟨h1, tk, rfl, hk⟩ := x.done
  have noA : ∀ b : Addr, b ∉ (cxOf CX P w K mg base N qual scope f cd A outer s H E).ex := fun b z => absurd (show b ∈ ([] : List Addr) from z) (by simp)
  refine ⟨⟨e0.mod, S.kind, rfl, rfl, Nat.le_refl _, fun y z c h1 h2 => ?_, fun y hy => ?_, fun y c _ h => ?_, fun _ => hd, Around.frames_deeper e0.frames, .inr ⟨rfl, rfl⟩, fun b z => absurd z (noA b), e0.bs, e0.bsz, fun b _ _ => noA b, fun b z => absurd z (noA b), e0.funs, e0.frf⟩,
    rfl, e0.bare, Un.kept hk, ⟨_, x.toInCall.ns, fun i y v h1 h2 h3 => ?_⟩, fun y c h => ⟨_, x.cell y c h⟩, e0.hok.fresh (Nat.le_refl _), fun y c h => ?_, fun p hp => absurd (show p ∈ ([] : List (Addr × Obj)) from hp) (by simp), e0.hok.kept hk, ?_⟩
  · exact name_of_addr x.apart (PySem.mem_of_lookup h1) (PySem.mem_of_lookup h2)
  · have hy : scope.names.lookup y = some .cell ∨ scope.names.lookup y = some .free := hy
    rcases hy with hy | hy
    · exact cell_has hy
    · exact absurd rfl (S.nofree _ (PySem.mem_of_lookup hy))
  · exact Nat.le_of_lt (x.above y c (PySem.mem_of_lookup h))
  · have hi : i < vs.length := by
      unfold start at h2
      by_cases hi : i < vs.length
      · exact hi
      · rw [List.getElem?_append_right (by simpa using hi)] at h2
        rw [List.getElem?_replicate] at h2
        split at h2 <;> cases h2
    have ha : vs[i]? = some v := by
      unfold start at h2
      rw [List.getElem?_append_left (by simpa using hi), List.getElem?_map] at h2
      cases e : vs[i]? with
      | none => rw [e] at h2; cases h2
      | some a => rw [e] at h2; cases h2; rfl
    obtain ⟨u, hu, rv⟩ := r.get ha
    have hp : ps[i]? = some y := by
      rw [← S.pre, List.getElem?_take_of_lt (by omega)]; exact h1
    have ndP : ps.Nodup := by rw [← S.pre]; exact S.nd.sublist (List.take_sublist _ _)
    refine ⟨u, rv, ?_⟩
    rcases S.par y (List.mem_of_getElem? hp) with k | k
    · exact .inl ⟨k, bindL_get ndP hp hu k⟩
    · obtain ⟨c, e⟩ := cell_has (n := s.heap.objs.size + 1) k
      refine .inr ⟨.inl k, c, e, ?_⟩
      have q := x.cell y c e
      rw [bindC_get ndP hp hu (by show scope.names.lookup y ≠ _; rw [k]; decide)] at q
      exact q
  · exact e0.hok.fresh (Nat.le_of_lt (x.above y c (PySem.mem_of_lookup h)))
  · unfold start
    show _ = N.length
    rw [List.length_append, List.length_map, List.length_replicate]
    omega

/-- THE RULE: a def (or a method) of the text, by its body. The body's reading t is chosen for each entry; it is run at the parameters' values -/
theorem fn_of {CX : CXT} {P : Program} {w : World} {K : PySem.W.Frag} {mg : Str → Option Value} {base : Heap} {k : Nat} {f : Addr} {name qual : Str} {params : Arguments} {body : List Stmt} {scope : Scope} {dV kV doc pm cdv ct oc : Value} {an od : Option Addr}
    {osl : Array (Option Value)} {N ps : List Str} {sp : Sp} (lk : K.lookup f = some ⟨oc, od, .func (PySem.W.fnOf name qual params body scope dV kV doc pm an cdv ct), osl⟩) (hcd : PySem.W.codeIn K cdv qual = true) (S : FnScope N ps scope)
    (len : ∀ vs H Q E, sp vs H Q E → vs.length = ps.length)
    (hbody : ∀ (A : Around) (outer : List Env) (s : Shared) (H : Hp) (vs : List V) (Q : VK) (E : XK), Room k (A.deeper (envOfC qual scope s.heap.objs.size f cdv)) → sp vs H Q E →
      ∃ t, PSs (cxOf CX P w K mg base N qual scope f cdv A outer s H E) body t ∧ t { nx := fun _ H' => Q .non H', rt := Q } (start N vs) H) :
    FnOk P w K mg base CX (k + 1) f (PySem.W.fnOf name qual params body scope dV kV doc pm an cdv ct) ps sp := by
  refine ⟨len, fun A outer s H args us vs Q E hr e0 hb r hsp => ?_⟩
  have hl := len _ _ _ _ hsp
  have KX : K.In s.heap := e0.mod.kin.keeps fun b o e => (e0.bs b o e).1
  have lim : s.heap.NoLimit := e0.mod.nolimit.keeps fun b o e => (e0.bs b o e).1
  have hkind : ∀ y ∈ ps.zip us, scope.names.lookup y.1 = some .local ∨ (scope.names.lookup y.1 = some .cell ∧ ((cellsFrom (s.heap.objs.size + 1) scope.names []).lookup y.1).isSome = true) := fun ⟨n, v⟩ hy => by
    rcases S.par n (List.of_mem_zip hy).1 with q | q
    · exact .inl q
    · exact .inr ⟨q, PySem.W.cellsFrom_some _ _ _ (.inl q)⟩
  refine codeAny_call_function hr.depth (KX _ _ lk) rfl S.co S.gen rfl (PySem.W.codeRec_of KX hcd) (hb _ _ _ _ ?_)
  refine wpAny_newFunctionEnv_cells S.kind hkind fun env he s1 x => ?_
  subst he
  refine ⟨lim.keeps x.toInCall.keep, codeAny_func ?_⟩
  obtain ⟨t, ht, hq⟩ := hbody A outer s H vs Q E (hr.deeper _) hsp
  have I : Inv (cxOf CX P w K mg base N qual scope f cdv A outer s H E) [] (start N vs) H s1 := inv_start S hr.hd e0 hl r x
  refine wpAny_mono (ht [] s1 (start N vs) H _ I hq) (fun fl s' hs => ?_) fun e s' hs => hs
  have fin : ∀ {σ' : St} {H' : Hp} {v : V} {u : Value}, Inv (cxOf CX P w K mg base N qual scope f cdv A outer s H E) [] σ' H' s' → RelV v u → Q v H' → CE outer P w H s Q u s' :=
    fun {σ' H' v u} J rv q => ⟨v, H', J.os, J.bare, J.base, J.hok, rv, q⟩
  cases fl with
  | ret u =>
    obtain ⟨v, σ', H', J, rv, q⟩ := hs
    exact fin J rv q
  | next =>
    obtain ⟨σ', H', J, q⟩ := hs
    exact fin (v := V.non) (u := Value.none) J rfl q
  | brk =>
    obtain ⟨_, _, _, q⟩ := hs
    exact False.elim q
  | cont =>
    obtain ⟨_, _, _, q⟩ := hs
    exact False.elim q
end L2

namespace L2
open PySem PySem.Spec PyProof.Rows
section
variable {X : Cx} {x : Str} {p pos : Pos} {e : Expr} {es : List Expr} {t : TA} {id T : String} {r : List V → Hp → VK → Prop}

def tCB (r : List V → Hp → VK → Prop) (t : TA) : TE := fun σ H Q => t σ H fun vs H1 => r vs H1 Q
/-- f(e, ..), f a built-in function -/
theorem pe_callB (hc : CallR X (.builtin id) r) (hg : Gl X x) (hm : X.mg x = none) (hv : bootBuiltins x = some (.builtin id)) (ha : PA X (e :: es) t) (hn : x ≠ "__name__" := by decide) (hdb : (x == ("__debug__" : Str)) = false := by decide)
    (he : starEach (e :: es) X.env = (false, eval e X.env) :: starEach es X.env := by rfl) (hpl : (backTo pos (starEach es X.env)).any (·.1) = false := by rfl) : PE X (.Call (.Name x p) (e :: es) [] pos) (tCB r t) := by
  intro pins s σ H Q I h
  refine wpAny_Call_Name_kw (ld_blt I hg hm hv ?_ hn hdb)
  exact PyProof.Rows.callWith_builtin1 (thn (ha pos pins s σ H _ I h) fun us s1 ⟨vs, H1, I1, r1, q1⟩ => hc pins s1 σ H1 vs us Q I1 r1 q1) he hpl
/-- T(e, ..), T a built-in type -/
theorem pe_callTy (hc : CallR X (.type T) r) (hg : Gl X x) (hm : X.mg x = none) (hv : bootBuiltins x = some (.type T)) (ha : PA X (e :: es) t) (hn : x ≠ "__name__" := by decide) (hdb : (x == ("__debug__" : Str)) = false := by decide)
    (he : starEach (e :: es) X.env = (false, eval e X.env) :: starEach es X.env := by rfl) (hpl : (backTo pos (starEach es X.env)).any (·.1) = false := by rfl) : PE X (.Call (.Name x p) (e :: es) [] pos) (tCB r t) := by
  intro pins s σ H Q I h
  refine wpAny_Call_Name_kw (ld_blt I hg hm hv ?_ hn hdb)
  exact PyProof.Rows.callWith_type1 (thn (ha pos pins s σ H _ I h) fun us s1 ⟨vs, H1, I1, r1, q1⟩ => hc pins s1 σ H1 vs us Q I1 r1 q1) he hpl
end
end L2

namespace HT
open PySem PyProof.Rows

section
open PySem.SeqAt
open PySem.AutoSeq1 (wpAny_loadPart')
open PySem.MeetsSeq PySem.MeetsSeq2 PySem.MeetsSeq3

end

section
variable {prog : Program} {w : World} {A : Around} {E : Value → Shared → Prop} {s : Shared}

/-! ### t[a:b], not the whole -/
/-- a slice's bound as a place among n (d where it is left out) -/
def sIx (n d : Nat) : Option Int → Nat
  | none => d
  | some v => if v < 0 then (v + (n : Int)).toNat else min v.toNat n
theorem sIx_nat (n d k : Nat) : sIx n d (some (k : Int)) = min k n := by
  show (if (k : Int) < 0 then ((k : Int) + (n : Int)).toNat else min (k : Int).toNat n) = min k n
  rw [if_neg (by omega), Int.toNat_natCast]
end
end HT

namespace L2
open PySem PySem.Spec PyProof.Rows

/-! ### the parts of a slice -/
abbrev TO := St → Hp → (Option Int → Hp → Prop) → Prop
/-- a slice's part (left out, or an int) -/
def PO (X : Cx) (e : Option Expr) (t : TO) : Prop :=
  ∀ (pins : List (Addr × Obj)) (s : Shared) (σ : St) (H : Hp) (Q : Option Int → Hp → Prop), Inv X pins σ H s → t σ H Q →
    wpAny (model X.prog X.w) X.A (evalPart e X.env) (fun u s' => ∃ o H', Inv X pins σ H' s' ∧ IsPart u o ∧ Q o H') X.xe s
def tNoPart : TO := fun _ H Q => Q none H
def tPart (t : TE) : TO := fun σ H Q => t σ H fun x H1 => ∃ i, x = .int i ∧ Q (some i) H1

section
variable {X : Cx} {e : Expr} {te : TE} {lo hi : Option Expr} {tl th : TO} {pos p2 : Pos}

theorem po_none : PO X none tNoPart := by
  intro pins s σ H Q I h
  rw [evalPart_none]
  exact wpAny_pure ⟨none, H, I, .none, h⟩
theorem po_some (h : PE X e te) : PO X (some e) (tPart te) := by
  intro pins s σ H Q I hw
  rw [evalPart_some]
  refine thn (h pins s σ H _ I hw) fun u s1 ⟨x, H1, I1, r1, q1⟩ => ?_
  obtain ⟨i, rfl, q⟩ := q1
  obtain ⟨t, rfl⟩ := r1
  exact ⟨some i, H1, I1, .int i t, q⟩

/-- what a slice of a value is, by values: the slice object stands at sl -/
def SlR (X : Cx) (r : V → Option Int → Option Int → Hp → VK → Prop) : Prop :=
  ∀ (pins : List (Addr × Obj)) (s : Shared) (σ : St) (H : Hp) (x : V) (v vl vu : Value) (lo hi : Option Int) (sl : Addr) (Q : VK), Inv X pins σ H s → RelV x v → s.heap.IsSliceOf sl vl vu .none → IsPart vl lo → IsPart vu hi → r x lo hi H Q →
    ∃ T id, typeLookup (.type T) "__getitem__" = pure (some (.builtin id)) ∧ s.TypeIs v T ∧ wpAny (model X.prog X.w) X.A (getItem v (.ref sl)) (EP X pins σ Q) X.xe s
def tSl (r : V → Option Int → Option Int → Hp → VK → Prop) (te : TE) (tl th : TO) : TE := fun σ H Q => te σ H fun x H1 => tl σ H1 fun l H2 => th σ H2 fun u H3 => r x l u H3 Q
/-- a[lo:hi], any a -/
theorem pe_slice {r : V → Option Int → Option Int → Hp → VK → Prop} (hr : SlR X r) (he : PE X e te) (hl : PO X lo tl) (hu : PO X hi th) : PE X (.Subscript e (.Slice lo hi none p2) pos) (tSl r te tl th) := by
  intro pins s σ H Q I h
  refine Subscript_ (thn (he pins s σ H _ I h) fun v s1 ⟨x, H1, I1, r1, q1⟩ => ?_)
  refine wpAny_Slice (thn (hl pins s1 σ H1 _ I1 q1) fun vl s2 ⟨l, H2, I2, pl, q2⟩ => thn (hu pins s2 σ H2 _ I2 q2) fun vu s3 ⟨u, H3, I3, pu, q3⟩ => ?_)
  rw [evalPart_none]
  refine wpAny_pure ?_
  have I4 : Inv X pins σ H3 { s3 with heap := s3.heap.push { cls := .type "slice", data := .fields #[vl, vu, .none] } } := I3.kept (t' := s3.toks) fun b ob q => Heap.get?_push_of_some _ q
  obtain ⟨T, id, hT, ht, hg⟩ := hr pins { s3 with heap := s3.heap.push { cls := .type "slice", data := .fields #[vl, vu, .none] } } σ H3 x v vl vu l u s3.heap.objs.size Q I4 r1 (Heap.IsSliceOf.new ..) pl pu q3
  show wpAny (model X.prog X.w) X.A (subscriptTail e (.Slice lo hi none p2) v (.ref s3.heap.objs.size)) (EP X pins σ Q) X.xe { s3 with heap := s3.heap.push { cls := .type "slice", data := .fields #[vl, vu, .none] } }
  exact tail_any (ops := [.ref s3.heap.objs.size, v]) ht hT hg (by with_unfolding_all rfl)

/-- the items of xs[lo:hi] -/
def cutV (xs : List V) (lo hi : Option Int) : List V := (xs.drop (HT.sIx xs.length 0 lo)).take (HT.sIx xs.length xs.length hi - HT.sIx xs.length 0 lo)
theorem cutV_length (xs : List V) (lo hi : Option Int) : (cutV xs lo hi).length ≤ xs.length := by
  unfold cutV
  rw [List.length_take, List.length_drop]
  omega
/-! ### t < u, t + u -/
end
end L2

namespace L2
open PySem PySem.Spec PyProof.Rows

/-! ### places -/
/-- the place that an index of any sign means -/
def ixN (n : Nat) (i : Int) : Option Nat := if 0 ≤ i then (if i < n then some i.toNat else none) else if -(n : Int) ≤ i then some (i + n).toNat else none
def atI {α : Type} (xs : List α) (i : Int) : Option α := (ixN xs.length i).bind fun j => xs[j]?
theorem ixN_seq {n : Nat} {i : Int} {j : Nat} (h : ixN n i = some j) : seqIndex? i n = some j ∧ j < n ∧ -(n : Int) ≤ i ∧ i < n := by
  unfold ixN at h
  by_cases h0 : 0 ≤ i
  · rw [if_pos h0] at h
    by_cases h1 : i < n
    · rw [if_pos h1] at h
      have e : i.toNat = j := Option.some.inj h
      exact ⟨by rw [seqIndex_of h0 h1, e], by omega, by omega, h1⟩
    · rw [if_neg h1] at h; cases h
  · rw [if_neg h0] at h
    by_cases h1 : -(n : Int) ≤ i
    · rw [if_pos h1] at h
      have e : (i + n).toNat = j := Option.some.inj h
      exact ⟨by rw [seqIndex_neg (by omega) h1, e], by omega, h1, by omega⟩
    · rw [if_neg h1] at h; cases h
theorem atI_get {α : Type} {xs : List α} {i : Int} {v : α} (h : atI xs i = some v) : ∃ j, seqIndex? i xs.length = some j ∧ xs[j]? = some v ∧ j < xs.length ∧ -(xs.length : Int) ≤ i ∧ i < xs.length := by
  unfold atI at h
  cases e : ixN xs.length i with
  | none => rw [e] at h; cases h
  | some j =>
    rw [e] at h
    obtain ⟨h1, h2, h3, h4⟩ := ixN_seq e
    exact ⟨j, h1, h, h2, h3, h4⟩
theorem atI_nat {α : Type} {xs : List α} {j : Nat} {v : α} (h : xs[j]? = some v) : atI xs (j : Int) = some v := by
  have hj : j < xs.length := (List.getElem?_eq_some_iff.mp h).1
  have e : ixN xs.length (j : Int) = some j := by
    unfold ixN
    rw [if_pos (by omega), if_pos (by omega)]; simp
  unfold atI; rw [e]; exact h
/-! ### what may be subscripted -/
/-- what stands as an index of a plain subscript -/
def PlainIx (b : Expr) : Prop := ∀ o i, subscripted b false o i = operate [o, i] (getItem o i)
/-- a subscript by values -/
def IxR (X : Cx) (r : R2) : Prop :=
  ∀ (value slice : Expr) (pins : List (Addr × Obj)) (s : Shared) (σ : St) (H : Hp) (x y : V) (v u : Value) (Q : VK), Inv X pins σ H s → RelV x v → RelV y u → r x y H Q →
    subscripted slice false v u = operate [v, u] (getItem v u) → wpAny (model X.prog X.w) X.A (subscriptTail value slice v u) (EP X pins σ Q) X.xe s
/-- a call of a builtin's method by values: the receiver, the arguments -/
def MtR (X : Cx) (id : String) (r : V → List V → Hp → VK → Prop) : Prop :=
  ∀ (pins : List (Addr × Obj)) (s : Shared) (σ : St) (H : Hp) (x : V) (xs : List V) (v : Value) (us : List Value) (Q : VK), Inv X pins σ H s → RelV x v → Vals xs us → r x xs H Q →
    wpAny (model X.prog X.w) X.A (call (.builtin id) (v :: us)) (EP X pins σ Q) X.xe s
section
variable {X : Cx} {a b : Expr} {ta tb : TE} {pos : Pos}
/-- a[b] -/
theorem pe_ix {r : R2} (hr : IxR X r) (ha : PE X a ta) (hb : PE X b tb) (hs : PlainIx b) : PE X (.Subscript a b pos) (tOp r ta tb) := by
  intro pins s σ H Q I h
  exact Subscript_ (binT ha hb I h fun v u s2 x y H2 I2 rx ry q => hr a b pins s2 σ H2 x y v u Q I2 rx ry q (hs _ _))

def rIxL (K : PySem.W.Frag) : R2 := fun x y H Q => ∃ p xs i v, x = .ref p ∧ y = .int i ∧ SqL K H p xs ∧ atI xs i = some v ∧ Q v H
def rIxT (K : PySem.W.Frag) : R2 := fun x y H Q => ∃ p xs i v, x = .ref p ∧ y = .int i ∧ SqT K H p xs ∧ atI xs i = some v ∧ Q v H
def rIxS : R2 := fun x y H Q => ∃ z i c, x = .str z ∧ y = .int i ∧ z.length ≤ sizeLine ∧ atI z.cps.toList i = some c ∧ Q (.str ⟨#[c]⟩) H
theorem ix_list : IxR X (rIxL X.K) := by
  intro value slice pins s σ H x y v u Q I rx ry h hs
  obtain ⟨p, xs, i, z, rfl, rfl, hq, he, q⟩ := h
  cases rx
  obtain ⟨t, rfl⟩ := ry
  obtain ⟨its, r, pl, hz⟩ := I.list hq
  obtain ⟨j, h1, h2, h3, h4, h5⟩ := atI_get he
  obtain ⟨w, ew, rw'⟩ := r.get h2
  have hl := r.length
  have hn := line63
  have fin : EP X pins σ Q w s := ⟨z, H, I, rw', q⟩
  by_cases h0 : 0 ≤ i
  · have hj : i.toNat = j := by
      rw [seqIndex_of h0 h5] at h1
      exact Option.some.inj h1
    exact item_listR pl.isList h0 (by omega) (by rw [hj]; simpa using ew) fin hs
  · have hj : (i + (its.toArray.size : Int)).toNat = j := by
      rw [seqIndex_neg (by omega) h4] at h1
      rw [List.size_toArray, ← hl]
      exact Option.some.inj h1
    exact subscriptTail_builtinR (x := w) pl.isList.typeIs slot_list_getitem.lookup
      (wpAny_getItem_list_neg (Q := fun r s' => r = w ∧ EP X pins σ Q r s') pl.isList (by omega) (by rw [List.size_toArray] <;> omega) (by omega) (by rw [hj]; simpa using ew) ⟨rfl, fin⟩) hs
theorem ix_tup : IxR X (rIxT X.K) := by
  intro value slice pins s σ H x y v u Q I rx ry h hs
  obtain ⟨p, xs, i, z, rfl, rfl, hq, he, q⟩ := h
  cases rx
  obtain ⟨t, rfl⟩ := ry
  obtain ⟨its, r, pl, hz⟩ := I.tuple hq
  obtain ⟨j, h1, h2, h3, h4, h5⟩ := atI_get he
  obtain ⟨w, ew, rw'⟩ := r.get h2
  have hl := r.length
  have hn := line63
  have fin : EP X pins σ Q w s := ⟨z, H, I, rw', q⟩
  exact subscriptTail_builtinR (x := w) pl.typeIs slot_tuple_getitem.lookup
    (getItem_tuple (j := j) (Q := fun r s' => r = w ∧ EP X pins σ Q r s') pl (by omega) (by omega) (by rw [List.size_toArray, ← hl]; exact h1) (by simpa using ew) ⟨rfl, fin⟩) hs
theorem ix_str : IxR X rIxS := by
  intro value slice pins s σ H x y v u Q I rx ry h hs
  obtain ⟨z, i, c, rfl, rfl, hz, he, q⟩ := h
  obtain ⟨t, rfl⟩ := rx
  obtain ⟨t', rfl⟩ := ry
  obtain ⟨j, h1, h2, h3, h4, h5⟩ := atI_get he
  have hl : z.cps.toList.length = z.length := by simp [Str.length]
  rw [hl] at h1 h4 h5
  have hn := line63
  exact tail_any (typeIs_str s z t) slot_str_getitem.lookup (getItem_str (c := c) (by
    have e1 : decide (i < -(2 ^ 63 : Int)) = false := decide_eq_false (by omega)
    have e2 : decide (i ≥ 2 ^ 63) = false := decide_eq_false (by omega)
    rw [e1, e2, Bool.or_false]) (by rw [h1]; simpa using h2) ⟨.str ⟨#[c]⟩, H, I.tok _, ⟨_, rfl⟩, q⟩) hs
/-! ### xs[i] = v, any sign -/
/-! ### slices -/
theorem slice_bounds (lo hi : Option Int) (n : Nat) : (sliceBounds lo hi none n).1 = ((HT.sIx n 0 lo : Nat) : Int) ∧ (sliceBounds lo hi none n).2.1 = ((HT.sIx n n hi : Nat) : Int) ∧ (sliceBounds lo hi none n).2.2 = 1 := by
  refine ⟨?_, ?_, rfl⟩
  · cases lo with
    | none => simp [sliceBounds, HT.sIx]
    | some i =>
      simp only [sliceBounds, HT.sIx, Option.getD_none, show (1 : Int) > 0 by decide, if_true]
      by_cases h : i < 0
      · simp only [h, if_true] <;> omega
      · simp only [h, if_false] <;> omega
  · cases hi with
    | none => simp [sliceBounds, HT.sIx]
    | some i =>
      simp only [sliceBounds, HT.sIx, Option.getD_none, show (1 : Int) > 0 by decide, if_true]
      by_cases h : i < 0
      · simp only [h, if_true] <;> omega
      · simp only [h, if_false] <;> omega
theorem slicePick_cut (its : List Value) (lo hi : Option Int) : slicePick its.toArray lo hi none = ((its.drop (HT.sIx its.length 0 lo)).take (HT.sIx its.length its.length hi - HT.sIx its.length 0 lo)).toArray := by
  obtain ⟨h1, h2, h3⟩ := slice_bounds lo hi its.toArray.size
  unfold slicePick
  rw [h1, h2, h3]
  simp only [sliceRange_one, pick_run, List.size_toArray] <;> rfl
/-- xs[lo:hi] of a list: a new list -/
def rSlL (K : PySem.W.Frag) : V → Option Int → Option Int → Hp → VK → Prop := fun x lo hi H Q => ∃ a xs, x = .ref a ∧ SqL K H a xs ∧ ∀ p, H p = none → Q (.ref p) (upd H p (.lst (cutV xs lo hi)))
theorem sl_list : SlR X (rSlL X.K) := by
  intro pins s σ H x v vl vu lo hi sl Q I rx hs pl pu h
  obtain ⟨a, xs, rfl, hx, q⟩ := h
  cases rx
  obtain ⟨its, r, ht, hz⟩ := I.list hx
  have hlen := r.length
  refine ⟨"list", _, slot_list_getitem.lookup, ht.isList.typeIs, ?_⟩
  refine wpAny_getItem_list_slice ht.isList hs pl pu .none (by simp) ?_ (by rw [List.size_toArray] <;> omega)
  rw [slicePick_cut, ← hlen]
  refine ⟨.ref s.heap.objs.size, _, I.laid (t' := s.toks) (o := .lst (cutV xs lo hi)) (fun b ob q => Heap.get?_push_of_some _ q) (Nat.le_refl _) ?_, rfl, q _ (I.hok.fresh (Nat.le_refl _))⟩
  exact ⟨Nat.le_trans (cutV_length xs lo hi) hz, _, 0, (r.drop (HT.sIx xs.length 0 lo)).take (HT.sIx xs.length xs.length hi - HT.sIx xs.length 0 lo), Heap.get?_push_size _ rfl⟩

/-! ### in, not in: flat items -/
/-! ### len, list(x), tuple(x) of any list or tuple that is read -/
theorem call_len_seq : CallR X (.builtin "len") (fun xs H Q => ∃ p ys, xs = [.ref p] ∧ (SqL X.K H p ys ∨ SqT X.K H p ys) ∧ Q (.int ys.length) H) := by
  intro pins s σ H xs us Q I r h
  obtain ⟨p, ys, rfl, hq, q⟩ := h
  obtain ⟨u, rfl, rx⟩ := vals1 r
  cases rx
  have hn := line63
  rcases hq with hq | hq
  · obtain ⟨its, r', pl, hz⟩ := I.list hq
    have hlen := r'.length
    exact Calls.call_len_list pl.isList (by simp only [List.size_toArray] <;> omega) ⟨.int ys.length, H, I.tok _, ⟨s.toks + 1, by rw [List.size_toArray, hlen]⟩, q⟩
  · obtain ⟨its, r', pl, hz⟩ := I.tuple hq
    have hlen := r'.length
    exact len_tuple pl (by simp only [List.size_toArray] <;> omega) ⟨.int ys.length, H, I.tok _, ⟨s.toks + 1, by rw [List.size_toArray, hlen]⟩, q⟩
theorem call_len_str : CallR X (.builtin "len") (fun xs H Q => ∃ z, xs = [.str z] ∧ z.length ≤ sizeLine ∧ Q (.int z.length) H) := by
  intro pins s σ H xs us Q I r h
  obtain ⟨z, rfl, hz, q⟩ := h
  obtain ⟨u, rfl, t, rfl⟩ := vals1 r
  have hn := line63
  exact len_str (by omega) ⟨.int z.length, H, I.tok _, ⟨_, rfl⟩, q⟩
theorem call_tuple_of : CallR X (.type "tuple") (fun xs H Q => ∃ p ys, xs = [.ref p] ∧ ((SqL X.K H p ys ∧ ∀ l, H l = none → Q (.ref l) (upd H l (.tup ys))) ∨ (SqT X.K H p ys ∧ Q (.ref p) H))) := by
  intro pins s σ H xs us Q I r h
  obtain ⟨p, ys, rfl, h⟩ := h
  obtain ⟨u, rfl, rx⟩ := vals1 r
  cases rx
  rcases h with ⟨hq, q⟩ | ⟨hq, q⟩
  · obtain ⟨its, r', pl, hz⟩ := I.list hq
    have hlen := r'.length
    refine call_tuple_list pl.isList (fun h' kp => ?_) (by simp only [List.size_toArray] <;> omega)
    have I1 : Inv X pins σ H { s with heap := h' } := I.kept (t' := s.toks) kp
    have I2 : Inv X pins σ (upd H h'.objs.size (.tup ys)) { s with heap := h'.push { cls := .type "tuple", data := .seq its.toArray } } :=
      I1.laid (t' := s.toks) (fun b o e => Heap.get?_push_of_some _ e) (Nat.le_refl _) (show ObjOk X.prog X.w _ _ _ (.tup ys) from ⟨hz, its, r', IsTup.new _ _⟩)
    exact ⟨.ref h'.objs.size, _, I2, rfl, q _ (I1.hok.fresh (Nat.le_refl _))⟩
  · obtain ⟨its, r', pl, hz⟩ := I.tuple hq
    exact call_tuple_same pl ⟨.ref p, H, I, rfl, q⟩

/-! ### the call of a builtin's method: o.m(..) -/
/-- the value is of that builtin type -/
def tyV (K : PySem.W.Frag) (T : String) (x : V) (H : Hp) : Prop := match x with
  | .str _ => T = "str"
  | .int _ => T = "int"
  | .ref p => (T = "list" ∧ ∃ xs, SqL K H p xs) ∨ (T = "tuple" ∧ ∃ o, K.lookup p = some o ∧ o.cls = .type "tuple" ∧ o.dict = none) ∨
      (T = "dict" ∧ ((∃ kvs, H p = some (.dK kvs)) ∨ ∃ kvs, H p = some (.dT kvs))) ∨ (T = "set" ∧ ∃ S n, H p = some (.set S n))
  | _ => False
theorem tyV_is {pins : List (Addr × Obj)} {σ : St} {H : Hp} {s : Shared} {T : String} {x : V} {v : Value} (I : Inv X pins σ H s) (r : RelV x v) (ty : tyV X.K T x H) :
    s.TypeIs v T ∧ ∀ a, v = .ref a → ∃ ob, s.heap.get? a = some ob ∧ ob.dict = none := by
  cases x with
  | str z =>
    obtain ⟨t, rfl⟩ := r
    cases (show T = "str" from ty)
    exact ⟨typeIs_str s z t, fun _ e => nomatch e⟩
  | int i =>
    obtain ⟨t, rfl⟩ := r
    cases (show T = "int" from ty)
    exact ⟨typeIs_int s i t, fun _ e => nomatch e⟩
  | ref p =>
    cases r
    rcases ty with ⟨rfl, xs, hq⟩ | ⟨rfl, o, hk, hc, hd⟩ | ⟨rfl, hk⟩ | ⟨rfl, S, n, hk⟩
    · obtain ⟨its, _, pl, _⟩ := I.list hq
      refine ⟨pl.isList.typeIs, fun a e => ?_⟩
      cases e
      obtain ⟨o, n, e, c, hd, _⟩ := pl
      exact ⟨o, e, hd⟩
    · refine ⟨⟨o, I.kIn p o hk, hc⟩, fun a e => ?_⟩
      cases e
      exact ⟨o, I.kIn _ o hk, hd⟩
    · have z : ∃ o, s.heap.get? p = some o ∧ o.ExactDict := by
        rcases hk with ⟨kvs, hk⟩ | ⟨kvs, hk⟩
        · obtain ⟨_, _, _, _, o, _, _, e, ex, _⟩ := I.hok p _ hk
          exact ⟨o, e, ex⟩
        · obtain ⟨_, _, _, _, o, _, _, e, ex, _⟩ := I.hok p _ hk
          exact ⟨o, e, ex⟩
      obtain ⟨o, e, ex⟩ := z
      refine ⟨⟨o, e, ex.1⟩, fun a e2 => ?_⟩
      cases e2
      exact ⟨o, e, ex.2.1⟩
    · obtain ⟨o, _, _, _, e, ex, _⟩ := I.hok p _ hk
      refine ⟨⟨o, e, ex.1⟩, fun a e2 => ?_⟩
      cases e2
      exact ⟨o, e, ex.2.1⟩
  | _ => exact False.elim ty
def tBM0 (K : PySem.W.Frag) (T : String) (r : V → List V → Hp → VK → Prop) (to : TE) : TE := fun σ H Q => to σ H fun x H1 => tyV K T x H1 ∧ r x [] H1 Q
def tBM (K : PySem.W.Frag) (T : String) (r : V → List V → Hp → VK → Prop) (to : TE) (t : TA) : TE := fun σ H Q => to σ H fun x H1 => tyV K T x H1 ∧ t σ H1 fun xs H2 => r x xs H2 Q
variable {o e : Expr} {es : List Expr} {to : TE} {t : TA} {name : Str} {apos cpos : Pos} {T id : String} {r : V → List V → Hp → VK → Prop}
theorem pe_bm0 (pa : PlainAttrs T) (slot : Slot T name id) (hty : typeOf (.builtin id) = pure (.type "method_descriptor")) (hm : MtR X id r) (ho : PE X o to)
    (hbase : attributeBase o name X.env (eval o X.env) = eval o X.env := by rfl) (hline : (apos.endLine == cpos.line) = true := by rfl) : PE X (.Call (.Attribute o name apos) [] [] cpos) (tBM0 X.K T r to) := by
  intro pins s σ H Q I h
  refine wpAny_Call_method0_late hbase hline (thn (ho pins s σ H _ I h) fun v s1 ⟨x, H1, I1, r1, ty, q1⟩ => ?_)
  obtain ⟨h1, h2⟩ := tyV_is I1 r1 ty
  exact ⟨T, id, pa, slot, hty, h1, h2, Calls.callWith_builtin rfl (PySem.evalArgs_none (hm pins s1 σ H1 x [] v [] Q I1 r1 .nil q1))⟩
theorem pe_bm (pa : PlainAttrs T) (slot : Slot T name id) (hty : typeOf (.builtin id) = pure (.type "method_descriptor")) (hm : MtR X id r) (ho : PE X o to) (ha : PA X (e :: es) t)
    (hbase : attributeBase o name X.env (eval o X.env) = eval o X.env := by rfl)
    (hfew : ((backTo cpos (starEach (e :: es) X.env)).all (fun x => !x.1) && (backToKw cpos (keywordEach [] X.env)).all (fun x => x.1.isSome)
      && decide ((e :: es).length + ([] : List Keyword).length + (if ([] : List Keyword).isEmpty then 0 else 1) < 30)) = true := by rfl)
    (hline : (apos.endLine == cpos.line) = true := by rfl) (hs : starEach (e :: es) X.env = (false, eval e X.env) :: starEach es X.env := by rfl) (hplain : (backTo cpos (starEach es X.env)).any (·.1) = false := by rfl) :
    PE X (.Call (.Attribute o name apos) (e :: es) [] cpos) (tBM X.K T r to t) := by
  intro pins s σ H Q I h
  refine wpAny_Call_method_late hbase hfew hline rfl (thn (ho pins s σ H _ I h) fun v s1 ⟨x, H1, I1, r1, ty, q1⟩ => ?_)
  obtain ⟨h1, h2⟩ := tyV_is I1 r1 ty
  refine ⟨T, id, pa, slot, hty, h1, h2, ?_⟩
  have hA := ha cpos pins s1 σ H1 _ I1 q1
  rw [hs] at hA ⊢
  refine Calls.callWith_builtin (by show (false || (backTo cpos (starEach es X.env)).any (·.1)) = false; rw [hplain] <;> rfl) (Calls.evalArgs_plain ?_)
  exact thn hA fun us s2 ⟨vs, H2, I2, r2, q2⟩ => hm pins s2 σ H2 x vs v us Q I2 r1 r2 q2
/- xs.append(e), list.index on a module's tuple .. are MtR facts of 06m -/
end
end L2

namespace L2
open PySem PySem.Spec PyProof.Rows

def MtM (X : Cx) (id : String) (r : V → List V → Hp → VK → Prop) : Prop :=
  ∀ (pins : List (Addr × Obj)) (s : Shared) (σ : St) (H : Hp) (x : V) (xs : List V) (v : Value) (us : List Value) (Q : VK), Inv X pins σ H s → RelV x v → Vals xs us → r x xs H Q →
    wpAny (model X.prog X.w) X.A (call (.builtin id) (v :: us)) (EP X pins σ Q) X.xe s

/-! ### lists of values -/
theorem Vals.one : ∀ {x : V} {us : List Value}, Vals [x] us → ∃ u, us = [u] ∧ RelV x u
  | _, _, .cons r .nil => ⟨_, rfl, r⟩
theorem Vals.two : ∀ {x y : V} {us : List Value}, Vals [x, y] us → ∃ u v, us = [u, v] ∧ RelV x u ∧ RelV y v
  | _, _, _, .cons r (.cons q .nil) => ⟨_, _, rfl, r, q⟩
theorem Vals.zero : ∀ {us : List Value}, Vals [] us → us = []
  | _, .nil => rfl
section
variable {X : Cx} {pins : List (Addr × Obj)} {σ : St} {H : Hp} {s : Shared} {l b : Addr} {xs ys zs : List V}

/-! ### the two steps: a tracked list is rewritten, a new list is laid -/
theorem Inv.lset {its its' : List Value} {n : Nat} {f : Array Value → Array Value} {t' : Nat} (I : Inv X pins σ H s) (hH : H l = some (.lst xs))
    (e : s.heap.get? l = some { cls := .type "list", data := .seq its.toArray n }) (hf : f its.toArray = its'.toArray) (hv : Vals ys its') (hz : ys.length ≤ sizeLine) :
    Inv X pins σ (upd H l (.lst ys)) { s with heap := s.heap.update l (Obj.mapSeq f), toks := t' } := by
  have q := PySem.IsL.update e f
  rw [hf] at q
  refine I.write (x := l) (e := l) (by rw [hH]; exact trivial) (.inl rfl) (fun b' u hb hu => (Heap.get?_update_other s.heap (Obj.mapSeq f) (Ne.symm hb)).trans hu) ⟨_, q⟩ ?_
  exact ⟨hz, its', _, hv, q⟩
theorem Inv.lnew {its : List Value} {t' : Nat} (I : Inv X pins σ H s) (hv : Vals ys its) (hz : ys.length ≤ sizeLine) :
    Inv X pins σ (upd H s.heap.objs.size (.lst ys)) { s with heap := s.heap.push { cls := .type "list", data := .seq its.toArray }, toks := t' } :=
  I.laid (fun _ _ q => Heap.get?_push_of_some _ q) (Nat.le_refl _) ⟨hz, its, 0, hv, Heap.get?_push_size _ rfl⟩
theorem Inv.fresh (I : Inv X pins σ H s) : H s.heap.objs.size = none := I.hok.fresh (Nat.le_refl _)
theorem Inv.lstM (I : Inv X pins σ H s) (hH : H l = some (.lst xs)) : xs.length ≤ sizeLine ∧ ∃ (its : List Value) (n : Nat), Vals xs its ∧ xs.length = its.length ∧ s.heap.get? l = some { cls := .type "list", data := .seq its.toArray n } := by
  obtain ⟨z, its, n, r, e⟩ := I.hok l _ hH
  exact ⟨z, its, n, r, r.length, e⟩

end

section
variable {X : Cx}

/-! ### methods -/
def rAppend : V → List V → Hp → VK → Prop := fun x vs H Q => ∃ l xs y, x = .ref l ∧ vs = [y] ∧ H l = some (.lst xs) ∧ xs.length < sizeLine ∧ Q .non (upd H l (.lst (xs ++ [y])))
theorem mt_append : MtM X "list.append" rAppend := by
  intro pins s σ H x vs v us Q I rx rv h
  obtain ⟨l, xs, y, rfl, rfl, hH, hz, q⟩ := h
  cases rx
  obtain ⟨u, rfl, ru⟩ := rv.one
  obtain ⟨z, its, n, r, hl, e⟩ := I.lstM hH
  refine call_meets F.slot_list_append ⟨_, e, rfl⟩ F.entry_list_append (F.args_list_append_2 _ _) (PySem.list_append l its.toArray n u (by rw [List.size_toArray]; omega)) ⟨e, ?_⟩
  refine ⟨.non, _, I.lset (its' := its ++ [u]) hH e (by simp) (r.append (.cons ru .nil)) ?_, rfl, q⟩
  rw [List.length_append, List.length_singleton]
  omega

def rClear : V → List V → Hp → VK → Prop := fun x vs H Q => ∃ l xs, x = .ref l ∧ vs = [] ∧ H l = some (.lst xs) ∧ Q .non (upd H l (.lst []))
theorem mt_clear : MtM X "list.clear" rClear := by
  intro pins s σ H x vs v us Q I rx rv h
  obtain ⟨l, xs, rfl, rfl, hH, q⟩ := h
  cases rx
  have hus := rv.zero
  subst hus
  obtain ⟨z, its, n, r, hl, e⟩ := I.lstM hH
  refine call_meets F.slot_list_clear ⟨_, e, rfl⟩ F.entry_list_clear (F.args_list_clear_1 _) (AutoSeq1.list_clear_list_0 l its.toArray n (by rw [List.size_toArray]; omega)) ⟨e, ?_⟩
  exact ⟨.non, _, I.lset (its' := []) (ys := []) hH e rfl .nil (Nat.zero_le _), rfl, q⟩

/-! ### list + list, list += list, list * int -/
def rCat : R2 := fun x y H Q => ∃ l b xs zs, x = .ref l ∧ y = .ref b ∧ H l = some (.lst xs) ∧ H b = some (.lst zs) ∧ xs.length + zs.length ≤ sizeLine ∧ ∀ p, H p = none → Q (.ref p) (upd H p (.lst (xs ++ zs)))
theorem op_cat : OpR X (binaryOp .Add) rCat := by
  intro pins s σ H x y v u Q I rx ry h
  obtain ⟨l, b, xs, zs, rfl, rfl, hH, hB, hz, q⟩ := h
  cases rx
  cases ry
  obtain ⟨z, its, n, r, hl, e⟩ := I.lstM hH
  obtain ⟨z2, its2, n2, r2, hl2, e2⟩ := I.lstM hB
  refine PySem.P.add_list e e2 ?_ (by rw [List.size_toArray, List.size_toArray]; omega)
  have ea : its.toArray ++ its2.toArray = (its ++ its2).toArray := by simp
  rw [ea]
  exact ⟨.ref _, _, I.lnew (t' := s.toks) (r.append r2) (by rw [List.length_append]; omega), rfl, q _ I.fresh⟩
/-! ### del xs[i] -/
end

/-! ### xs[a:b] = ys -/

end L2

namespace L2
open PySem PySem.Spec PyProof.Rows

/-! ### lists of pairs as tables -/


/-! ### a tracked dict, its keys ints and texts or tuples of these -/




/-! ### readings and rules -/


/-! ### displays -/

/-! ### methods -/


/-! ### dict(d): a copy -/


end L2

namespace Att
open PySem PySem.W PySem.Calls PyProof.Rows

/-! ### the script -/
theorem ints_of_wellAll {P : Params} {h : Heap} : ∀ (ns : List Int) (vs : List Value), WellAll P h vs (ns.map WData.int) → IntsAre vs ns := by
  intro ns
  induction ns with
  | nil =>
    intro vs w
    rw [List.map_nil] at w
    cases w
    exact .nil
  | cons n ns ih =>
    intro vs w
    rw [List.map_cons] at w
    cases w with
    | cons a b =>
      cases a
      exact .cons _ _ (ih _ b)

theorem script_of {l : OpenLaw} {n : Nat} (hn : l.most = some n) {P : Params} {h : Heap} {args : List WData} {vals : List Value}
    (hpre : l.row.toRowW.claim.pre args = true) (hwl : WellAll P h vals args) :
    ∃ a vs ns, vals = [Value.ref a] ∧ args = [WData.list (ns.map WData.int)] ∧ h.get? a = some { cls := .type "list", data := .seq vs.toArray } ∧ IntsAre vs ns ∧ ns.length ≤ n := by
  have hsh : WShape.hasAll [] args [.list .int] = true := (pre_splitW hpre).1
  have hc : l.pre.holds [] { args := args } = true := (pre_splitW hpre).2
  obtain ⟨d, r, rfl, h1, h2⟩ := hasAllW_cons hsh
  obtain rfl := hasAllW_nil h2
  obtain ⟨xs, rfl, h3⟩ := hasW_list h1
  obtain ⟨ns, rfl⟩ := items_int h3
  have hlen : ns.length ≤ n := by
    unfold OpenLaw.pre at hc
    have h4 : (WTm.not (.lt (.lit (.int (n : Int))) (.len (.arg 0)))).holds [] { args := [.list (ns.map .int)] } = true := by
      have h4 := (holds_andW hc).1
      rw [hn] at h4
      exact h4
    have h5 := condW_of h4 (w_not (w_lt w_lit (w_len_list (w_arg rfl))))
    rw [List.length_map] at h5
    refine Nat.le_of_not_lt fun q => ?_
    have q' : (n : Int) < ((ns.length : Nat) : Int) := by omega
    first
      | (rw [decide_eq_true q'] at h5; exact absurd h5 (by decide))
      | (simp at h5; omega)
  cases hwl with
  | cons w1 w2 =>
    cases w2
    cases w1 with
    | list ho hall => exact ⟨_, _, ns, rfl, rfl, ho, ints_of_wellAll ns _ hall, hlen⟩

theorem post_true (l : OpenLaw) (args : List WData) : l.row.toRowW.claim.post args (.bool true) args = true :=
  postW_of (r := l.row.toRowW) (X := (true == true))
    (show WShape.has [] (.bool true) .bool = true by first | rfl | decide | simp [WShape.has, WShape.arms, WShape.armsAll])
    (show (WTm.eq .res (.lit (.bool true))).value [] { args := args, res := some (.bool true), after := args } = some (.bool (true == true)) from w_eq_bool (w_res rfl) w_lit) rfl

/-! ### the attachment: holds_open's last premise (the goal 'hc' behind k_head) from a wpAny of the law's body -/
/-- the same from a codeAny of the CALL (for a layer whose function contracts speak of calls) -/
theorem attach_call {l : OpenLaw} {n : Nat} {q : Program} {loose : List Str} {XP : (Str → Option Value) → Heap → Prop} {YP : World → Heap → Prop} {d : DefRec}
    (hn : l.most = some n) (hdf : d.params.defaults = [])
    (call : ∀ (w : World) (s₀ s₁ : Shared) (mg mb : Str → Option Value) (fa : Addr) (o : Obj) (pm cd doc : Value) (a : Addr) (vs : List Value) (ns : List Int),
      Ground q loose [] XP w s₀ mg mb s₁.heap → YP w s₁.heap →
      s₁.heap.get? fa = some o → o.data = .func (docDef d.name d.params d.body d.scope pm cd doc) → s₁.heap.CodeRec cd d.name → mg d.name = some (.ref fa) →
      s₁.heap.get? a = some { cls := .type "list", data := .seq vs.toArray } → IntsAre vs ns → ns.length ≤ n → s₁.gens = #[] →
      codeAny (model l.prog w) callerA (.call (.ref fa) ⟨[.ref a], []⟩) (fun r s' => r = .ok (.ret (.bool true)) ∧ OldK s₁.heap s'.heap ∧ s'.os = s₁.os ∧ AllBare s'.gens) s₁) :
    WalkO q loose XP YP l.row.toRowW d [] (fun f vs => PySem.call f vs) := by
  intro w s₀ s₁ mg mb G Y fa o pm cd doc dV kV ho hd hcd hD hmg hg args vals as hpre hlay hrd hwl hlo
  obtain rfl : dV = .none := Dflts.none hD hdf
  obtain rfl : kV = .none := Dflts.noKw hD
  obtain ⟨a, vs, ns, rfl, rfl, hobj, hints, hlen⟩ := script_of hn hpre hwl
  refine enter_call (codeAny_mono (call w s₀ s₁ mg mb fa o pm cd doc a vs ns G Y ho (fd_plain hd) hcd hmg hobj hints hlen hg) fun r s' hq => ?_)
  obtain ⟨rfl, h2, h3, h4⟩ := hq
  exact ⟨.inl ⟨.bool true, .bool true, [], rfl, fun _ => rfl, .bool true, post_true l _, fun _ => ⟨List.Pairwise.nil, fun _ hm => (nomatch hm)⟩⟩, h2, h3, h4⟩

/-! ### rules over ANY heap (no ledger) from facts about the written part K: the library's own take a ledger (News) for what they write -/
end Att

namespace L2
open PySem PySem.Spec PyProof.Rows

theorem vals_ints : ∀ {vs : List Value} {ns : List Int}, IntsAre vs ns → Vals (ns.map V.int) vs
  | _, _, .nil => .nil
  | _, _, .cons n t h => .cons ⟨t, rfl⟩ (vals_ints h)

/-- nothing is tracked but the script, known to the object (or it is an object of the module) -/
def Only (H : Hp) : Prop := ∀ b, H b = none ∨ ∃ o xs, H b = some (.frz o (.lst xs))

/-- THE HEAD: the law's promise, at the heap behind the top. F, the promise of the law's def, may use that base is part of the heap (so K.In base, base.Ns mainGlobals mg stand in Mod) -/
theorem law_call {P : Program} {w : World} {K : PySem.W.Frag} {mg mb : Str → Option Value} {CX : CXT} {k : Nat} {fa a : Addr} {fd : FuncData} {x : Str} {sp : Sp} {s₁ : Shared} {vs : List Value} {ns : List Int}
    (KX : K.In s₁.heap) (hns : s₁.heap.Ns mainGlobals mg) (hb : s₁.heap.Ns builtinsNs mb) (hbb : ∀ x : Str, x ≠ "__name__" → mb x = bootBuiltins x) (hlim : s₁.heap.NoLimit) (hg : s₁.gens = #[])
    (ha : s₁.heap.get? a = some { cls := .type "list", data := .seq vs.toArray }) (hi : IntsAre vs ns) (hl : ns.length ≤ sizeLine) (hr : Room k callerA)
    (F : ∀ base : Heap, K.In base → base.Ns mainGlobals mg → FnOk P w K mg base CX k fa fd [x] sp) (hbind : ∀ (s : Shared) (u : Value), BindsTo s fd ⟨[u], []⟩ [(x, u)])
    (hsp : ∀ H : Hp, Only H → SqL K H a (ns.map V.int) → sp [.ref a] H (fun v _ => v = .bl true) fun _ _ _ => False)
    (hCX : ∀ H e s', CX [] H s₁ (fun _ _ _ => False) e s' → False) :
    codeAny (model P w) callerA (.call (.ref fa) ⟨[.ref a], []⟩) (fun r s' => r = .ok (.ret (.bool true)) ∧ OldK s₁.heap s'.heap ∧ s'.os = s₁.os ∧ AllBare s'.gens) s₁ := by
  have rv := vals_ints hi
  have lenV := hi.length
  -- from an abstract heap in which nothing but the script may be tracked
  have core : ∀ H : Hp, Only H → SqL K H a (ns.map V.int) → HOk P w H s₁.heap → (∀ b, H b ≠ none → b = a) → (H a ≠ none → K.lookup a = none) →
      codeAny (model P w) callerA (.call (.ref fa) ⟨[.ref a], []⟩) (fun r s' => r = .ok (.ret (.bool true)) ∧ OldK s₁.heap s'.heap ∧ s'.os = s₁.os ∧ AllBare s'.gens) s₁ := by
    intro H hO hS hok hA hK
    have base_of : ∀ {b : Addr} {o : Obj}, s₁.heap.get? b = some o → H b = none → (hidT s₁.heap H).get? b = some o := fun e n => hidT_get e n
    have noA : ∀ {b : Addr} {o : Obj} {es : Array DictEntry} {ep : Nat}, s₁.heap.get? b = some o → o.data = .dict es ep → H b = none := fun {b o es ep} e d => by
      cases q : H b with
      | none => rfl
      | some u =>
        have e' : b = a := hA b (by rw [q]; simp)
        subst e'
        rw [ha] at e; cases e
        have d' : Data.seq vs.toArray _ = Data.dict es ep := d
        cases d'
    have nsK : ∀ {b : Addr} {m : Str → Option Value}, s₁.heap.Ns b m → (hidT s₁.heap H).Ns b m := fun {b m} ⟨o, es, ep, e, d, r⟩ => ⟨o, es, ep, base_of e (noA e d), d, r⟩
    have hKb : K.In (hidT s₁.heap H) := fun b o e => base_of (KX b o e) (by
      cases q : H b with
      | none => rfl
      | some u =>
        have e' : b = a := hA b (by rw [q]; simp)
        subst e'
        rw [hK (by rw [q]; simp)] at e; cases e)
    have hM : Mod K mg (hidT s₁.heap H) := ⟨hKb, nsK hns, ⟨mb, nsK hb, hbb⟩, let ⟨mc, h1, h2⟩ := hlim; ⟨mc, nsK h1, h2⟩⟩
    have e0 : Env0 P w K mg (hidT s₁.heap H) callerA [] s₁ H := ⟨rfl, hM, fun b o e => of_hidT e, Nat.le_of_eq (hidT_size _ _), trivial, fun b hb => absurd (show b ∈ ([] : List Addr) from hb) (by simp), hok, .of_eq hg⟩
    refine codeAny_mono ((F _ hKb (nsK hns)).run callerA [] s₁ H ⟨[.ref a], []⟩ [.ref a] [.ref a] _ _ hr e0 (hbind s₁ (.ref a)) (.cons rfl .nil) (hsp H hO hS)) fun r s' h => ?_
    cases r with
    | error e => exact (hCX H e s' h).elim
    | ok fl =>
      cases fl with
      | next => exact False.elim h
      | brk => exact False.elim h
      | cont => exact False.elim h
      | ret u =>
        obtain ⟨v, H', os, bare, un, hok', r', q⟩ := h
        have q' : v = .bl true := q
        subst q'
        obtain rfl : u = Value.bool true := r'
        refine ⟨rfl, OldK.of_keep fun b o e => ?_, os, bare⟩
        cases q : H b with
        | none => exact un.keep b o e q (by intro z; exact absurd (show b ∈ ([] : List Addr) from z) (by simp)) (by simp)
        | some u =>
          rcases hO b with z | ⟨ob, xs, z⟩
          · rw [q] at z; cases z
          · have z2 := un.frzs b ob _ z
            obtain ⟨e1, _⟩ := hok b _ z
            obtain ⟨e2, _⟩ := hok' b _ z2
            rw [e] at e1; cases e1
            exact e2
  cases hk : K.lookup a with
  | some o =>
    -- the script is one of the module's own objects
    have e := KX a o hk
    rw [ha] at e
    cases e
    refine core (fun _ => none) (fun _ => .inl rfl) (.inr ⟨_, vs.toArray, _, hk, rfl, rfl, rfl, by rw [List.size_toArray, lenV]; exact hl, by simpa using rv⟩) (fun b u z => by have z' : (none : Option HO) = some u := z; cases z') (fun b z => absurd rfl z) fun z => absurd rfl z
  | none =>
    refine core (fun b => if b = a then some (.frz { cls := .type "list", data := .seq vs.toArray } (.lst (ns.map V.int))) else none) (fun b => ?_) (.inl (.inr ⟨{ cls := .type "list", data := .seq vs.toArray }, if_pos rfl⟩)) (fun b u z => ?_) (fun b z => ?_) fun _ => hk
    · by_cases hb : b = a
      · exact .inr ⟨_, _, if_pos hb⟩
      · exact .inl (if_neg hb)
    · by_cases hb : b = a
      · have z' := (if_pos hb).symm.trans z
        cases z'
        subst hb
        exact ⟨ha, by rw [List.length_map]; exact hl, vs, _, rv, ha⟩
      · have z' := (if_neg hb).symm.trans z
        cases z'
    · by_cases hb : b = a
      · exact hb
      · exact absurd (if_neg hb) z
end L2

namespace L2
open PySem PySem.Spec PyProof.Rows

/-- the goal that k_head leaves (case hc), from the law's promise. F gives the function object fd (K's own) once, then the promise over every base -/
theorem walk_of {l : PySem.W.OpenLaw} {n k : Nat} {q : Program} {loose : List Str} {XP : (Str → Option Value) → Heap → Prop} {YP : World → Heap → Prop} {d : DefRec} {K : Params → PySem.W.Frag} {CX : World → CXT} {sp : World → Sp} {x : Str}
    (hn : l.most = some n) (hn2 : n ≤ sizeLine) (hdf : d.params.defaults = []) (hr : Room k callerA)
    (hY : ∀ (w : World) (h : Heap), YP w h → (K w.params).In h)
    (F : ∀ (w : World) (mg : Str → Option Value) (fa : Addr) (h : Heap), (K w.params).In h → h.Ns mainGlobals mg → mg d.name = some (.ref fa) →
      ∃ fd : FuncData, (∀ (s : Shared) (u : Value), BindsTo s fd ⟨[u], []⟩ [(x, u)]) ∧
        ∀ base : Heap, (K w.params).In base → base.Ns mainGlobals mg → FnOk l.prog w (K w.params) mg base (CX w) k fa fd [x] (sp w))
    (hsp : ∀ (w : World) (H : Hp) (a : Addr) (ns : List Int), ns.length ≤ n → Only H → SqL (K w.params) H a (ns.map V.int) → sp w [.ref a] H (fun v _ => v = .bl true) fun _ _ _ => False)
    (hCX : ∀ (w : World) (H : Hp) (s : Shared) (e : Value) (s' : Shared), CX w [] H s (fun _ _ _ => False) e s' → False) :
    PySem.W.WalkO q loose XP YP l.row.toRowW d [] (fun f vs => PySem.call f vs) := by
  refine Att.attach_call hn hdf fun w s₀ s₁ mg mb fa o pm cd doc a vs ns G Y ho hd hcd hmg hobj hints hlen hg => ?_
  have KX := hY w _ Y
  obtain ⟨fd, hb, hF⟩ := F w mg fa _ KX G.T.g hmg
  exact law_call KX G.T.g G.T.b G.T.builtins G.T.nolimit hg hobj hints (Nat.le_trans hlen hn2) hr hF hb (fun H hO hS => hsp w H a ns hlen hO hS) fun H e s' => hCX w H s₁ e s'
end L2

/- THE LAST THEOREM (shape; LID, My.* are yours):
   My.Adr: a structure of the addresses that your layer names (classes, functions); My.Txt K t: a structure (Prop) of the equations over K;
   My.txt_mk : {K} {implicit addresses ..} (e1 : nsIn K mainGlobals "law" = some (some (.ref f))) (e2 : K.lookup f = some ⟨oc, od, .func (fnOf "law" "law" params body scope dV kV doc pm an cdv ct), sl⟩) (e3 : codeIn K cdv "law" = true) .. : ∃ t, My.Txt K t

set_option maxRecDepth 100000 in
set_option maxHeartbeats 0 in
theorem PySem.Challenge.cw_LID_holds : PySem.Challenge.rw_LID.Holds := by
  w_on; o_law; k_head; (case hw => w_witness2)
  k_fill
  refine L2.walk_of (l := PySem.Challenge.rw_LID) (n := 63) (k := 40) (x := "script") (CX := fun w => ..) (sp := fun _ => My.sp_law) rfl (by decide) rfl ⟨rfl, by decide, by decide⟩ (fun w h Y => PySem.W.kIn_of Y) ?F ?S ?C
  case F =>
    intro w mg fa h KX G hmg
    have T : ∃ t, My.Txt (L2.KOf KX) t := by
      dsimp only [L2.KOf]                          -- K must stand as «<heap const> w.params» for k_is
      refine' My.txt_mk ?e1 ?e2 ?e3 ..
      (case e1 => PySem.W.k_is)                    -- in the order: a name -> its address -> its object -> its parts
      (case e2 => PySem.W.k_is)
      ..
    obtain ⟨t, T⟩ := T
    have e0 := hmg.symm.trans (PySem.W.mg_of KX G T.law)
    cases e0                                       -- fa is the law's own address
    exact ⟨_, fun s u => .of_eq rfl, fun base kb nb => My.law_fn T kb nb⟩     -- if «.of_eq rfl» comes too early: refine' ⟨_, ?b, fun base kb nb => My.law_fn T kb nb⟩; exact fun s u => .of_eq rfl
  case S => exact fun w H a ns hl hO hS => ..
  case C => exact ..
(the tactic k_is has no namespace: write k_is) -/

/-! SHORT WORDS over the layer: a def of the text, its body, what a loop and a test want. -/
namespace L2
open PySem PySem.Spec PyProof.Rows

/-! ### the text by places -/
def defArgs (s : Stmt) : Arguments := match s with
  | .FunctionDef _ a _ _ _ _ _ _ _ _ => a
  | _ => { posonlyargs := [], args := [], vararg := none, kwonlyargs := [], kw_defaults := [], kwarg := none, defaults := [] }
def defBody (s : Stmt) : List Stmt := match s with
  | .FunctionDef _ _ b _ _ _ _ _ _ _ => b
  | _ => []
def defScope (s : Stmt) : Scope := match s with
  | .FunctionDef _ _ _ _ _ _ sc _ _ _ => sc
  | _ => { kind := .function, names := [], isGenerator := false, isCoroutine := false }

/-! ### no exception leaves a def -/
abbrev CX0 : CXT := fun _ _ _ _ _ _ => False
abbrev E0 : XK := fun _ _ _ => False
theorem pass0 {X : Cx} : Passes CX0 X E0 := fun _ _ _ _ _ _ _ h => h.elim

/-! ### a def (or method) of the text as it stands behind the top -/
structure Fun (K : PySem.W.Frag) (x qual : Str) (st : Stmt) (f : Addr) (fd : FuncData) : Prop where
  ex : ∃ (oc : Value) (od : Option Addr) (kV doc pm : Value) (an : Option Addr) (cdv ct : Value) (osl : Array (Option Value)),
    fd = PySem.W.fnOf x qual (defArgs st) (defBody st) (defScope st) .none kV doc pm an cdv ct ∧ K.lookup f = some ⟨oc, od, .func fd, osl⟩ ∧ PySem.W.codeIn K cdv qual = true
  kp : PySem.W.keepIn K (.ref f) = true
section
variable {P : Program} {w : World} {K : PySem.W.Frag} {mg : Str → Option Value} {base : Heap}
/-- THE RULE for a def: its body as a term of rules, and the reading of that term -/
theorem Fun.ok {x qual : Str} {st : Stmt} {f : Addr} {fd : FuncData} {N ps : List Str} {k : Nat} {sp : Sp} (F : Fun K x qual st f fd) (S : FnScope N ps (defScope st)) (len : ∀ vs H Q E, sp vs H Q E → vs.length = ps.length)
    (hbody : ∀ (cdv : Value) (A : Around) (outer : List Env) (s : Shared) (H : Hp) (vs : List V) (Q : VK) (E : XK), Room k (A.deeper (envOfC qual (defScope st) s.heap.objs.size f cdv)) → sp vs H Q E →
      ∃ t, PSs (cxOf CX0 P w K mg base N qual (defScope st) f cdv A outer s H E).nox (defBody st) t ∧ t { nx := fun _ H' => Q .non H', rt := Q } (start N vs) H) : FnOk P w K mg base CX0 (k + 1) f fd ps sp := by
  obtain ⟨oc, od, kV, doc, pm, an, cdv, ct, osl, rfl, lk, hcd⟩ := F.ex
  refine fn_of lk hcd S len fun A outer s H vs Q E hr hsp => ?_
  obtain ⟨t, h, q⟩ := hbody cdv A outer s H vs Q E hr hsp
  exact ⟨t, h.nox, q⟩
/-- how its arguments bind (no defaults): h is «fun _ _ _ _ _ _ us hl => match us, hl with | [_, _], _ => rfl», one _ a parameter -/
theorem Fun.binds {x qual : Str} {st : Stmt} {f : Addr} {fd : FuncData} {ps : List Str} (F : Fun K x qual st f fd)
    (h : ∀ (kV doc pm : Value) (an : Option Addr) (cdv ct : Value) (us : List Value), us.length = ps.length → bindArgs (PySem.W.fnOf x qual (defArgs st) (defBody st) (defScope st) .none kV doc pm an cdv ct) ⟨us, []⟩ = pure (ps.zip us)) : Binds K fd ps [] := by
  obtain ⟨oc, od, kV, doc, pm, an, cdv, ct, osl, rfl, lk, hcd⟩ := F.ex
  exact .all (h kV doc pm an cdv ct)
theorem fun_mk {x qual : Str} {st : Stmt} {f : Addr} {oc : Value} {od an : Option Addr} {osl : Array (Option Value)} {kV doc pm cdv ct : Value} (l : K.lookup f = some ⟨oc, od, .func (PySem.W.fnOf x qual (defArgs st) (defBody st) (defScope st) .none kV doc pm an cdv ct), osl⟩)
    (c : PySem.W.codeIn K cdv qual = true) (k : PySem.W.keepIn K (.ref f) = true) : Fun K x qual st f (PySem.W.fnOf x qual (defArgs st) (defBody st) (defScope st) .none kV doc pm an cdv ct) := ⟨⟨oc, od, kV, doc, pm, an, cdv, ct, osl, rfl, l, c⟩, k⟩
end
theorem small1000 {n : Nat} (h : n ≤ 1000) : n < sizeLine := Nat.lt_of_le_of_lt h (by decide)

/-! ### expressions in short: the name that stands in the i-th slot -/
section
variable {X : Cx}
theorem pv (i : Nat) {x : Str} {pos : Pos} (hN : X.N[i]? = some x := by rfl) (hv : Vis X.env.scope x := by first | exact Or.inl rfl | exact Or.inr (Or.inl rfl) | exact Or.inr (Or.inr rfl)) (hd : (x == ("__debug__" : Str)) = false := by decide)
    (hcd : (x == ("__classdict__" : Str)) = false := by decide) : PE X (.Name x pos) (tVar i) := pe_var hN hv hd hcd
end

/-! ### tests -/
theorem iteF {A B : Prop} (h : B) : if false = true then A else B := by
  rw [if_neg Bool.false_ne_true]
  exact h
theorem iteT {A B : Prop} (h : A) : if true = true then A else B := by
  rw [if_pos rfl]
  exact h
theorem ite2 {c A B : Prop} [Decidable c] (h1 : c → A) (h2 : ¬ c → B) : if c then A else B := by
  by_cases h : c
  · rw [if_pos h]
    exact h1 h
  · rw [if_neg h]
    exact h2 h
/-! ### heaps -/
/-- all that was tracked is as it was -/
def Same (H H' : Hp) : Prop := ∀ b o, H b = some o → H' b = some o
theorem Same.refl (H : Hp) : Same H H := fun _ _ h => h
theorem Same.trans {H H1 H2 : Hp} (a : Same H H1) (b : Same H1 H2) : Same H H2 := fun c o h => b c o (a c o h)
theorem Same.free {H H' : Hp} (e : Same H H') {l : Addr} (h : H' l = Option.none) : H l = Option.none := by
  cases q : H l with
  | none => rfl
  | some o =>
    rw [e l o q] at h
    cases h
theorem Same.seq {K : PySem.W.Frag} {H H' : Hp} {a : Addr} {xs : List V} (e : Same H H') (h : SqL K H a xs) : SqL K H' a xs := by
  rcases h with (h | ⟨o, h⟩) | h
  · exact .inl (.inl (e _ _ h))
  · exact .inl (.inr ⟨o, e _ _ h⟩)
  · exact .inr h

/-! ### a dict's pairs: keys that differ -/
end L2

set_option Elab.async false
set_option linter.all false
set_option maxRecDepth 100000
/-! EXTENSION 1: list comprehensions, enumerate -/
namespace L2
open PySem PySem.Spec PyProof.Rows

/-! ### the cells that a block captures -/
theorem cellOf_eq {env : Env} {x : Str} {c : Addr} (h : env.cells.lookup x = some c) : cellOf env x = pure c := by
  unfold cellOf
  rw [h]
def closOf (env : Env) : List (Str × NameKind) → List (Str × Addr) → List (Str × Addr)
  | [], cs => cs
  | (n, k) :: r, cs => closOf env r (if k == .free then (n, (env.cells.lookup n).getD 0) :: cs else cs)
theorem clos_go {env : Env} : ∀ (ns : List (Str × NameKind)) (cs : List (Str × Addr)), (∀ n, (n, NameKind.free) ∈ ns → ∃ c, env.cells.lookup n = some c) →
    (forIn (m := Sem) ns cs fun x r => match x with
      | (name, kind) => if (kind == NameKind.free) = true then do let c ← cellOf env name; pure (ForInStep.yield ((name, c) :: r)) else pure (ForInStep.yield r)) = pure (closOf env ns cs)
  | [], cs, _ => rfl
  | (n, k) :: r, cs, h => by
    rw [List.forIn_cons]
    by_cases hk : (k == NameKind.free) = true
    · have ek : k = .free := by simpa using hk
      obtain ⟨c, e⟩ := h n (by rw [ek]; exact List.mem_cons_self)
      simp only [hk, if_true, cellOf_eq e]
      have q := clos_go r ((n, c) :: cs) fun m hm => h m (List.mem_cons_of_mem _ hm)
      show (forIn (m := Sem) r ((n, c) :: cs) _) = pure (closOf env r (if (k == .free) = true then (n, (env.cells.lookup n).getD 0) :: cs else cs))
      rw [if_pos hk, e]
      exact q
    · simp only [hk]
      have q := clos_go r cs fun m hm => h m (List.mem_cons_of_mem _ hm)
      show (forIn (m := Sem) r cs _) = pure (closOf env r (if (k == .free) = true then (n, (env.cells.lookup n).getD 0) :: cs else cs))
      rw [if_neg hk]
      exact q
theorem closureFor_ok {scope : Scope} {env : Env} (h : ∀ n, (n, NameKind.free) ∈ scope.names → ∃ c, env.cells.lookup n = some c) : closureFor scope env = pure (closOf env scope.names []) := by
  have e := clos_go scope.names [] h
  unfold closureFor
  show (forIn (m := Sem) scope.names [] (fun x r => match x with
      | (name, kind) => if (kind == NameKind.free) = true then do let c ← cellOf env name; pure (ForInStep.yield ((name, c) :: r)) else pure (ForInStep.yield r)) >>= fun s => pure s) = _
  rw [e]
  rfl
theorem closOf_sub {env : Env} {x : Str} {c : Addr} : ∀ (ns : List (Str × NameKind)) (cs : List (Str × Addr)), (∀ n, (n, NameKind.free) ∈ ns → ∃ c, env.cells.lookup n = some c) → (cs.lookup x = some c → env.cells.lookup x = some c) →
    (closOf env ns cs).lookup x = some c → env.cells.lookup x = some c
  | [], _, _, h0, h => h0 h
  | (n, k) :: r, cs, hf, h0, h => by
    unfold closOf at h
    refine closOf_sub r _ (fun m hm => hf m (List.mem_cons_of_mem _ hm)) (fun q => ?_) h
    by_cases hk : (k == NameKind.free) = true
    · have ek : k = .free := by simpa using hk
      subst ek
      obtain ⟨d, e⟩ := hf n List.mem_cons_self
      rw [if_pos hk, e, List.lookup_cons] at q
      by_cases hx : (x == n) = true
      · have ex : x = n := by simpa using hx
        rw [hx] at q
        subst ex
        rw [e]; exact q
      · simp only [hx] at q
        exact h0 q
    · rw [if_neg hk] at q
      exact h0 q
theorem closOf_has {env : Env} {x : Str} : ∀ (ns : List (Str × NameKind)) (cs : List (Str × Addr)), ((cs.lookup x).isSome = true ∨ (x, NameKind.free) ∈ ns) → ((closOf env ns cs).lookup x).isSome = true
  | [], _, h => h.elim id fun z => absurd z (by simp)
  | (n, k) :: r, cs, h => by
    unfold closOf
    refine closOf_has r _ ?_
    rcases h with h | h
    · refine .inl ?_
      split
      · rw [List.lookup_cons]
        split
        · rfl
        · exact h
      · exact h
    · rcases List.mem_cons.mp h with e | h
      · cases e
        refine .inl ?_
        rw [if_pos (show (NameKind.free == NameKind.free) = true from rfl), List.lookup_cons]
        simp
      · exact .inr h

/-! ### the block -/
/-- the values at a block's entry: none for its own names, the place in the def's frame for a captured one -/
def capSt (cap : List (Option Nat)) (σ : St) : St := cap.map fun o => o.bind fun j => (σ[j]?).join
/-- the block's context -/
def cxComp (X : Cx) (scope : Scope) (N' : List Str) (fp : List Addr) (pins : List (Addr × Obj)) (s₃ : Shared) (H₃ : Hp) : Cx where
  prog := X.prog
  w := X.w
  K := X.K
  mg := X.mg
  base := X.base
  A := X.A
  N := N'
  s₀ := s₃
  H₀ := H₃
  env := compEnvC scope (closOf X.env scope.names []) s₃.heap.objs.size X.env
  outer := X.stack
  stack := X.stack
  ex := fp
  fn := fun _ => false
  calm := X.calm
  pn := X.pn ++ pins
  xe := fun _ _ => False
/-- what of the text a block must have: N' its names (own and captured), cap where the captured ones stand in the def's frame -/
structure CompOk (X : Cx) (scope : Scope) (N' : List Str) (cap : List (Option Nat)) : Prop where
  kind : scope.kind = .function
  nocell : ∀ y ∈ scope.names, y.2 ≠ .cell
  loc : ∀ y ∈ scope.names, y.2 = .local → scope.names.lookup y.1 = some .local
  fr : ∀ y ∈ scope.names, y.2 = .free → X.env.kindOf y.1 = some .cell
  frl : ∀ y ∈ scope.names, y.2 = .free → scope.names.lookup y.1 = some .free
  nd : N'.Nodup
  len : cap.length = N'.length
  cap : ∀ (i j : Nat) (x : Str), cap[i]? = some (some j) → N'[i]? = some x → X.N[j]? = some x ∧ (x, NameKind.free) ∈ scope.names

section
variable {X : Cx} {scope : Scope} {N' : List Str} {cap : List (Option Nat)} {fp : List Addr} {pins : List (Addr × Obj)} {s : Shared} {σ : St} {H : Hp}
theorem CompOk.clos (S : CompOk X scope N' cap) (ok : X.Ok) : ∀ n, (n, NameKind.free) ∈ scope.names → ∃ c, X.env.cells.lookup n = some c := fun n hn => ok.has n (.inl (S.fr _ hn rfl))
theorem relabel_kind {env : Env} {x : Str} : ∀ {names : List (Str × NameKind)} {k : NameKind},
    (names.map fun (n, k) => if (k == NameKind.free && env.scope.kind == .function && env.kindOf n == some .cell) then (n, NameKind.cell) else (n, k)).lookup x = some k → k = .cell ∨ k = .free → (∀ y ∈ names, y.2 ≠ .cell) → (x, NameKind.free) ∈ names
  | [], _, h, _, _ => by simp at h
  | (n, q) :: r, k, h, hk, hc => by
    have h' : List.lookup x ((if (q == NameKind.free && env.scope.kind == .function && env.kindOf n == some .cell) = true then (n, NameKind.cell) else (n, q)) :: (r.map fun (n, k) => if (k == NameKind.free && env.scope.kind == .function && env.kindOf n == some .cell) then (n, NameKind.cell) else (n, k))) = some k := h
    by_cases hx : (x == n) = true
    · have ex : x = n := by simpa using hx
      subst ex
      by_cases hq : (q == NameKind.free && env.scope.kind == .function && env.kindOf x == some .cell) = true
      · have : q = .free := by
          rw [Bool.and_eq_true, Bool.and_eq_true] at hq
          simpa using hq.1.1
        subst this
        exact List.mem_cons_self
      · rw [if_neg hq, List.lookup_cons, hx] at h'
        have e : q = k := Option.some.inj h'
        subst e
        rcases hk with hk | hk
        · exact absurd hk (hc _ List.mem_cons_self)
        · rw [hk]; exact List.mem_cons_self
    · have hx' : (x == n) = false := by simpa using hx
      refine List.mem_cons_of_mem _ (relabel_kind (env := env) (k := k) ?_ hk fun y hy => hc y (List.mem_cons_of_mem _ hy))
      split at h'
      · rw [List.lookup_cons, hx'] at h'; exact h'
      · rw [List.lookup_cons, hx'] at h'; exact h'
theorem relabel_free {env : Env} {x : Str} (hf : env.scope.kind = .function) (hx : env.kindOf x = some .cell) : ∀ {names : List (Str × NameKind)}, names.lookup x = some .free →
    (names.map fun (n, k) => if (k == NameKind.free && env.scope.kind == .function && env.kindOf n == some .cell) then (n, NameKind.cell) else (n, k)).lookup x = some .cell
  | [], h => by simp at h
  | (n, k) :: r, h => by
    show List.lookup x ((if (k == NameKind.free && env.scope.kind == .function && env.kindOf n == some .cell) = true then (n, NameKind.cell) else (n, k)) :: _) = _
    cases hxn : x == n with
    | true =>
      have e : x = n := by simpa using hxn
      subst e
      simp only [List.lookup_cons, hxn] at h
      have ek : k = .free := Option.some.inj h
      subst ek
      rw [if_pos (by rw [hf, hx]; rfl), List.lookup_cons, hxn]
    | false =>
      simp only [List.lookup_cons, hxn] at h
      have ih := relabel_free hf hx h
      split
      · rw [List.lookup_cons, hxn]; exact ih
      · rw [List.lookup_cons, hxn]; exact ih

theorem CompOk.ok (S : CompOk X scope N' cap) (I : Inv X pins σ H s) (hf : ∀ b ∈ fp, FpOk X pins H b) (hex : ∀ b ∈ fp, ∃ o, s.heap.get? b = some o) : (cxComp X scope N' fp pins s H).Ok where
  mod := I.ok.mod
  kind := S.kind
  glob := I.ok.glob
  blt := I.ok.blt
  above := Nat.le_refl _
  inj := fun x y c h1 h2 => I.ok.inj x y c (closOf_sub _ _ (S.clos I.ok) (fun z => by simp at z) h1) (closOf_sub _ _ (S.clos I.ok) (fun z => by simp at z) h2)
  has := fun x hx => by
    have hm : (x, NameKind.free) ∈ scope.names := by
      rcases hx with hx | hx
      · exact relabel_kind (env := X.env) hx (.inl rfl) S.nocell
      · exact relabel_kind (env := X.env) hx (.inr rfl) S.nocell
    exact Option.isSome_iff_exists.mp (closOf_has scope.names [] (.inr hm))
  cab := fun x c h => by cases h
  hd := I.ok.hd
  frames := I.ok.frames
  stk := .inl rfl
  exf := fun b hb => by
    obtain ⟨o, e⟩ := hex b hb
    refine ⟨Nat.ne_of_lt (Heap.lt_size e), fun x c h => (hf b hb).2.2.2.2.1 x c (closOf_sub _ _ (S.clos I.ok) (fun z => by simp at z) h)⟩
  bs := I.bs
  bsz := Nat.le_trans I.ok.bsz I.sz
  noex := fun b o e hb => by
    rcases (hf b hb).2.2.2.1 with z | z
    · exact I.ok.noex b o e z
    · exact absurd (Nat.lt_of_lt_of_le (Heap.lt_size e) (Nat.le_trans I.ok.bsz z)) (Nat.lt_irrefl _)
  exfs := fun b hb hs => by
    rcases List.mem_cons.mp (I.stkSub b hs) with z | z
    · exact (hf b hb).2.1 z
    · exact (hf b hb).2.2.1 z
  funs := I.stack
  frf := I.stkFree

/-- a captured name, read in the block -/
theorem CompOk.look (S : CompOk X scope N' cap) (I : Inv X pins σ H s) {h₁ : Heap} {m : Str → Option Value} (cellK : ∀ x c v, X.env.cells.lookup x = some c → s.heap.IsCell c v → h₁.IsCell c v) (i : Nat) (x : Str) (v : V) (h1 : N'[i]? = some x) (h2 : (capSt cap σ)[i]? = some (some v)) :
    ∃ u, RelV v u ∧ Look (compEnvC scope (closOf X.env scope.names []) s.heap.objs.size X.env) h₁ m x u := by
  have clsub : ∀ x c, (closOf X.env scope.names []).lookup x = some c → X.env.cells.lookup x = some c := fun x c h => closOf_sub _ _ (S.clos I.ok) (fun z => by simp at z) h
  have h2' : ((cap[i]?).map fun o => o.bind fun j => (σ[j]?).join) = some (some v) := by
    have := h2
    unfold capSt at this
    rw [List.getElem?_map] at this
    exact this
  cases ec : cap[i]? with
  | none => rw [ec] at h2'; cases h2'
  | some o =>
    cases o with
    | none => rw [ec] at h2'; cases h2'
    | some j =>
      rw [ec] at h2'
      obtain ⟨hN, hfree⟩ := S.cap i j x ec h1
      have h2'' : (σ[j]?).join = some v := Option.some.inj h2'
      have hv : σ[j]? = some (some v) := by
        cases ej : σ[j]? with
        | none => rw [ej] at h2''; cases h2''
        | some y =>
          cases y with
          | none => rw [ej] at h2''; cases h2''
          | some z =>
            rw [ej] at h2''
            have e : z = v := Option.some.inj h2''
            rw [e]
      have hkind := S.fr _ hfree rfl
      obtain ⟨m0, hn0, hl0⟩ := I.loc
      obtain ⟨u, r, l⟩ := hl0 j x v hN hv (.inr (.inl hkind))
      refine ⟨u, r, ?_⟩
      rcases l with ⟨hk, _⟩ | ⟨hk, c, hc, hcell⟩
      · have z : X.env.kindOf x = some .cell := hkind
        rw [hk] at z; cases z
      · obtain ⟨c', hc'⟩ := Option.isSome_iff_exists.mp (closOf_has (env := X.env) (x := x) scope.names [] (.inr hfree))
        have ecc : c' = c := by
          have := clsub x c' hc'
          rw [hc] at this
          exact (Option.some.inj this).symm
        subst ecc
        exact .inr ⟨.inl (relabel_free I.ok.kind hkind (S.frl _ hfree rfl)), c', hc', cellK x c' _ hc hcell⟩
/-- the block's entry -/
theorem CompOk.start (S : CompOk X scope N' cap) (I : Inv X pins σ H s) (hf : ∀ b ∈ fp, FpOk X pins H b) (hex : ∀ b ∈ fp, ∃ o, s.heap.get? b = some o) {h₁ : Heap} {tk : Nat} {m : Str → Option Value} (hns : h₁.Ns s.heap.objs.size m)
    (kp : ∀ b o, s.heap.get? b = some o → h₁.get? b = some o) : Inv (cxComp X scope N' fp pins s H) [] (capSt cap σ) H { s with heap := h₁, toks := tk } := by
  have clsub : ∀ x c, (closOf X.env scope.names []).lookup x = some c → X.env.cells.lookup x = some c := fun x c h => closOf_sub _ _ (S.clos I.ok) (fun z => by simp at z) h
  have cellK : ∀ {c : Addr} {v : Option Value}, s.heap.IsCell c v → h₁.IsCell c v := fun {c v} ⟨o, e, d⟩ => ⟨o, kp c o e, d⟩
  refine ⟨S.ok I hf hex, rfl, I.bare, Un.kept kp, ⟨m, hns, fun i x v h1 h2 h3 => S.look I (fun _ _ _ _ z => cellK z) i x v h1 h2⟩, fun x c h => ?_, I.hok.fresh (Nat.le_refl _), fun x c h => I.freeC x c (clsub x c h), fun p hp => ?_, I.hok.kept kp, ?_⟩
  · obtain ⟨v, z⟩ := I.cell x c (clsub x c h)
    exact ⟨v, cellK z⟩
  · have hp0 : p ∈ (X.pn ++ pins) ++ [] := hp
    have hp' : p ∈ X.pn ++ pins := by rw [List.append_nil] at hp0; exact hp0
    obtain ⟨e, n, ne, nf, d⟩ := I.pin p hp'
    refine ⟨kp _ _ e, n, Nat.ne_of_lt (Heap.lt_size e), fun z => ?_, d⟩
    rcases List.mem_cons.mp (I.stkSub p.1 z) with q | q
    · exact ne q
    · exact nf q
  · unfold capSt
    rw [List.length_map]
    exact S.len
/-- .. at a turn's head: the block's own names are forgotten, the captured ones stand -/
theorem CompOk.again (S : CompOk X scope N' cap) (I : Inv X pins σ H s) (hf : ∀ b ∈ fp, FpOk X pins H b) {σ8 : St} {H8 : Hp} {s8 : Shared} (I8 : Inv (cxComp X scope N' fp pins s H) [] σ8 H8 s8) : Inv (cxComp X scope N' fp pins s H) [] (capSt cap σ) H8 s8 := by
  obtain ⟨m, hn, _⟩ := I8.loc
  refine ⟨I8.ok, I8.os, I8.bare, I8.base, ⟨m, hn, fun i x v h1 h2 h3 => S.look I (fun y c u hc hu => ?_) i x v h1 h2⟩, I8.cell, I8.free, I8.freeC, I8.pin, I8.hok, ?_⟩
  · obtain ⟨o, e, d⟩ := hu
    obtain ⟨sl, q⟩ := I8.base.any e (I.freeC y c hc) fun hb => (hf c hb).2.2.2.2.1 y c hc rfl
    exact ⟨_, q, d⟩
  · unfold capSt
    rw [List.length_map]
    exact S.len

/-- behind the block: the def's state again -/
theorem CompOk.back {H2 H' : Hp} {s2 s3 s' : Shared} {σ' : St} {acc : Addr} {h'' : Heap} (S : CompOk X scope N' cap) (I2 : Inv X pins σ H2 s2) (hf : ∀ b ∈ fp, FpOk X pins H2 b) {o : HO}
    (e3 : s3.heap.objs.size = s2.heap.objs.size + 1) (k3 : ∀ b u, s2.heap.get? b = some u → s3.heap.get? b = some u) (ha : acc = s2.heap.objs.size) (o3 : s3.os = s2.os)
    (I' : Inv (cxComp X scope N' fp pins s3 (upd H2 acc o)) [] σ' H' s') (sb : Heap.SameBut s3.heap.objs.size s'.heap h'') : Inv X pins σ H' { s' with heap := h'' } := by
  have u1 : Un (frs X.stack) fp H2 (upd H2 acc o) s2.heap s3.heap := Un.laid k3 (by rw [ha]; exact Nat.le_refl _) (I2.hok.fresh (by rw [ha]; exact Nat.le_refl _))
  have u2 : Un (frs X.stack) fp H2 H' s2.heap s'.heap := u1.trans I'.base
  have old : ∀ b ob, s2.heap.get? b = some ob → b ≠ s3.heap.objs.size := fun b ob e => by
    have := Heap.lt_size e
    rw [e3]
    exact Nat.ne_of_lt (Nat.lt_succ_of_lt this)
  have hC : H' s3.heap.objs.size = none := I'.free
  have u3 : Un (frs X.stack) fp H2 H' s2.heap h'' :=
    ⟨fun b ob e n hb hx => (sb.2 b (old b ob e)).trans (u2.keep b ob e n hb hx), fun b ob e n hb hx => by
      obtain ⟨sl, q⟩ := u2.slot b ob e n hb hx
      exact ⟨sl, (sb.2 b (old b ob e)).trans q⟩, u2.free, fun b ob e hx => by
      obtain ⟨o', q⟩ := u2.there b ob e hx
      exact ⟨o', (sb.2 b (old b ob e)).trans q⟩, u2.tups, u2.frzs, u2.tbls⟩
  have hok : HOk X.prog X.w H' h'' := fun b ob e => (I'.hok b ob e).stay (fun c v hc q => (sb.2 c (by
    rintro rfl
    rcases hc with z | z
    · rw [← z, hC] at e; cases e
    · rw [hC] at z; cases z)).trans q) (fun _ q => q) fun _ _ q => q
  refine I2.call' (s' := { s' with heap := h'' }) (ch := fp) (I'.os.trans o3) u3 hok I'.bare fun b hb => ?_
  obtain ⟨_, f1, _, f3, f4, f5⟩ := hf b hb
  exact ⟨f3, f1, f4, f5⟩

/-! ### the rule -/
/-- the tests of a block: none, or one -/
def PTs (X : Cx) (ifs : List Expr) (t : TT) : Prop :=
  ∀ (pins : List (Addr × Obj)) (s : Shared) (σ : St) (H : Hp) (Q : Bool → Hp → Prop), Inv X pins σ H s → t σ H Q →
    wpAny (model X.prog X.w) X.A (forIn ifs true fun c r => if r = true then do let ok ← isTrue c X.env (eval c X.env); pure (ForInStep.yield ok) else pure (ForInStep.yield r)) (TP X pins σ Q) X.xe s
def tTrue : TT := fun _ H Q => Q true H
theorem pts_nil : PTs X [] tTrue := fun _ _ _ H _ I h => wpAny_tests_nil ⟨H, I, h⟩
/-- [elt for tg in iter if c]: W the invariant by the turn, a measure and the heap (the new list at acc) -/
def tComp (wi : TI) (cap : List (Option Nat)) (g : TG) (tc : TT) (te : TE) : TE := fun σ H Q => wi σ H fun J H1 => ∀ acc, H1 acc = none → ∃ W : Nat → Nat → Hp → Prop, (∃ m, W 0 m (upd H1 acc (.lst []))) ∧ ∀ i m H, W i m H →
  (J.stop i H ∧ Q (.ref acc) H) ∨ (J.go i H ∧ ∀ x H', J.yld i H x H' → g x (capSt cap σ) H' fun σ2 H2 => tc σ2 H2 fun b H3 => if b = true then te σ2 H3 fun y H4 => ∃ xs, H4 acc = some (.lst xs) ∧ xs.length < sizeLine ∧
    ∃ m', m' < m ∧ W (i + 1) m' (upd H4 acc (.lst (xs ++ [y]))) else ∃ m', m' < m ∧ W (i + 1) m' H3)

theorem comp_loop {elt target iter : PySem.Expr} {ifs : List PySem.Expr} {scope : Scope} {pos : Pos} {it acc : Value} {env : Env} {prog : Program} {w : World} {A : Around} {s : Shared} {R : Result → Shared → Prop} (I : Nat → Shared → Prop)
    (turn : ∀ n s, I n s → wpAny (model prog w) A (pyNext it) (fun r s₁ => match r with
      | none => R (.ok .next) s₁
      | some v => wpAny (model prog w) A (letOwnedTupleGo target it v) (fun _ s₀ => wpAny (model prog w) A (assign target env v) (fun _ s₂ =>
          wpAny (model prog w) A (forIn ifs true fun c r => if r = true then do let ok ← isTrue c env (eval c env); pure (ForInStep.yield ok) else pure (ForInStep.yield r)) (fun ok s₃ => if ok = true then wpAny (model prog w) A (eval elt env) (fun x s₄ =>
            wpAny (model prog w) A (call (.builtin "list.append") [acc, x]) (fun _ s₅ => ∃ m, m < n ∧ I m s₅) (fun _ _ => False) s₄) (fun _ _ => False) s₃
            else ∃ m, m < n ∧ I m s₃) (fun _ _ => False) s₂)
          (fun _ _ => False) s₀) (fun _ _ => False) s₁) (fun _ _ => False) s)
    (n : Nat) (h : I n s) : codeAny (model prog w) A (.compLoop (.ListComp elt [⟨target, iter, ifs, 0⟩] scope pos) 0 it acc env) R s := by
  refine codeAny_loop rfl I (fun n s hI => ?_) n h
  show wpAny _ A ((compTurn (.ListComp elt [⟨target, iter, ifs, 0⟩] scope pos) 0 it acc env).onRaise (fun x => do noteFrame x env; theTreesLotGoes x)) _ _ s
  refine wpAny_noted ?_
  rw [compTurn_list]
  refine wpAny_bind (wpAny_standAt (wpAny_bind (wpAny_mono (turn n s hI) (fun r s₁ h₁ => ?_) fun _ _ z => z.elim)))
  cases r with
  | none => exact wpAny_pure h₁
  | some v =>
    refine wpAny_bind (wpAny_mono h₁ (fun _ s₀ h₀' => ?_) fun _ _ z => z.elim)
    refine wpAny_bind (wpAny_mono h₀' (fun _ s₂ h₂ => ?_) fun _ _ z => z.elim)
    refine wpAny_bind (wpAny_mono h₂ (fun okb s₃ h₃ => ?_) fun _ _ z => z.elim)
    cases okb with
    | false => exact wpAny_pure ⟨rfl, h₃⟩
    | true => exact wpAny_bind (wpAny_bind (wpAny_mono h₃ (fun x s₄ h₄ => wpAny_bind (wpAny_mono h₄ (fun _ s₅ h₅ => wpAny_pure (wpAny_pure ⟨rfl, h₅⟩)) fun _ _ z => z.elim)) fun _ _ z => z.elim))

/-- the block from its entry on; RR: what is wanted behind it -/
theorem comp_block {elt tg iter : Expr} {ifs : List Expr} {pos : Pos} {g : TG} {tc : TT} {te : TE} {Q : VK} {s2 : Shared} {H2 : Hp} {it : Addr} {tn : Nat → Heap → Prop} {J : It} {E : Value → Shared → Prop} {RR : Value → Addr → Result → Shared → Prop}
    (S : CompOk X scope N' cap) (hc : X.calm = true) (hg : ∀ fp pins s H, PG (cxComp X scope N' fp pins s H) tg g) (hts : ∀ fp pins s H, PTs (cxComp X scope N' fp pins s H) ifs tc) (he : ∀ fp pins s H, PE (cxComp X scope N' fp pins s H) elt te)
    (I2 : Inv X pins σ H2 s2) (T : Turn X.prog X.w X.K tg J fp it tn) (st2 : tn 0 s2.heap) (f2 : ∀ b ∈ fp, FpOk X pins H2 b)
    (h : ∀ acc, H2 acc = none → ∃ W : Nat → Nat → Hp → Prop, (∃ m, W 0 m (upd H2 acc (.lst []))) ∧ ∀ i m H, W i m H →
      (J.stop i H ∧ Q (.ref acc) H) ∨ (J.go i H ∧ ∀ x H', J.yld i H x H' → g x (capSt cap σ) H' fun σ2 H2 => tc σ2 H2 fun b H3 => if b = true then te σ2 H3 fun y H4 => ∃ xs, H4 acc = some (.lst xs) ∧ xs.length < sizeLine ∧
        ∃ m', m' < m ∧ W (i + 1) m' (upd H4 acc (.lst (xs ++ [y]))) else ∃ m', m' < m ∧ W (i + 1) m' H3))
    (hRR : ∀ C s' H', (∃ m, s'.heap.Ns C m) → (∀ h'', Heap.SameBut C s'.heap h'' → Inv X pins σ H' { s' with heap := h'' }) → Q (.ref s2.heap.objs.size) H' → H' C = none → s2.heap.objs.size < C →
      RR (.ref s2.heap.objs.size) C (.ok .next) s') :
    wpAny (model X.prog X.w) X.A (newList []) (fun acc s₃ => wpAny (model X.prog X.w) X.A (newFunctionEnv scope X.env.globals (closOf X.env scope.names []) [] X.env.qual none .none (some X.env)) (fun cenv s₄ =>
      codeAny (model X.prog X.w) X.A (.compStart (.ListComp elt [⟨tg, iter, ifs, 0⟩] scope pos) 0 (.ref it) acc { cenv with scope := relabel scope X.env }) (RR acc cenv.locals) s₄) E s₃) E s2 := by
  refine wpAny_newObj_type (wpAny_newFunctionEnv S.nocell (by intro y hy; simp at hy) (fun h₁ hns₁ hsb₁ => ?_) S.kind)
  dsimp only at hns₁ hsb₁ ⊢
  have hfr : H2 s2.heap.objs.size = none := I2.hok.fresh (Nat.le_refl _)
  generalize hH3 : s2.heap.push { cls := .type "list", dict := none, data := .seq ([] : List Value).toArray } = h3 at hns₁ hsb₁ ⊢
  have e3 : h3.objs.size = s2.heap.objs.size + 1 := by rw [← hH3, Heap.size_push]
  have k3 : ∀ b u, s2.heap.get? b = some u → h3.get? b = some u := fun b u e => by rw [← hH3]; exact Heap.get?_push_of_some _ e
  -- the state with the new list
  have I3 : Inv X pins σ (upd H2 s2.heap.objs.size (.lst [])) { s2 with heap := h3, toks := s2.toks } := by
    refine I2.laid (t' := s2.toks) k3 (Nat.le_refl _) ?_
    exact ⟨Nat.zero_le _, [], 0, .nil, by rw [← hH3]; exact Heap.get?_push_size _ rfl⟩
  have f3 : ∀ b ∈ fp, FpOk X pins (upd H2 s2.heap.objs.size (.lst [])) b := fun b hb => by
    obtain ⟨o, e, _⟩ := T.obj _ _ st2 b hb
    exact ⟨by rw [upd_ne (Nat.ne_of_lt (Heap.lt_size e))]; exact (f2 b hb).1, (f2 b hb).2⟩
  have ex3 : ∀ b ∈ fp, ∃ o, h3.get? b = some o := fun b hb => by
    obtain ⟨o, e, _⟩ := T.obj _ _ st2 b hb
    exact ⟨o, k3 b o e⟩
  have kp : ∀ b o, h3.get? b = some o → h₁.get? b = some o := fun b o e => hsb₁.extBut b o (Nat.ne_of_lt (Heap.lt_size e)) (Heap.get?_push_of_some _ e)
  have I4 := S.start (fp := fp) (tk := s2.toks + ([] : List (Str × Value)).length) I3 f3 ex3 hns₁ kp
  have st4 : tn 0 h₁ := T.keep _ _ _ st2 fun b _ o e => kp b o (k3 b o e)
  obtain ⟨W, ⟨m0, w0⟩, turn⟩ := h s2.heap.objs.size hfr
  let X' := cxComp X scope N' fp pins { s2 with heap := h3, toks := s2.toks } (upd H2 s2.heap.objs.size (.lst []))
  have stat : ∀ {pins' : List (Addr × Obj)} {H' : Hp}, (∀ p ∈ pins', p.1 ∉ fp) → (∀ b ∈ fp, H' b = none) → ∀ b ∈ fp, FpOk X' pins' H' b := fun {pins' H'} hpn hn b hb => by
    obtain ⟨o, e⟩ := ex3 b hb
    refine ⟨hn b hb, Nat.ne_of_lt (Heap.lt_size e), fun z => ?_, .inl hb, fun x c hx => (f3 b hb).2.2.2.2.1 x c (closOf_sub _ _ (S.clos I2.ok) (fun z => by simp at z) hx), fun p hp => ?_⟩
    · rcases List.mem_cons.mp (I2.stkSub b z) with q | q
      · exact (f2 b hb).2.1 q
      · exact (f2 b hb).2.2.1 q
    · rcases List.mem_append.mp hp with q | q
      · exact (f2 b hb).2.2.2.2.2 p q
      · exact fun z => hpn p q (z ▸ hb)
  have loop : codeAny (model X.prog X.w) X.A (.compLoop (.ListComp elt [⟨tg, iter, ifs, 0⟩] scope pos) 0 (.ref it) (.ref s2.heap.objs.size) X'.env) (RR (.ref s2.heap.objs.size) h3.objs.size) { s2 with heap := h₁, toks := s2.toks + ([] : List (Str × Value)).length } := by
    refine comp_loop (fun n s' => ∃ i H', Inv X' [] (capSt cap σ) H' s' ∧ tn i s'.heap ∧ (∀ b ∈ fp, H' b = none) ∧ W i n H') ?_ m0 ⟨0, _, I4, st4, fun b hb => (f3 b hb).1, w0⟩
    rintro n s5 ⟨i, H5, I5, st5, fr5, w5⟩
    rcases turn i n H5 w5 with ⟨stop, qn⟩ | ⟨go, step⟩
    · refine wpAny_mono (T.done X' rfl rfl rfl hc i [] s5 (capSt cap σ) H5 (fun _ _ => False) I5 (stat (fun _ z => absurd z (by simp)) fr5) st5 stop) (fun r s6 ⟨hr, I6⟩ => ?_) fun _ _ z => z
      subst hr
      refine hRR _ s6 H5 ?_ (fun h'' sb => S.back I2 f2 (s3 := { s2 with heap := h3, toks := s2.toks }) e3 k3 rfl rfl I6 sb) qn I6.free (by rw [e3]; exact Nat.lt_succ_self _)
      obtain ⟨m, hn, _⟩ := I6.loc
      exact ⟨m, hn⟩
    · refine wpAny_mono (T.item X' rfl rfl rfl hc i [] s5 (capSt cap σ) H5 (fun _ _ => False) I5 (stat (fun _ z => absurd z (by simp)) fr5) st5 go) (fun r s6 ⟨u, hr, h6⟩ => ?_) fun _ _ z => z
      subst hr
      refine wpAny_mono h6 (fun _ s7 ⟨x, H7, I7, r7, y7, st7, fr7⟩ => ?_) fun _ _ z => z
      have I7' := I7.pinned (stat (fun _ z => absurd z (by simp)) fr7) (T.obj _ _ st7)
      have again : ∀ {σ8 : St} {H8 : Hp} {s8 : Shared}, Inv X' ([] ++ pinsAt fp s7.heap) σ8 H8 s8 → (∃ m', m' < n ∧ W (i + 1) m' H8) → ∃ m, m < n ∧ ∃ i H', Inv X' [] (capSt cap σ) H' s8 ∧ tn i s8.heap ∧ (∀ b ∈ fp, H' b = none) ∧ W i m H' := fun {σ8 H8 s8} I8 n8 => by
        obtain ⟨m', hm, w8⟩ := n8
        have pn : ∀ b ∈ fp, ∃ o, s7.heap.get? b = some o ∧ s8.heap.get? b = some o ∧ H8 b = none := fun b hb => by
          obtain ⟨o, e, d⟩ := T.obj _ _ st7 b hb
          have q := I8.pin (b, o) (List.mem_append_right _ (List.mem_append_right _ (mem_pinsAt hb e)))
          exact ⟨o, e, q.1, q.2.1⟩
        refine ⟨m', hm, i + 1, H8, S.again I3 f3 I8.unpinned, T.keep _ _ _ st7 fun b hb o e => ?_, fun b hb => ?_, w8⟩
        · obtain ⟨o', e', q, _⟩ := pn b hb
          rw [e] at e'; cases e'
          exact q
        · obtain ⟨_, _, _, q⟩ := pn b hb
          exact q
      refine wpAny_mono (hg fp pins _ _ _ s7 (capSt cap σ) H7 x u _ I7' r7 (step x H7 y7)) (fun _ s8 ⟨σ8, H8, I8, q8⟩ => ?_) fun _ _ z => z
      refine wpAny_mono (hts fp pins _ _ _ s8 σ8 H8 _ I8 q8) (fun b s9 ⟨H9, I9, q9⟩ => ?_) fun _ _ z => z
      cases b with
      | false => exact again I9 q9
      | true =>
        refine wpAny_mono (he fp pins _ _ _ s9 σ8 H9 _ I9 q9) (fun u s10 ⟨y, H10, I10, r10, xs, hx, hl, q10⟩ => ?_) fun _ _ z => z
        refine wpAny_mono (mt_append (X := X') _ s10 σ8 H10 (.ref s2.heap.objs.size) [y] (.ref s2.heap.objs.size) [u] (fun _ H' => ∃ m', m' < n ∧ W (i + 1) m' H') I10 rfl (.cons r10 .nil) ⟨_, xs, y, rfl, rfl, hx, hl, q10⟩) (fun _ s11 ⟨_, H11, I11, _, q11⟩ => again I11 q11) fun _ _ z => z
  exact codeAny_compStart_list loop (T.self _ 0 _ _ _ st4 loop)

/-- [..] as a value -/
theorem pe_comp {elt tg iter : Expr} {ifs : List Expr} {pos : Pos} {wi : TI} {g : TG} {tc : TT} {te : TE} (S : CompOk X scope N' cap) (hc : X.calm = true) (hi : PI X tg iter wi) (hg : ∀ fp pins s H, PG (cxComp X scope N' fp pins s H) tg g)
    (hts : ∀ fp pins s H, PTs (cxComp X scope N' fp pins s H) ifs tc) (he : ∀ fp pins s H, PE (cxComp X scope N' fp pins s H) elt te) (hs : ∀ x, foldedSetIterable iter X.env x = pure x := by intro _; rfl) :
    PE X (.ListComp elt [⟨tg, iter, ifs, 0⟩] scope pos) (tComp wi cap g tc te) := by
  intro pins s σ H Q I h
  rw [eval_ListComp]
  refine wpAny_comprehension_free (use := none) rfl hs (closureFor_ok (S.clos I.ok)) S.kind S.loc (thn (hi pins s σ H _ I h) fun v s1 h1 => thn h1 fun itv s2 h2 => ?_)
  obtain ⟨it, fp, tn, J, H2, e, I2, T, st2, f2, hW⟩ := h2
  subst e
  refine comp_block (RR := fun acc C => compPost (model X.prog X.w) X.A X.xe none (EP X pins σ Q) acc C) S hc hg hts he I2 T st2 f2 hW ?_
  intro C s' H' ⟨m, hn⟩ hI hq _ _
  exact ⟨m, hn, fun h'' sb => ⟨.ref s2.heap.objs.size, H', hI h'' sb, rfl, hq⟩⟩

/-- x = [..] -/
theorem ps_setcomp {elt tg iter : Expr} {ifs : List Expr} {pos : Pos} {wi : TI} {g : TG} {tc : TT} {te : TE} {i : Nat} {x : Str} {pos' spos : Pos} (hN : X.N.Nodup) (hix : X.N[i]? = some x) (hx : Loc X.env.scope x) (S : CompOk X scope N' cap) (hc : X.calm = true)
    (hi : PI X tg iter wi) (hg : ∀ fp pins s H, PG (cxComp X scope N' fp pins s H) tg g)
    (hts : ∀ fp pins s H, PTs (cxComp X scope N' fp pins s H) ifs tc) (he : ∀ fp pins s H, PE (cxComp X scope N' fp pins s H) elt te) (hs : ∀ x, foldedSetIterable iter X.env x = pure x := by intro _; rfl)
    (hsw : swapsWith (.ListComp elt [⟨tg, iter, ifs, 0⟩] scope pos) (some (.Name x pos')) spos.line X.env = pure true := by rfl) (hf : X.fn x = true ∨ X.env.scope.names.lookup x = some .local := by first | exact .inl rfl | exact .inr rfl | assumption) :
    PS X (.Assign [.Name x pos'] (.ListComp elt [⟨tg, iter, ifs, 0⟩] scope pos) spos) (tAsg (tComp wi cap g tc te) (gName i)) := by
  intro pins s σ H D I h
  rw [exec_Assign_Name_used _ _ _ _ hsw]
  refine wpAny_bind (wpAny_standAt (wpAny_bind ?_))
  show wpAny _ X.A (do let _ ← comprehension (.ListComp elt [⟨tg, iter, ifs, 0⟩] scope pos) scope X.env _ (newList []) false (eval iter X.env) (some (assign (.Name x pos') X.env))) _ _ s
  refine wpAny_bind (wpAny_mono (wpAny_comprehension_free (use := some (assign (.Name x pos') X.env)) (Q := fun _ s' => SP X pins D .next s') rfl hs (closureFor_ok (S.clos I.ok)) S.kind S.loc
    (thn (hi pins s σ H _ I h) fun v s1 h1 => thn h1 fun itv s2 h2 => ?_)) (fun _ s' hq => wpAny_pure (wpAny_pure hq)) fun _ _ e => e)
  obtain ⟨it, fp, tn, J, H2, e, I2, T, st2, f2, hW⟩ := h2
  subst e
  refine comp_block (RR := fun acc C => compPost (model X.prog X.w) X.A X.xe (some (assign (.Name x pos') X.env)) (fun _ s' => SP X pins D .next s') acc C) (Q := fun x H1 => gName i x σ H1 D.nx) S hc hg hts he I2 T st2 f2 hW ?_
  intro C s' H' ⟨m, hn⟩ hI hq hC hlt
  have I' : Inv X pins σ H' s' := hI s'.heap (.refl ..)
  show wpAny _ _ (assign (.Name x pos') X.env (.ref s2.heap.objs.size)) _ _ s'
  refine wpAny_assign_Name (store_ok2 (v := .ref s2.heap.objs.size) I' hN hix hx rfl (fun s6 I6 ⟨a, sb, ha⟩ => ?_) hf)
  have lC : ∀ b, b < s2.heap.objs.size → b ≠ C := fun b hb => Nat.ne_of_lt (Nat.lt_trans hb hlt)
  have haC : a ≠ C := by
    rcases ha with z | z
    · rw [z]; exact lC _ I2.lt
    · obtain ⟨_, q⟩ := I2.cell x a z
      exact lC _ q.lt
  refine ⟨m, hn.sameBut sb (Ne.symm haC), fun h' sb' => ⟨_, H', I6.turned (t' := s6.toks) (fun b o hb e => (sb'.2 b hb).trans e) hC (Ne.symm (lC _ I2.lt)) (.inr (Nat.le_trans I2.sz (Nat.le_of_lt hlt))) (fun y c hc' => ?_) (fun p hp => ?_), hq⟩⟩
  · obtain ⟨_, q⟩ := I2.cell y c hc'
    exact lC _ q.lt
  · exact lC _ (Heap.lt_size (I2.pin p hp).1)
end

/-! ### enumerate of a list -/
end L2

set_option Elab.async false
set_option linter.all false
set_option maxRecDepth 100000
/-! EXTENSION 2: data in the heap; ==, != of data; isinstance, min, set, len of a set -/
namespace L2
open PySem PySem.Spec PyProof.Rows

theorem Same.seqT {K : PySem.W.Frag} {H H' : Hp} {a : Addr} {xs : List V} (e : Same H H') (h : SqT K H a xs) : SqT K H' a xs := by
  rcases h with (h | ⟨o, h⟩) | h
  · exact .inl (.inl (e _ _ h))
  · exact .inl (.inr ⟨o, e _ _ h⟩)
  · exact .inr h
theorem Same.new {H : Hp} {p : Addr} {o : HO} (h : H p = none) : Same H (upd H p o) := fun b u e => by rw [upd_ne (ne_of_none e h)]; exact e
theorem Same.out {H0 H : Hp} {p : Addr} {o : HO} (s : Same H0 H) (h : H0 p = none) : Same H0 (upd H p o) := fun b u e => by rw [upd_ne (ne_of_none e h)]; exact s b u e

/-! ### data -/
mutual
def Rep (K : PySem.W.Frag) (H : Hp) : PyData → V → Prop
  | .none, v => v = .non
  | .bool b, v => v = .bl b
  | .int i, v => v = .int i
  | .str x, v => v = .str x
  | .list ds, v => ∃ a vs, v = .ref a ∧ SqL K H a vs ∧ RepAll K H ds vs
  | .tuple ds, v => ∃ a vs, v = .ref a ∧ SqT K H a vs ∧ RepAll K H ds vs
  | .dict _, _ => False
def RepAll (K : PySem.W.Frag) (H : Hp) : List PyData → List V → Prop
  | [], vs => vs = []
  | d :: ds, vs => ∃ v r, vs = v :: r ∧ Rep K H d v ∧ RepAll K H ds r
end

/-! ### read by the machine's own relation -/
section
variable {X : Cx} {pins : List (Addr × Obj)} {σ : St} {H : Hp} {s : Shared}
mutual
theorem Rep.reads (I : Inv X pins σ H s) : ∀ {d : PyData} {v : V} {u : Value}, Rep X.K H d v → RelV v u → ∃ as, Reads s.heap u d as
  | .none, _, _, h, r => by cases h; cases r; exact ⟨_, .none⟩
  | .bool b, _, _, h, r => by cases h; cases r; exact ⟨_, .bool b⟩
  | .int i, _, _, h, r => by cases h; obtain ⟨t, rfl⟩ := r; exact ⟨_, .int i t⟩
  | .str x, _, _, h, r => by cases h; obtain ⟨t, rfl⟩ := r; exact ⟨_, .str x t⟩
  | .list ds, _, _, ⟨a, vs, e, q, t⟩, r => by
    subst e
    cases r
    obtain ⟨its, rv, ⟨o, n, e1, e2, e3, e4⟩, _⟩ := I.list q
    obtain ⟨as, ra⟩ := RepAll.reads I t rv
    exact ⟨_, .list e1 e2 e4 (by simpa using ra)⟩
  | .tuple ds, _, _, ⟨a, vs, e, q, t⟩, r => by
    subst e
    cases r
    obtain ⟨its, rv, ⟨o, e1, e2, n, e4⟩, _⟩ := I.tuple q
    obtain ⟨as, ra⟩ := RepAll.reads I t rv
    exact ⟨_, .tuple e1 e2 e4 (by simpa using ra)⟩
  | .dict _, _, _, h, _ => h.elim
theorem RepAll.reads (I : Inv X pins σ H s) : ∀ {ds : List PyData} {vs : List V} {us : List Value}, RepAll X.K H ds vs → Vals vs us → ∃ as, ReadsAll s.heap us ds as
  | [], _, _, h, r => by cases h; cases r; exact ⟨_, .nil⟩
  | _ :: _, _, _, ⟨v, w', e, q, t⟩, r => by
    subst e
    cases r with
    | cons r1 r2 =>
      obtain ⟨as, h1⟩ := q.reads I r1
      obtain ⟨bs, h2⟩ := RepAll.reads I t r2
      exact ⟨_, .cons h1 h2⟩
end
end

/-! ### ==, != of data -/
section
variable {X : Cx}
def rEqD (K : PySem.W.Frag) (u : Nat) : R2 := fun x y H Q => ∃ da db, Rep K H da x ∧ Rep K H db y ∧ da.canLay0 = true ∧ db.canLay0 = true ∧ u + min da.depth db.depth < cLine ∧ Q (.bl (PyData.eqv da db)) H
theorem op_eqD : OpR X (compareOp .Eq) (rEqD X.K X.A.units) := by
  intro pins s σ H x y v u Q I rx ry ⟨da, db, ha, hb, ca, cb, hu, q⟩
  obtain ⟨as, ra⟩ := ha.reads I rx
  obtain ⟨bs, rb⟩ := hb.reads I ry
  exact SeqAt.compareEq_reads ra rb ca cb hu ⟨.bl _, H, I, rfl, q⟩
/-! ### isinstance with one built-in class -/
theorem call_isi : CallR X (.builtin "isinstance") (fun xs H Q => ∃ x n t b, xs = [x, .ty n] ∧ TyOf X.K H x t ∧ PySem.W.kitOne X.K t (.type n) = some b ∧ Q (.bl b) H) := by
  intro pins s σ H xs us Q I r ⟨x, n, t, b, e, ty, k, q⟩
  subst e
  obtain ⟨u, w', e, ru, rw'⟩ := Vals.two r
  subst e
  cases rw'
  exact isinst_ok I ru ty k fun tk => ⟨.bl _, H, I.tok tk, rfl, q⟩
/-! ### set(list of ints), len of it -/
/-! ### min, max of a list of ints -/
end
end L2

set_option Elab.async false
set_option linter.all false
set_option maxRecDepth 100000
/-! EXTENSION 3: blocks by a check; a block by an invariant; hidden lists -/
namespace L2
open PySem PySem.Spec PyProof.Rows

/-! ### a block's text, by a check -/
def compChk (scope dsc : Scope) (N0 N2 : List Str) (cap : List (Option Nat)) : Bool :=
  (scope.kind == .function) && (scope.names.all fun y => y.2 != .cell) && (scope.names.all fun y => y.2 != .local || scope.names.lookup y.1 == some .local) &&
  (scope.names.all fun y => y.2 != .free || dsc.names.lookup y.1 == some .cell) && (scope.names.all fun y => y.2 != .free || scope.names.lookup y.1 == some .free) && decide N2.Nodup && (cap.length == N2.length) &&
  ((List.range cap.length).all fun i => match cap[i]?, N2[i]? with
    | some (some j), some x => N0[j]? == some x && scope.names.any (fun y => y.1 == x && y.2 == .free)
    | _, _ => true)
theorem compOk_of {X : Cx} {scope dsc : Scope} {N0 N2 : List Str} {cap : List (Option Nat)} (hd : X.env.scope = dsc) (hN : X.N = N0) (h : compChk scope dsc N0 N2 cap = true) : CompOk X scope N2 cap := by
  unfold compChk at h
  simp only [Bool.and_eq_true] at h
  obtain ⟨⟨⟨⟨⟨⟨⟨h1, h2⟩, h3⟩, h4⟩, h5⟩, h6⟩, h7⟩, h8⟩ := h
  rw [List.all_eq_true] at h2 h3 h4 h5 h8
  refine ⟨by simpa using h1, fun y hy e => ?_, fun y hy e => ?_, fun y hy e => ?_, fun y hy e => ?_, of_decide_eq_true h6, by simpa using h7, fun i j x e1 e2 => ?_⟩
  · have := h2 y hy; rw [e] at this; exact absurd this (by decide)
  · have := h3 y hy; rw [e] at this; simpa using this
  · have := h4 y hy
    rw [e] at this
    show X.env.scope.names.lookup y.1 = some .cell
    rw [hd]
    simpa using this
  · have := h5 y hy; rw [e] at this; simpa using this
  · have hi : i < cap.length := (List.getElem?_eq_some_iff.mp e1).1
    have q := h8 i (List.mem_range.mpr hi)
    rw [e1, e2] at q
    simp only [Bool.and_eq_true] at q
    refine ⟨by rw [hN]; simpa using q.1, ?_⟩
    obtain ⟨y, hy, z⟩ := List.any_eq_true.mp q.2
    simp only [Bool.and_eq_true] at z
    have e3 : y.1 = x := by simpa using z.1
    have e4 : y.2 = .free := by simpa using z.2
    rw [← e3, ← e4]
    exact hy

/-! ### a block by an invariant: P turn, items, heap; the heap keeps what it had ahead (H1), the new list is at acc -/
def CW (H1 : Hp) (acc : Addr) (n : Nat) (P : Nat → List V → Hp → Prop) : Nat → Nat → Hp → Prop :=
  fun i m H => m = n - i ∧ i ≤ n ∧ Same H1 H ∧ ∃ ys, H acc = some (.lst ys) ∧ P i ys H
theorem comp_by {J : It} {n : Nat} {cap : List (Option Nat)} {g : TG} {tc : TT} {te : TE} {σ : St} {Qr : Hp → Prop} {H1 : Hp} {acc : Addr} (P : Nat → List V → Hp → Prop) (hacc : H1 acc = none)
    (go : ∀ i H, i < n → Same H1 H → J.go i H) (stop : ∀ H, Same H1 H → J.stop n H) (h0 : P 0 [] (upd H1 acc (.lst [])))
    (step : ∀ i ys H, i < n → Same H1 H → H acc = some (.lst ys) → P i ys H → ∀ x H', J.yld i H x H' → g x (capSt cap σ) H' fun σ2 H2 => tc σ2 H2 fun b H3 => if b = true then te σ2 H3 fun y H4 => ∃ xs, H4 acc = some (.lst xs) ∧ xs.length < sizeLine ∧
      ∃ m', m' < n - i ∧ CW H1 acc n P (i + 1) m' (upd H4 acc (.lst (xs ++ [y]))) else ∃ m', m' < n - i ∧ CW H1 acc n P (i + 1) m' H3)
    (fin : ∀ ys H, Same H1 H → H acc = some (.lst ys) → P n ys H → Qr H) :
    ∃ W : Nat → Nat → Hp → Prop, (∃ m, W 0 m (upd H1 acc (.lst []))) ∧ ∀ i m H, W i m H →
      (J.stop i H ∧ Qr H) ∨ (J.go i H ∧ ∀ x H', J.yld i H x H' → g x (capSt cap σ) H' fun σ2 H2 => tc σ2 H2 fun b H3 => if b = true then te σ2 H3 fun y H4 => ∃ xs, H4 acc = some (.lst xs) ∧ xs.length < sizeLine ∧
        ∃ m', m' < m ∧ W (i + 1) m' (upd H4 acc (.lst (xs ++ [y]))) else ∃ m', m' < m ∧ W (i + 1) m' H3) := by
  refine ⟨CW H1 acc n P, ⟨n, rfl, Nat.zero_le _, Same.new hacc, [], upd_same, h0⟩, ?_⟩
  rintro i m H ⟨rfl, hi, s, ys, hy, p⟩
  by_cases hlt : i < n
  · exact .inr ⟨go i H hlt s, step i ys H hlt s hy p⟩
  · have e : i = n := by omega
    subst e
    exact .inl ⟨stop H s, fin ys H s hy p⟩
/-- a turn's end with one item more -/
theorem comp_add {H1 H4 : Hp} {acc : Addr} {n i : Nat} {P : Nat → List V → Hp → Prop} {ys : List V} {y : V} (hacc : H1 acc = none) (hi : i < n) (s : Same H1 H4) (hy : H4 acc = some (.lst ys)) (hl : ys.length < sizeLine) (p : P (i + 1) (ys ++ [y]) (upd H4 acc (.lst (ys ++ [y])))) :
    ∃ xs, H4 acc = some (.lst xs) ∧ xs.length < sizeLine ∧ ∃ m', m' < n - i ∧ CW H1 acc n P (i + 1) m' (upd H4 acc (.lst (xs ++ [y]))) :=
  ⟨ys, hy, hl, n - (i + 1), by omega, rfl, hi, s.out hacc, _, upd_same, p⟩
/-- .. with none -/
theorem comp_skip {H1 H3 : Hp} {acc : Addr} {n i : Nat} {P : Nat → List V → Hp → Prop} {ys : List V} (hi : i < n) (s : Same H1 H3) (hy : H3 acc = some (.lst ys)) (p : P (i + 1) ys H3) : ∃ m', m' < n - i ∧ CW H1 acc n P (i + 1) m' H3 :=
  ⟨n - (i + 1), by omega, rfl, hi, s, _, hy, p⟩
theorem itl_go {K : PySem.W.Frag} {a : Addr} {xs : List V} {H1 : Hp} (h : SqL K H1 a xs) : ∀ i H, i < xs.length → Same H1 H → (Itl K a).go i H := fun i H hi s => ⟨xs, xs[i], s.seq h, by simp [hi]⟩
theorem itl_stop {K : PySem.W.Frag} {a : Addr} {xs : List V} {H1 : Hp} (h : SqL K H1 a xs) : ∀ H, Same H1 H → (Itl K a).stop xs.length H := fun H s => ⟨xs, s.seq h, Nat.le_refl _⟩
theorem itr_go {lo : Int} {n : Nat} {H1 : Hp} : ∀ i H, i < n → Same H1 H → (Itr lo n).go i H := fun i H hi s => hi
theorem itr_stop {lo : Int} {n : Nat} {H1 : Hp} : ∀ H, Same H1 H → (Itr lo n).stop n H := fun H s => Nat.le_refl n

/-! ### all but one list -/
/-! ### items of data by their place -/
theorem atI_ge {α : Type} {xs : List α} {i : Int} {v : α} (h0 : 0 ≤ i) (h : xs[i.toNat]? = some v) : atI xs i = some v := by
  obtain ⟨k, rfl⟩ := Int.eq_ofNat_of_zero_le h0
  exact atI_nat (by simpa using h)
theorem atI_ints {ns : List Int} {i : Int} (h0 : 0 ≤ i) (h : i < ns.length) : atI (ns.map V.int) i = some (.int (ns.getD i.toNat 0)) := by
  have hk : i.toNat < ns.length := by omega
  refine atI_ge h0 ?_
  rw [List.getElem?_map, List.getD_eq_getElem?_getD, List.getElem?_eq_getElem hk]
  rfl

/-! ### rules with the written part named (within a block the reading must not name the block's state) -/
section
variable {X : Cx}
/-- isinstance of a tuple, a list that is read -/
theorem call_isiT : CallR X (.builtin "isinstance") (fun xs H Q => ∃ (a : Addr) (ys : List V) (n : String) (b : Bool), xs = [.ref a, .ty n] ∧ SqT X.K H a ys ∧ PySem.W.kitOne X.K (.type "tuple") (.type n) = some b ∧ Q (.bl b) H) := by
  intro pins s σ H xs us Q I r ⟨a, ys, n, b, e, hq, k, q⟩
  subst e
  obtain ⟨u, w', e, ru, rw'⟩ := Vals.two r
  subst e
  cases rw'
  cases ru
  obtain ⟨its, rv, ⟨o, h1, h2, _⟩, _⟩ := I.tuple hq
  exact PySem.W.kia_one PySem.W.kitx_tuple I.kIn ⟨o, h1, h2⟩ k (fun z => nomatch z) fun tk => ⟨.bl _, H, I.tok tk, rfl, q⟩
theorem call_isiL : CallR X (.builtin "isinstance") (fun xs H Q => ∃ (a : Addr) (ys : List V) (n : String) (b : Bool), xs = [.ref a, .ty n] ∧ SqL X.K H a ys ∧ PySem.W.kitOne X.K (.type "list") (.type n) = some b ∧ Q (.bl b) H) := by
  intro pins s σ H xs us Q I r ⟨a, ys, n, b, e, hq, k, q⟩
  subst e
  obtain ⟨u, w', e, ru, rw'⟩ := Vals.two r
  subst e
  cases rw'
  cases ru
  obtain ⟨its, rv, ⟨o, n', h1, h2, _⟩, _⟩ := I.list hq
  exact PySem.W.kia_one PySem.W.kitx_list I.kIn ⟨o, h1, h2⟩ k (fun z => nomatch z) fun tk => ⟨.bl _, H, I.tok tk, rfl, q⟩

/-! ### argument lists by a cheap check -/
def nostar : Expr → Bool
  | .Starred _ _ => false
  | _ => true
theorem starEach_ns {e : Expr} {es : List Expr} {env : Env} (h : nostar e = true) : starEach (e :: es) env = (false, eval e env) :: starEach es env := by
  cases e <;> first | rfl | (exact Bool.noConfusion h) | simp [starEach]
theorem pa_c {e : Expr} {es : List Expr} {te : TE} {t : TA} (ha : PE X e te) (hr : PA X es t) (hs : nostar e = true := by rfl) : PA X (e :: es) (tCons te t) := pa_cons ha hr (starEach_ns hs)

/-! ### written data -/
end
end L2

set_option Elab.async false
set_option linter.all false
set_option maxRecDepth 100000
/-! EXTENSION 4: dicts: setdefault, a walk over the keys; all of a list of truths -/
namespace L2
open PySem PySem.Spec PyProof.Rows


/-! ### for k in d -/
/-! ### all([..]) -/
section
variable {X : Cx}
theorem bls_get {bs : List Bool} {us : List Value} (r : Vals (bs.map V.bl) us) {i : Nat} {v : Value} (h : us[i]? = some v) : v = .bool (bs.getD i true) := by
  have hl := r.length
  rw [List.length_map] at hl
  have hi : i < us.length := (List.getElem?_eq_some_iff.mp h).1
  have e : (bs.map V.bl)[i]? = some (.bl (bs.getD i true)) := by
    rw [List.getElem?_map, List.getElem?_eq_getElem (by omega), List.getD_eq_getElem?_getD, List.getElem?_eq_getElem (by omega)]; rfl
  obtain ⟨u, hu, ru⟩ := r.get e
  rw [h] at hu
  cases hu
  exact ru
theorem range_all (bs : List Bool) : ((List.range bs.length).all fun i => bs.getD i true) = bs.all id := by
  rw [Bool.eq_iff_iff, List.all_eq_true, List.all_eq_true]
  constructor
  · intro h x hx
    obtain ⟨i, hi, e⟩ := List.getElem_of_mem hx
    have := h i (List.mem_range.mpr hi)
    rw [List.getD_eq_getElem?_getD, List.getElem?_eq_getElem hi, e] at this
    exact this
  · intro h i hi
    have hi := List.mem_range.mp hi
    have := h bs[i] (List.getElem_mem hi)
    rw [List.getD_eq_getElem?_getD, List.getElem?_eq_getElem hi]
    exact this
theorem call_all (hc : X.calm = true) : CallR X (.builtin "all") (fun xs H Q => ∃ (a : Addr) (bs : List Bool), xs = [.ref a] ∧ SqL X.K H a (bs.map V.bl) ∧ Q (.bl (bs.all id)) H) := by
  intro pins s σ H xs us Q I r ⟨a, bs, e, hq, q⟩
  subst e
  obtain ⟨u, e, ru⟩ := Vals.one r
  subst e
  cases ru
  obtain ⟨its, rv, p, hz⟩ := I.list hq
  have hl := rv.length
  rw [List.length_map] at hl
  refine call_all_walk (wpAny_pyIter_list p.isList ?_)
  have hlt : a < s.heap.objs.size := by obtain ⟨o, n, e, _⟩ := p; exact Heap.lt_size e
  refine ⟨s.heap.objs.size, _, _, _, _, _, fun i => bs.getD i true, rfl, Walks.list (A := X.A.in1) (show X.A.in1.handled = none from I.ok.hd hc) _ a (Nat.ne_of_lt hlt) its.toArray, ⟨⟨_, Heap.get?_push_size _ rfl, rfl, rfl⟩, p.isList.at fun o e => Heap.get?_push_of_some _ e⟩, ?_, fun h' tk hk => ?_⟩
  · intro i v s Q E hP hQ
    have e := bls_get rv (show its[i]? = some v by simpa using hP)
    subst e
    exact wpAny_truthy_bool hQ
  · have e : (List.range its.toArray.size).all (fun i => bs.getD i true) = bs.all id := by
      rw [show its.toArray.size = bs.length by simp [hl]]
      exact range_all bs
    rw [e]
    exact ⟨.bl _, H, I.kept (t' := tk) fun b o e => hk b o (by
      intro z
      have : b = s.heap.objs.size := by simpa using z
      exact absurd (Heap.lt_size e) (by rw [this]; exact Nat.lt_irrefl _)) (Heap.get?_push_of_some _ e), rfl, q⟩
end
end L2

set_option Elab.async false
set_option linter.all false
/-! pairs of houses: what leads where (plain mathematics) -/
namespace Gr
/-! ### the neighbours of a house, by the pairs' numbers -/
/-! ### lists without a double -/
/-! ### the houses come to from one, each with its step back -/
/-! ### a way -/
/-! ### the parts -/
end Gr

set_option Elab.async false
set_option linter.all false
set_option maxRecDepth 100000
/-! lists of pairs, a dict of lists of pairs, a dict of steps back, in the heap -/
namespace L2
open PySem Gr


/-! ### tuples of two numbers -/
/-! ### for each house the list of its pairs -/

/-! ### the steps back -/
end L2

set_option Elab.async false
set_option linter.all false
set_option maxRecDepth 100000
/-! EXTENSION 5: range objects, list(range(n)) -/
namespace L2
open PySem PySem.Spec PyProof.Rows
end L2

set_option Elab.async false
set_option linter.all false
/-! rounds, marks (plain mathematics) -/
namespace Gr
/-! ### marks -/
end Gr

set_option Elab.async false
set_option linter.all false
namespace Gr
end Gr

set_option Elab.async false
set_option linter.all false
set_option maxRecDepth 100000
/-! EXTENSION 6: an exception on its way: what its notes change -/
namespace L2
open PySem PySem.Spec PyProof.Rows

end L2

set_option Elab.async false
set_option linter.all false
set_option maxRecDepth 100000
namespace L2
open PySem PySem.Spec PyProof.Rows
/-! ### the state through a note -/

/-! ### an exception here; an exception behind a call -/
end L2

set_option Elab.async false
set_option linter.all false
set_option maxRecDepth 100000
namespace L2
open PySem PySem.Spec PyProof.Rows

/-! ### an own class of errors under ValueError -/
/-! ### raise C(..) -/
end L2

set_option Elab.async false
set_option linter.all false
set_option maxRecDepth 100000
namespace L2
open PySem PySem.Spec PyProof.Rows
/-! ### an exception that is held: isinstance, except -/
end L2

set_option Elab.async false
set_option linter.all false
set_option maxRecDepth 100000
namespace L2
open PySem PySem.Spec PyProof.Rows
/-! ### expressions that may raise; try .. except C as n -/

end L2

set_option Elab.async false
set_option linter.all false
set_option maxRecDepth 100000
/-! EXTENSION 7: f-strings, list.insert -/
namespace L2
open PySem PySem.Spec PyProof.Rows
end L2

set_option linter.all false
/-! Own work: rows, offers, dues, rounds (the mathematics; no model in it). A row's by: -1 for none. -/
namespace RM
structure Row where
  hd : Int
  co : Int
  ho : Int
  by_ : Int
deriving DecidableEq
def lt (r s : Row) : Prop := r.hd < s.hd ∨ (r.hd = s.hd ∧ (r.co < s.co ∨ (r.co = s.co ∧ (r.ho < s.ho ∨ (r.ho = s.ho ∧ r.by_ < s.by_)))))
instance (r s : Row) : Decidable (lt r s) := by unfold lt; infer_instance
def le (r s : Row) : Prop := ¬ lt s r
instance (r s : Row) : Decidable (le r s) := by unfold le; infer_instance
/-- a town: names, and ropes by their numbers -/
structure Net where
  n : Nat
  nm : Nat → Int
  a : Nat → Nat
  b : Nat → Nat
  c : Nat → Int
  live : List Nat
  inj : ∀ i j, i < n → j < n → nm i = nm j → i = j
  ab : ∀ k ∈ live, a k < n ∧ b k < n ∧ a k ≠ b k
  c1 : ∀ k ∈ live, 1 ≤ c k
section
variable (N : Net)
def own (h : Nat) : Row := ⟨N.nm h, 0, 0, -1⟩
end
variable {N : Net}
def upd (R : Nat → Row) (h : Nat) (d : Row) : Nat → Row := fun x => if x = h then d else R x
/-! ### there are rows at rest, just one -/
/-! ### parts; heads -/
/-! ### hanging -/
/-! ### a fall touches those beyond alone -/
/-! ### how many rounds -/
end RM

set_option linter.all false
/-! labels that go along live ropes (the mathematics; no model in it) -/
namespace RM
variable {N : Net}
end RM

set_option Elab.async false
set_option linter.all false
set_option maxRecDepth 100000
/-! EXTENSION 8: t < u of tuples that are told apart by ints, though they hold None -/
namespace L2
open PySem PySem.Spec PyProof.Rows
section
open PySem.SeqAt
open PySem.AutoSeq1 (wpAny_loadPart')
open PySem.MeetsSeq PySem.MeetsSeq2 PySem.MeetsSeq3
end
end L2
/-! rows -/
namespace RM
open PySem L2
/-- a row's by, as a value: None where it is below nought -/
def byV (b : Int) : V := if b < 0 then .non else .int b
abbrev rowV (r : Row) : List V := [.int r.hd, .int r.co, .int r.ho, byV r.by_]
theorem byV_non {b : Int} (h : b < 0) : byV b = .non := if_pos h
theorem byV_int {b : Int} (h : 0 ≤ b) : byV b = .int b := if_neg (by omega)
end RM

set_option Elab.async false
set_option linter.all false
set_option maxRecDepth 100000
/-! EXTENSION 9: min of rows: of two, of a list -/
namespace L2
open PySem PySem.Spec PyProof.Rows
end L2

set_option Elab.async false
set_option linter.all false
set_option maxRecDepth 100000
namespace L2
open PySem PySem.Spec PyProof.Rows RM
end L2

set_option Elab.async false
set_option linter.all false
set_option maxRecDepth 100000
/-! EXTENSION 10: == of data within comprehensions; rows as data -/
namespace L2
open PySem PySem.Spec PyProof.Rows
end L2
namespace RM
open PySem L2
end RM

set_option Elab.async false
set_option linter.all false
set_option maxRecDepth 100000
/-! EXTENSION 11: zip of two lists -/
namespace L2
open PySem PySem.Spec PyProof.Rows
section
variable {X : Cx}
/-- a pair of the items, a new tuple at each turn -/
def Itz (K : PySem.W.Frag) (a b : Addr) : It :=
  ⟨fun i H => ∃ xs ys x y, SqL K H a xs ∧ SqL K H b ys ∧ xs[i]? = some x ∧ ys[i]? = some y,
   fun i H v H' => ∃ p x y, H p = none ∧ v = .ref p ∧ H' = upd H p (.tup [x, y]) ∧ (∀ xs, SqL K H a xs → xs[i]? = some x) ∧ ∀ ys, SqL K H b ys → ys[i]? = some y,
   fun i H => ∃ xs ys, SqL K H a xs ∧ SqL K H b ys ∧ (xs.length ≤ i ∨ ys.length ≤ i)⟩
theorem turn_zip {P : Program} {w : World} {K : PySem.W.Frag} {elts : List Expr} {x1} {pos : Pos} (a b z TI TO i1 i2 : Addr) (D : ZipApart z TI TO i1 i2 a b) :
    Turn P w K (.Tuple elts x1 pos) (Itz K a b) [z, TI, TO, i1, i2] z (fun i h => IsZip h z TI TO .none ∧ IsPair h TI (.ref i1) (.ref i2) ∧ (∃ u v, IsPair h TO u v) ∧ h.IsListIter i1 a i ∧ h.IsListIter i2 b i) where
  mem := by simp
  obj := fun i h ⟨h1, h2, ⟨u, v, h3⟩, h4, h5⟩ c hc => by
    simp only [List.mem_cons, List.not_mem_nil, or_false] at hc
    rcases hc with rfl | rfl | rfl | rfl | rfl
    · exact ⟨_, h1, fun v q => by
        have q' : Data.fields _ = Data.cell v := q
        cases q'⟩
    · exact ⟨_, h2, fun v q => by
        have q' : Data.seq _ _ = Data.cell v := q
        cases q'⟩
    · exact ⟨_, h3, fun v q => by
        have q' : Data.seq _ _ = Data.cell v := q
        cases q'⟩
    · obtain ⟨o, e, c, d⟩ := h4
      exact ⟨o, e, fun v q => by rw [d] at q; cases q⟩
    · obtain ⟨o, e, c, d⟩ := h5
      exact ⟨o, e, fun v q => by rw [d] at q; cases q⟩
  keep := fun i h h' ⟨h1, h2, ⟨u, v, h3⟩, h4, h5⟩ k => ⟨k z (by simp) _ h1, k TI (by simp) _ h2, ⟨u, v, k TO (by simp) _ h3⟩, h4.at fun o q => k i1 (by simp) o q, h5.at fun o q => k i2 (by simp) o q⟩
  item := by
    intro X hP hw hK hc i pins s σ H E I hf ⟨h1, h2, ⟨u0, v0, h3⟩, h4, h5⟩ hg
    subst hP hw hK
    obtain ⟨xs, ys, x, y, hqa, hqb, hx, hy⟩ := hg
    obtain ⟨its, rv, p1, _⟩ := I.list hqa
    obtain ⟨itt, rw', p2, _⟩ := I.list hqb
    obtain ⟨u, hu, ru⟩ := rv.get hx
    obtain ⟨v, hv, rv'⟩ := rw'.get hy
    refine wpAny_pyNext_zip_item D h1 h2 h3 h4 h5 p1.isList p2.isList (x := u) (y := v) (by simpa using hu) (by simpa using hv) fun h' eo to' li1 li2 tu sz kp => ?_
    refine ⟨_, rfl, wpAny_letOwnedTupleGo_zip eo fun hh e2 sb2 => ?_⟩
    have hfr : H s.heap.objs.size = none := I.hok.fresh (Nat.le_refl _)
    have old : ∀ c ∈ [z, TI, TO, i1, i2], c < s.heap.objs.size := fun c hc => by
      simp only [List.mem_cons, List.not_mem_nil, or_false] at hc
      rcases hc with rfl | rfl | rfl | rfl | rfl
      · exact Heap.lt_size h1
      · exact Heap.lt_size h2
      · exact Heap.lt_size h3
      · obtain ⟨o, e, _⟩ := h4; exact Heap.lt_size e
      · obtain ⟨o, e, _⟩ := h5; exact Heap.lt_size e
    have nH : ∀ c ∈ [z, TI, TO, i1, i2], ∀ b o, H b = some o → b ≠ c := fun c hc b o q e => by rw [e, (hf c hc).1] at q; cases q
    have kp2 : ∀ b o, b ∉ [z, TO, i1, i2] → s.heap.get? b = some o → hh.get? b = some o := fun b o hb q => by
      simp only [List.mem_cons, List.not_mem_nil, or_false, not_or] at hb
      exact (sb2.2 b hb.1).trans (kp b o hb.1 hb.2.1 hb.2.2.1 hb.2.2.2 q)
    have sub : ∀ c ∈ [z, TO, i1, i2], c ∈ [z, TI, TO, i1, i2] := fun c hc => by
      simp only [List.mem_cons, List.not_mem_nil, or_false] at hc ⊢
      rcases hc with q | q | q | q <;> simp [q]
    have kH : ∀ b o u, H b = some o → s.heap.get? b = some u → hh.get? b = some u := fun b o u q r => kp2 b u (fun m => nH b (sub b m) b o q rfl) r
    have tu2 : hh.get? s.heap.objs.size = some { cls := .type "tuple", data := .seq #[u, v] } := (sb2.2 _ (Nat.ne_of_gt (Heap.lt_size h1))).trans tu
    have fre : ∀ c ∈ [z, TI, TO, i1, i2], upd H s.heap.objs.size (.tup [x, y]) c = none := fun c hc => by
      rw [upd_ne (Nat.ne_of_lt (old c hc))]
      exact (hf c hc).1
    have I1 : Inv X pins σ (upd H s.heap.objs.size (.tup [x, y])) { s with heap := hh, toks := s.toks } := by
      refine I.step (g' := s.gens) (d' := s.drawn) (ch := [z, TO, i1, i2]) (fun b hb => ?_) (fun b o _ _ hc q _ => kp2 b o hc q) (fun b o _ _ hc q _ => ⟨o.slots, kp2 b o hc q⟩)
        (fun b o _ q n => by rw [upd_ne (Nat.ne_of_lt (Heap.lt_size q))]; exact n) (fun b o hc q => ⟨o, kp2 b o hc q⟩) (fun b xs q => by rw [upd_ne (ne_of_none q hfr)]; exact q) (fun b o u q => by rw [upd_ne (ne_of_none q hfr)]; exact q)
        (fun b ps q => ⟨#[], by rw [upd_ne (ne_of_none q hfr), q]; simp⟩) (fun m hm => ?_) (fun b o q => ?_) I.bare
      · obtain ⟨_, f1, _, f3, f4, f5⟩ := hf b (sub b hb)
        exact ⟨f3, f1, f4, f5⟩
      · obtain ⟨o, es, ep, ho, r⟩ := hm
        refine ⟨o, es, ep, kp2 _ o (fun q => ?_) ho, r⟩
        exact (hf _ (sub _ q)).2.1 rfl
      · by_cases hb : b = s.heap.objs.size
        · subst hb
          rw [upd_same] at q
          cases q
          exact ⟨by show 2 ≤ sizeLine; decide, [u, v], .cons ru (.cons rv' .nil), ⟨_, tu2, rfl, _, rfl⟩⟩
        · rw [upd_ne hb] at q
          refine (I.hok b o q).stay (fun c u' hc r => ?_) (fun c r => by rw [upd_ne (ne_of_none r hfr)]; exact r) fun c xs r => by rw [upd_ne (ne_of_none r hfr)]; exact r
          rcases hc with e | e
          · rw [e] at r ⊢; exact kH b o u' q r
          · exact kH c _ u' e r
    refine ⟨.ref s.heap.objs.size, _, I1, rfl, ⟨_, x, y, hfr, rfl, rfl, fun zs q => by rw [I.list_inj q hqa]; exact hx, fun zs q => by rw [I.list_inj q hqb]; exact hy⟩, ⟨e2, ?_, ⟨u, v, ?_⟩, ?_, ?_⟩, fre⟩
    · exact kp2 TI _ (by
        simp only [List.mem_cons, List.not_mem_nil, or_false, not_or]
        exact ⟨D.TIz, D.TITO, D.TIi1, D.TIi2⟩) h2
    · exact (sb2.2 TO D.TOz).trans to'
    · exact li1.at fun o q => (sb2.2 i1 D.i1z).trans q
    · exact li2.at fun o q => (sb2.2 i2 D.i2z).trans q
  done := by
    intro X hP hw hK hc i pins s σ H E I hf ⟨h1, h2, ⟨u0, v0, h3⟩, h4, h5⟩ hg
    subst hP hw hK
    obtain ⟨xs, ys, hqa, hqb, hx⟩ := hg
    obtain ⟨its, rv, p1, _⟩ := I.list hqa
    obtain ⟨itt, rw', p2, _⟩ := I.list hqb
    have l1 := rv.length
    have l2 := rw'.length
    refine wpAny_pyNext_zip_end (I.ok.hd hc) D h1 h2 h3 h4 h5 p1.isList p2.isList ?_ fun h' kp => ⟨rfl, ?_⟩
    · rcases hx with q | q
      · refine .inl ?_
        rw [List.getElem?_toArray, List.getElem?_eq_none (by omega)]
      · refine .inr ?_
        rw [List.getElem?_toArray, List.getElem?_eq_none (by omega)]
    · have sub : ∀ c ∈ [z, TO, i1, i2], c ∈ [z, TI, TO, i1, i2] := fun c hc => by
        simp only [List.mem_cons, List.not_mem_nil, or_false] at hc ⊢
        rcases hc with q | q | q | q <;> simp [q]
      have kp2 : ∀ b o, b ∉ [z, TO, i1, i2] → s.heap.get? b = some o → h'.get? b = some o := fun b o hb q => by
        simp only [List.mem_cons, List.not_mem_nil, or_false, not_or] at hb
        exact kp b o hb.1 hb.2.1 hb.2.2.1 hb.2.2.2 q
      have kH : ∀ b o u, H b = some o → s.heap.get? b = some u → h'.get? b = some u := fun b o u q r => kp2 b u (fun m => by rw [(hf b (sub b m)).1] at q; cases q) r
      refine I.step (t' := s.toks) (g' := s.gens) (d' := s.drawn) (ch := [z, TO, i1, i2]) (fun b hb => ?_) (fun b o _ _ hc q _ => kp2 b o hc q) (fun b o _ _ hc q _ => ⟨o.slots, kp2 b o hc q⟩)
        (fun b o _ q n => n) (fun b o hc q => ⟨o, kp2 b o hc q⟩) (fun b xs q => q) (fun b o u q => q) (fun b ps q => ⟨#[], by rw [q]; simp⟩) (fun m hm => ?_) (fun b o q => ?_) I.bare
      · obtain ⟨_, f1, _, f3, f4, f5⟩ := hf b (sub b hb)
        exact ⟨f3, f1, f4, f5⟩
      · obtain ⟨o, es, ep, ho, r⟩ := hm
        refine ⟨o, es, ep, kp2 _ o (fun q => ?_) ho, r⟩
        exact (hf _ (sub _ q)).2.1 rfl
      · refine (I.hok b o q).stay (fun c u' hc r => ?_) (fun c r => r) fun c xs r => r
        rcases hc with e | e
        · rw [e] at r ⊢; exact kH b o u' q r
        · exact kH c _ u' e r
  self := fun _ _ _ _ _ ⟨h1, _⟩ h => wpAny_pyIter_zip h1 h
def iZip (K : PySem.W.Frag) (ta : TA) : TI := fun σ H R => ta σ H fun vs H1 => ∃ a b xs ys, vs = [.ref a, .ref b] ∧ SqL K H1 a xs ∧ SqL K H1 b ys ∧ R (Itz K a b) H1
theorem pi_zip {l m : Expr} {ta : TA} {p pos : Pos} {elts : List Expr} {x1} {tpos : Pos} (hg : Gl X "zip") (hm : X.mg "zip" = none) (ha : PA X [l, m] ta) (hs : starEach [l, m] X.env = (false, eval l X.env) :: starEach [m] X.env := by rfl) (hpl : (backTo pos (starEach [m] X.env)).any (·.1) = false := by rfl) :
    PI X (.Tuple elts x1 tpos) (.Call (.Name "zip" p) [l, m] [] pos) (iZip X.K ta) := by
  intro pins s σ H R I h
  refine Call_ (ld_blt I hg hm boot_zip (PyProof.Rows.callWith_type1 (thn (ha pos pins s σ H _ I h) fun us s1 ⟨vs, H1, I1, r1, q1⟩ => ?_) hs hpl))
  obtain ⟨a, b, xs, ys, e, hqa, hqb, q⟩ := q1
  subst e
  obtain ⟨u, w', rfl, ru, rw'⟩ := Vals.two r1
  cases ru
  cases rw'
  obtain ⟨its, rv, pl, hz⟩ := I1.list hqa
  obtain ⟨its2, rv2, pl2, hz2⟩ := I1.list hqb
  have la : a < s1.heap.objs.size := by obtain ⟨_, e, _⟩ := pl.isList; exact Heap.lt_size e
  have lb : b < s1.heap.objs.size := by obtain ⟨_, e, _⟩ := pl2.isList; exact Heap.lt_size e
  refine call_zip_2 pl.isList pl2.isList fun h' z1 z2 z3 z4 z5 sz kp => wpAny_pyIter_zip z1 ?_
  have I2 : Inv X pins σ H1 { s1 with heap := h', toks := s1.toks } := I1.kept kp
  have fr : ∀ c, s1.heap.objs.size ≤ c → FpOk X pins H1 c := fun c hc => I1.fpOk hc (I1.hok.fresh hc)
  refine ⟨s1.heap.objs.size + 4, [s1.heap.objs.size + 4, s1.heap.objs.size + 2, s1.heap.objs.size + 3, s1.heap.objs.size, s1.heap.objs.size + 1], _, _, H1, rfl, I2, turn_zip a b _ _ _ _ _ (zipApart_new la lb), ⟨z1, z2, ⟨_, _, z3⟩, z4, z5⟩, fun c hc => fr c ?_, q⟩
  simp only [List.mem_cons, List.not_mem_nil, or_false] at hc
  rcases hc with rfl | rfl | rfl | rfl | rfl
  · exact Nat.le_add_right _ _
  · exact Nat.le_add_right _ _
  · exact Nat.le_add_right _ _
  · exact Nat.le_refl _
  · exact Nat.le_add_right _ _
end
end L2

set_option Elab.async false
set_option linter.all false
set_option maxRecDepth 100000
/-! EXTENSION 12: max of a list of ints -/
namespace L2
open PySem PySem.Spec PyProof.Rows
end L2

set_option Elab.async false
set_option linter.all false
set_option maxRecDepth 100000
/-! EXTENSION 13: rows by their first three -/
namespace RM
open PySem L2
end RM
namespace L2
open PySem PySem.Spec PyProof.Rows
end L2
namespace L2
open PySem PySem.Spec PyProof.Rows
end L2

set_option Elab.async false
set_option linter.all false
set_option maxRecDepth 100000
/-! EXTENSION 14: for over zip(..) -/
namespace L2
open PySem PySem.Spec PyProof.Rows
theorem for_zip {K : PySem.W.Frag} {a b : Addr} {xs ys : List V} {n : Nat} {g : TG} {tb : TS} {D : Ends} {σ : St} {H : Hp} (Pv : Nat → St → Hp → Prop) (la : xs.length = n) (lb : ys.length = n) (h0 : Pv 0 σ H) (hl : ∀ i σ H, i ≤ n → Pv i σ H → SqL K H a xs ∧ SqL K H b ys)
    (hs : ∀ i x y σ H p, i < n → xs[i]? = some x → ys[i]? = some y → Pv i σ H → H p = none → g (.ref p) σ (upd H p (.tup [x, y])) fun σ2 H2 => tb { D with nx := Pv (i + 1), ct := Pv (i + 1), bk := D.nx } σ2 H2) (hd : ∀ σ H, Pv n σ H → D.nx σ H) :
    ∃ W : Nat → Nat → St → Hp → Prop, (∃ m, W 0 m σ H) ∧ ∀ i m σ H, W i m σ H →
      ((Itz K a b).stop i H ∧ D.nx σ H) ∨ ((Itz K a b).go i H ∧ ∃ N : St → Hp → Prop, (∀ σ' H', N σ' H' → ∃ m', m' < m ∧ W (i + 1) m' σ' H') ∧ ∀ x H', (Itz K a b).yld i H x H' → g x σ H' fun σ2 H2 => tb { D with nx := N, ct := N, bk := D.nx } σ2 H2) := by
  refine ⟨fun i m σ H => m = n - i ∧ i ≤ n ∧ Pv i σ H, ⟨n, by simp, Nat.zero_le _, h0⟩, ?_⟩
  rintro i m σ H ⟨rfl, hi, p⟩
  obtain ⟨q1, q2⟩ := hl i σ H hi p
  by_cases hlt : i < n
  · refine .inr ⟨⟨xs, ys, xs[i]'(by omega), ys[i]'(by omega), q1, q2, List.getElem?_eq_getElem _, List.getElem?_eq_getElem _⟩, Pv (i + 1), fun σ' H' p' => ⟨n - (i + 1), by omega, rfl, hlt, p'⟩, fun x H' y => ?_⟩
    obtain ⟨c, x1, y1, hc, rfl, rfl, hx, hy⟩ := y
    exact hs i x1 y1 σ H c hlt (hx xs q1) (hy ys q2) p hc
  · have e : i = n := by omega
    subst e
    exact .inl ⟨⟨xs, ys, q1, q2, .inl (by omega)⟩, hd σ H p⟩
end L2

set_option Elab.async false
set_option linter.all false
set_option maxRecDepth 100000
set_option maxHeartbeats 4000000
/-! DATA: towns, ropes, rows, lists of them, as they stand on the heap -/
namespace TW
open PySem L2 PyProof.Rows
open RM (rowV byV byV_non byV_int)
seal L2.PE L2.PA L2.PT L2.PW L2.PS L2.PSs L2.PG L2.PGs L2.PI L2.PTs
/-! whole -/
/-! joins -/
/-! ropes -/
/-! init -/
/-! nmrope -/
/-! numbers -/
def above (xs : List Int) (x : Int) : Nat := (xs.filter fun y => decide (x ≤ y)).length
/-! wropes -/
/-! anyrow -/
theorem itt_go {K : PySem.W.Frag} {a : Addr} {xs : List V} {H1 : Hp} (h : SqT K H1 a xs) : ∀ i H, i < xs.length → Same H1 H → (Itt K a).go i H := fun i H hi s => ⟨xs, xs[i], s.seqT h, by simp [hi]⟩
theorem itt_stop {K : PySem.W.Frag} {a : Addr} {xs : List V} {H1 : Hp} (h : SqT K H1 a xs) : ∀ H, Same H1 H → (Itt K a).stop xs.length H := fun H s => ⟨xs, s.seqT h, Nat.le_refl _⟩
/-! live -/
/-! near -/
/-! wdue -/
/-! fit -/
theorem cut_from (xs : List V) (i : Nat) : cutV xs (some (i : Int)) none = xs.drop i := by
  unfold cutV
  rw [HT.sIx_nat]
  show (xs.drop (min i xs.length)).take (xs.length - min i xs.length) = _
  by_cases h : i ≤ xs.length
  · rw [Nat.min_eq_left h, List.take_of_length_le (by rw [List.length_drop]; exact Nat.le_refl _)]
  · rw [Nat.min_eq_right (by omega), List.drop_of_length_le (Nat.le_refl _), List.drop_of_length_le (by omega)]
    simp
/-! truth -/
/-! ownrows -/
/-! townat -/
/-! own -/
/-! due -/
/-! resting -/
/-! rowsdata -/
theorem cut_ints (ns : List Int) (a b : Nat) : ∃ cs : List Int, cutV (ns.map V.int) (some (a : Int)) (some (b : Int)) = cs.map V.int ∧ cs.length ≤ b - a := by
  refine ⟨(ns.drop (HT.sIx ns.length 0 (some (a : Int)))).take (HT.sIx ns.length ns.length (some (b : Int)) - HT.sIx ns.length 0 (some (a : Int))), ?_, ?_⟩
  · unfold cutV
    rw [List.length_map, List.map_take, List.map_drop]
  · rw [HT.sIx_nat, HT.sIx_nat, List.length_take, List.length_drop]
    omega
/-! sets, rounds -/
/-! rests -/
/-! labels; what leads on, as data -/
/-! the best of what leads on -/
end TW
/-! smaller proof terms -/
namespace TW
open PySem L2 PyProof.Rows
end TW

set_option Elab.async false
set_option linter.all false
set_option maxRecDepth 100000
set_option maxHeartbeats 4000000
/-! DATA 2: by what houses hang -/
namespace TW
open PySem L2 PyProof.Rows
open RM (rowV byV byV_non byV_int)
seal L2.PE L2.PA L2.PT L2.PW L2.PS L2.PSs L2.PG L2.PGs L2.PI L2.PTs
section
open Classical
end
/-! what a law tells of a town -/
end TW

set_option Elab.async false
set_option linter.all false
set_option maxRecDepth 100000
/-! EXTENSION 15: sorted of a list of ints -/
namespace L2
open PySem PySem.Spec PyProof.Rows
end L2

set_option Elab.async false
set_option linter.all false
set_option maxRecDepth 100000
set_option maxHeartbeats 4000000
/-! DATA 3: ways up, open ropes -/
namespace TW
open PySem L2 PyProof.Rows
open RM (rowV byV byV_non byV_int)
seal L2.PE L2.PA L2.PT L2.PW L2.PS L2.PSs L2.PG L2.PGs L2.PI L2.PTs
end TW

set_option Elab.async false
set_option linter.all false
set_option maxRecDepth 100000
set_option maxHeartbeats 4000000
/-! DATA 4: the pairs of open ropes -/
namespace TW
open PySem L2 PyProof.Rows Gr
open RM (rowV byV byV_non byV_int)
end TW

set_option Elab.async false
set_option linter.all false
set_option maxRecDepth 100000
/-! EXTENSION 16: list(reversed(xs)), list(range(a, b)) -/
namespace L2
open PySem PySem.Calls PySem.Spec PyProof.Rows PyProof.V PySem.W
end L2
namespace L2
open PySem PySem.Calls PySem.Spec PyProof.Rows PyProof.V PySem.W
end L2

set_option Elab.async false
set_option linter.all false
set_option maxRecDepth 100000
set_option maxHeartbeats 4000000
/-! DATA 5: one way at most where ropes hold no ring -/
namespace Gr
end Gr
namespace TW
open PySem L2 PyProof.Rows Gr
end TW

set_option Elab.async false
set_option linter.all false
set_option maxRecDepth 100000
/-! EXTENSION 17: list(range(a, b)) -/
namespace L2
open PySem PySem.Calls PySem.Spec PyProof.Rows PyProof.V PySem.W
end L2
namespace TW
open PySem L2 PyProof.Rows Gr
end TW

set_option Elab.async false
set_option linter.all false
set_option maxRecDepth 100000
/-! strands: the wires that stand -/
namespace TW
open PySem L2 PyProof.Rows
end TW

set_option Elab.async false
set_option linter.all false
set_option maxRecDepth 100000
/-! EXTENSION 18: any -/
namespace L2
open PySem PySem.Spec PyProof.Rows
end L2

set_option Elab.async false
set_option linter.all false
set_option maxRecDepth 100000
/-! live ropes by strands; two sets of strands -/
namespace TW
open PySem L2 PyProof.Rows
end TW

set_option Elab.async false
set_option linter.all false
set_option maxRecDepth 100000
namespace TW
open PySem L2 PyProof.Rows
end TW

set_option Elab.async false
set_option linter.all false
set_option maxRecDepth 100000
/-! EXTENSION 19: isinstance of own instances, a def of a class called by the class's name, one of several readings -/
namespace L2
open PySem PySem.Spec PyProof.Rows
end L2

set_option Elab.async false
set_option linter.all false
set_option maxRecDepth 100000
/-! letters -/
namespace TW
open PySem L2 PyProof.Rows
theorem iteFe {b : Bool} {A B : Prop} (e : b = false) (h : B) : if b = true then A else B := by subst e; exact iteF h
theorem iteTe {b : Bool} {A B : Prop} (e : b = true) (h : A) : if b = true then A else B := by subst e; exact iteT h
end TW

set_option Elab.async false
set_option linter.all false
set_option maxRecDepth 100000
/-! EXTENSION 20: what the sort of fewer than 64 items makes, by any order that is asked -/
namespace L2
open PySem PySem.W PyProof.Rows
section
variable {n : Nat} {r : Nat → Int} {cmp : Nat → Nat → (Bool → Shared → Prop) → Shared → Prop} {s : Shared}
variable (hc : ∀ i j C, i < n → j < n → C (decide (r i < r j)) s → cmp i j C s)
include hc
end
end L2

set_option Elab.async false
set_option linter.all false
set_option maxRecDepth 100000
/-! EXTENSION 21: sorted of a list of triples of ints -/
namespace L2
open PySem PySem.W PySem.Spec PyProof.Rows
end L2

set_option Elab.async false
set_option linter.all false
set_option maxRecDepth 100000
/-! EXTENSION 22: the items of a dict whose keys are tuples -/
namespace L2
open PySem PySem.W PySem.Spec PyProof.Rows
/-! ### the machine's own steps, for any dict -/
end L2

set_option Elab.async false
set_option linter.all false
set_option maxRecDepth 100000
/-! EXTENSION 23: for k, v in d.items() -/
namespace L2
open PySem PySem.W PySem.Spec PyProof.Rows
end L2

set_option Elab.async false
set_option linter.all false
set_option maxRecDepth 100000
namespace L2
end L2
/-! notes -/
namespace TW
open PySem L2 PyProof.Rows
def NoTup (u : HO) : Prop := ∀ xs, u ≠ .tup xs ∧ ∀ o, u ≠ .frz o (.tup xs)
theorem nt_lst {ys : List V} : NoTup (.lst ys) := fun xs => ⟨fun e => (by cases e), fun o e => (by cases e)⟩
theorem SqT.past {K : PySem.W.Frag} {H H' : Hp} {z a : Addr} {u : HO} {xs : List V} (hz : H z = some u) (nt : NoTup u) (keep : ∀ b v, H b = some v → b ≠ z → H' b = some v) (h : SqT K H a xs) : SqT K H' a xs := by
  rcases h with (h | ⟨o, h⟩) | h
  · exact .inl (.inl (keep _ _ h fun e => by subst e; rw [hz] at h; exact (nt xs).1 (Option.some.inj h)))
  · exact .inl (.inr ⟨o, keep _ _ h fun e => by subst e; rw [hz] at h; exact (nt xs).2 o (Option.some.inj h)⟩)
  · exact .inr h
theorem upd_keep {H : Hp} {z : Addr} {o : HO} : ∀ b v, H b = some v → b ≠ z → (upd H z o) b = some v := fun b v e nb => by rw [upd_ne nb]; exact e
/-! two books -/
theorem ne_obj {H : Hp} {a b : Addr} {u v : HO} (ha : H a = some u) (hb : H b = some v) (n : u ≠ v) : a ≠ b := fun e => by
  subst e
  rw [ha] at hb
  exact n (Option.some.inj hb)
end TW

set_option Elab.async false
set_option linter.all false
set_option maxRecDepth 100000
/-! EXTENSION 24: a walk over the keys of a dict whose keys are tuples -/
namespace L2
open PySem PySem.W PySem.Spec PyProof.Rows
end L2

set_option Elab.async false
set_option linter.all false
set_option maxRecDepth 100000
/-! comprehensions whose items are flat; what a house does with a letter -/
namespace TW
open PySem L2 PyProof.Rows
theorem comp_opt {J : It} {n : Nat} {cap : List (Option Nat)} {g : TG} {tc : TT} {te : TE} {σ : L2.St} {Qr : Hp → Prop} {H1 : Hp} {acc : Addr} (it : Nat → V) (f : Nat → Option V) (hacc : H1 acc = none)
    (go : ∀ i H, i < n → Same H1 H → J.go i H) (stop : ∀ H, Same H1 H → J.stop n H) (yld : ∀ i H x H', i < n → Same H1 H → J.yld i H x H' → H' = H ∧ x = it i) (hn : n ≤ 1000)
    (step : ∀ (i : Nat) (H : Hp) (R : V → Hp → Prop) (S : Hp → Prop), i < n → Same H1 H → (∀ y H', Same H H' → f i = some y → R y H') → (∀ H', Same H H' → f i = none → S H') →
      g (it i) (capSt cap σ) H fun σ2 H2 => tc σ2 H2 fun b H3 => if b = true then te σ2 H3 R else S H3)
    (fin : ∀ H, Same H1 H → H acc = some (.lst ((List.range n).filterMap f)) → Qr H) :
    ∃ W : Nat → Nat → Hp → Prop, (∃ m, W 0 m (upd H1 acc (.lst []))) ∧ ∀ i m H, W i m H →
      (J.stop i H ∧ Qr H) ∨ (J.go i H ∧ ∀ x H', J.yld i H x H' → g x (capSt cap σ) H' fun σ2 H2 => tc σ2 H2 fun b H3 => if b = true then te σ2 H3 fun y H4 => ∃ xs, H4 acc = some (.lst xs) ∧ xs.length < sizeLine ∧
        ∃ m', m' < m ∧ W (i + 1) m' (upd H4 acc (.lst (xs ++ [y]))) else ∃ m', m' < m ∧ W (i + 1) m' H3) := by
  have hlen : ∀ i, ((List.range i).filterMap f).length ≤ i := fun i => by
    have := List.length_filterMap_le f (List.range i)
    rwa [List.length_range] at this
  refine comp_by (n := n) (fun i ys _ => ys = (List.range i).filterMap f) hacc go stop rfl ?_ ?_
  · rintro i ys H hi s hy rfl x H' hx
    obtain ⟨rfl, rfl⟩ := yld i H x H' hi s hx
    have e : (List.range (i + 1)).filterMap f = (List.range i).filterMap f ++ (f i).toList := by
      rw [List.range_succ, List.filterMap_append]
      cases h : f i <;> simp [h]
    refine step i H' _ _ hi s (fun y H4 s4 hf => ?_) (fun H3 s3 hf => ?_)
    · refine comp_add hacc hi (s.trans s4) (s4 _ _ hy) (small1000 (Nat.le_trans (hlen i) (Nat.le_trans (Nat.le_of_lt hi) hn))) ?_
      show _ = (List.range (i + 1)).filterMap f
      rw [e, hf]
      rfl
    · refine comp_skip hi (s.trans s3) (s3 _ _ hy) ?_
      show _ = (List.range (i + 1)).filterMap f
      rw [e, hf]
      simp
  · rintro ys H s hy rfl
    exact fin H s hy
theorem range_filter {α β : Type} : ∀ (xs : List α) (F : α → Option β), (List.range xs.length).filterMap (fun i => xs[i]?.bind F) = xs.filterMap F
  | [], F => rfl
  | x :: xs, F => by
    have e : ((fun i : Nat => (x :: xs)[i]?.bind F) ∘ Nat.succ) = fun i => xs[i]?.bind F := funext fun i => by simp
    rw [List.length_cons, List.range_succ_eq_map, List.filterMap_cons, List.filterMap_map, e, range_filter xs F, List.filterMap_cons]
    rfl
/-! a rope or None -/
end TW

set_option Elab.async false
set_option linter.all false
set_option maxRecDepth 100000
/-! texts: joined and split -/
namespace TX
open PySem PySem.StrLaws PySem.Builtin PySem.Builtin.Str
abbrev cs (x : Str) : List Nat := x.cps.toList
theorem cs_inj {x y : Str} (h : cs x = cs y) : x = y := Str.ext' (Array.toList_inj.mp h)
theorem cs_app (a b : Str) : cs (a ++ b) = cs a ++ cs b := by
  show (Str.append a b).cps.toList = _
  simp [Str.append, cs]
theorem cs_len (x : Str) : (cs x).length = x.length := Array.length_toList
def inter (sep : List Nat) : List (List Nat) → List Nat
  | [] => []
  | [p] => p
  | p :: q :: r => p ++ (sep ++ inter sep (q :: r))
theorem cs_join (sep : Str) : ∀ l : List Str, cs (Str.join sep l) = inter (cs sep) (l.map cs)
  | [] => rfl
  | [x] => rfl
  | x :: y :: r => by
    show cs (x ++ sep ++ Str.join sep (y :: r)) = cs x ++ (cs sep ++ inter (cs sep) ((y :: r).map cs))
    rw [cs_app, cs_app, cs_join sep (y :: r), List.append_assoc]
theorem cut {c : Nat} : ∀ {p q X Y : List Nat}, c ∉ p → c ∉ q → p ++ c :: X = q ++ c :: Y → p = q ∧ X = Y
  | [], [], X, Y, _, _, h => ⟨rfl, (List.cons.inj h).2⟩
  | [], b :: q, X, Y, _, hq, h => absurd (List.cons.inj h).1 fun e => hq (e ▸ List.mem_cons_self ..)
  | a :: p, [], X, Y, hp, _, h => absurd (List.cons.inj h).1 fun e => hp (e ▸ List.mem_cons_self ..)
  | a :: p, b :: q, X, Y, hp, hq, h => by
    have h1 := List.cons.inj h
    obtain ⟨e1, e2⟩ := cut (fun z => hp (List.mem_cons_of_mem _ z)) (fun z => hq (List.mem_cons_of_mem _ z)) h1.2
    exact ⟨by rw [h1.1, e1], e2⟩
theorem inter_inj {c : Nat} {t : List Nat} : ∀ {l m : List (List Nat)}, l ≠ [] → m ≠ [] → (∀ p ∈ l, c ∉ p) → (∀ p ∈ m, c ∉ p) → inter (c :: t) l = inter (c :: t) m → l = m
  | [], _, h, _, _, _, _ => absurd rfl h
  | _ :: _, [], _, h, _, _, _ => absurd rfl h
  | [p], [q], _, _, _, _, h => by rw [show p = q from h]
  | [p], q :: q' :: r, _, _, hl, _, h => by
    have h : p = q ++ (c :: t ++ inter (c :: t) (q' :: r)) := h
    exact absurd (by rw [h]; simp) (hl p (List.mem_cons_self ..))
  | p :: p' :: r, [q], _, _, _, hm, h => by
    have h : p ++ (c :: t ++ inter (c :: t) (p' :: r)) = q := h
    exact absurd (by rw [← h]; simp) (hm q (List.mem_cons_self ..))
  | p :: p' :: r, q :: q' :: s, _, _, hl, hm, h => by
    have h : p ++ c :: (t ++ inter (c :: t) (p' :: r)) = q ++ c :: (t ++ inter (c :: t) (q' :: s)) := h
    obtain ⟨e1, e2⟩ := cut (hl p (List.mem_cons_self ..)) (hm q (List.mem_cons_self ..)) h
    have e3 := inter_inj (by simp) (by simp) (fun x hx => hl x (List.mem_cons_of_mem _ hx)) (fun x hx => hm x (List.mem_cons_of_mem _ hx)) (List.append_cancel_left e2)
    rw [e1, e3]
theorem inter_at {c : Nat} {t : List Nat} (ht : c ∉ t) : ∀ {l : List (List Nat)} {k : Nat}, (∀ p ∈ l, c ∉ p) → (inter (c :: t) l)[k]? = some c → ((inter (c :: t) l).drop k).take (t.length + 1) = c :: t
  | [], k, _, h => by simp [inter] at h
  | [p], k, hl, h => absurd (List.mem_of_getElem? h) (hl p (List.mem_cons_self ..))
  | p :: q :: r, k, hl, h => by
    have e : inter (c :: t) (p :: q :: r) = p ++ (c :: t ++ inter (c :: t) (q :: r)) := rfl
    rw [e] at h ⊢
    by_cases h1 : k < p.length
    · rw [List.getElem?_append_left h1] at h
      exact absurd (List.mem_of_getElem? h) (hl p (List.mem_cons_self ..))
    · rw [List.getElem?_append_right (by omega)] at h
      rw [List.drop_append, List.drop_eq_nil_of_le (by omega), List.nil_append]
      generalize k - p.length = j at h
      by_cases h2 : j < (c :: t).length
      · rw [List.getElem?_append_left h2] at h
        cases j with
        | zero => simp
        | succ j => exact absurd (List.mem_of_getElem? (by simpa using h)) ht
      · rw [List.getElem?_append_right (by omega)] at h
        have := inter_at ht (fun x hx => hl x (List.mem_cons_of_mem _ hx)) h
        rw [List.drop_append, List.drop_eq_nil_of_le (by omega), List.nil_append]
        exact this
theorem split_ne (x y : Str) : Txt.split x y ≠ [] := by
  unfold Txt.split
  split
  · simp
  · split
    · simp
    · rw [partsBetween_eq]
      obtain ⟨p, r, e⟩ := partsFrom_ne x y.length 0 (occurrences x y 0 x.length (x.length + 1))
      rw [e]
      simp
theorem map_cs_inj : ∀ {l m : List Str}, l.map cs = m.map cs → l = m
  | [], [], _ => rfl
  | [], _ :: _, h => by simp at h
  | _ :: _, [], h => by simp at h
  | x :: l, y :: m, h => by
    have h1 := List.cons.inj h
    rw [cs_inj h1.1, map_cs_inj h1.2]
theorem split_uniq {y : Str} {c : Nat} {t : List Nat} {ws : List Str} (hy : cs y = c :: t) (hw : ws ≠ []) (hf : ∀ w ∈ ws, c ∉ cs w) (hs : ∀ p ∈ Txt.split (Str.join y ws) y, c ∉ cs p) : Txt.split (Str.join y ws) y = ws := by
  have h := congrArg cs (join_split (Str.join y ws) y)
  rw [cs_join, cs_join, hy] at h
  refine map_cs_inj (inter_inj (c := c) (t := t) ?_ ?_ ?_ ?_ h)
  · intro e
    exact split_ne _ _ (List.map_eq_nil_iff.mp e)
  · intro e
    exact hw (List.map_eq_nil_iff.mp e)
  · intro p hp
    obtain ⟨q, hq, rfl⟩ := List.mem_map.mp hp
    exact hs q hq
  · intro p hp
    obtain ⟨q, hq, rfl⟩ := List.mem_map.mp hp
    exact hf q hq
theorem split_one {c : Nat} {ws : List Str} (hw : ws ≠ []) (hf : ∀ w ∈ ws, c ∉ cs w) : Txt.split (Str.join ⟨#[c]⟩ ws) ⟨#[c]⟩ = ws := split_uniq (t := []) rfl hw hf (split_free _ c)
theorem part_free2 {x y : Str} {c : Nat} (hx : ∀ k, (cs x)[k]? = some c → At x y x.length k) {a b : Nat} (hn : ∀ k, a ≤ k → k < b → ¬ At x y x.length k) : c ∉ cs (strSub x a b) := by
  intro hm
  have hm : c ∈ ((cs x).drop a).take (b - a) := by rw [← strSub_toList]; exact hm
  obtain ⟨j, hj⟩ := List.getElem?_of_mem hm
  have hlt : j < b - a := by
    have h1 := (List.getElem?_eq_some_iff.mp hj).1
    rw [List.length_take] at h1
    omega
  rw [List.getElem?_take_of_lt hlt, List.getElem?_drop] at hj
  exact hn (a + j) (by omega) (by omega) (hx _ hj)
theorem parts_free2 {x y : Str} {c : Nat} (hx : ∀ k, (cs x)[k]? = some c → At x y x.length k) : ∀ (cuts : List Nat) (a f : Nat), ChainG x y x.length a cuts f → (∀ k, f ≤ k → ¬ At x y x.length k) → ∀ p ∈ partsFrom x y.length a cuts, c ∉ cs p
  | [], a, f, h, hn, p, hp => by
    have e : f = a := h
    subst e
    rw [List.mem_singleton.mp hp]
    exact part_free2 hx fun k h1 _ => hn k h1
  | d :: r, a, f, h, hn, p, hp => by
    obtain ⟨h1, h2, h3, h4⟩ := h
    rcases List.mem_cons.mp hp with e | hp'
    · rw [e]
      exact part_free2 hx h3
    · exact parts_free2 hx r _ f h4 hn p hp'
theorem split_two {y : Str} {c : Nat} {t : List Nat} {ws : List Str} (hy : cs y = c :: t) (ht : c ∉ t) (hk : PySem.Builtin.Str.strKind y = 1) (hw : ws ≠ []) (hf : ∀ w ∈ ws, c ∉ cs w) : Txt.split (Str.join y ws) y = ws := by
  have hx : ∀ k, (cs (Str.join y ws))[k]? = some c → At (Str.join y ws) y (Str.join y ws).length k := fun k h => by
    have e := cs_join y ws
    rw [hy] at e
    have h2 := h
    rw [e] at h
    have h3 := inter_at ht (fun p hp => by
      obtain ⟨q, hq, rfl⟩ := List.mem_map.mp hp
      exact hf q hq) h
    rw [← e] at h3
    have hl : y.length = t.length + 1 := by rw [← cs_len, hy]; rfl
    refine ⟨?_, ?_⟩
    · have := congrArg List.length h3
      rw [List.length_take, List.length_drop, cs_len] at this
      simp only [List.length_cons] at this
      omega
    · rw [subAt_eq, hl]
      show (List.take (t.length + 1) (List.drop k (cs (Str.join y ws))) == cs y) = true
      rw [h3, hy]
      exact beq_self_eq_true _
  refine split_uniq hy hw hf fun p hp => ?_
  have hl1 : 1 ≤ y.length := by rw [← cs_len, hy]; simp
  have nk : ∀ x : Str, ¬ PySem.Builtin.Str.strKind x < PySem.Builtin.Str.strKind y := fun x => by
    rw [hk]
    unfold PySem.Builtin.Str.strKind
    split
    · omega
    · split <;> omega
  generalize Str.join y ws = x at hx hp
  have whole : (∀ k, ¬ At x y x.length k) → ∀ p ∈ [x], c ∉ cs p := fun h p hp => by
    rw [List.mem_singleton.mp hp]
    intro hm
    obtain ⟨k, hk⟩ := List.getElem?_of_mem hm
    exact h k (hx k hk)
  obtain ⟨f, hG, hn⟩ := occ_tight x y hl1
  unfold Txt.split at hp
  split at hp
  · rename_i hc
    rw [Bool.or_eq_true, decide_eq_true_eq, decide_eq_true_eq] at hc
    rcases hc with h | h
    · exact whole (fun k hA => by have := hA.1; omega) p hp
    · exact absurd h (nk x)
  · split at hp
    · rename_i he
      have e0 : occurrences x y 0 x.length (x.length + 1) = [] := by simpa using he
      rw [e0] at hG
      have ef : f = 0 := hG
      subst ef
      exact whole (fun k => hn k (Nat.zero_le _)) p hp
    · rw [partsBetween_eq] at hp
      exact parts_free2 hx _ _ f hG hn p hp
end TX

set_option Elab.async false
set_option linter.all false
set_option maxRecDepth 100000
/-! numbers as they are written -/
namespace TX
open PySem PySem.StrLaws PySem.Builtin PySem.Builtin.Str PySem.NumText
abbrev num (n : Int) : Str := Str.ofString (toString n)
theorem num_cs (m : Nat) : cs (num m) = (Nat.toDigits 10 m).map Char.toNat := PySem.W.KIN.signs_num m
theorem dig_step {m : Nat} (h : ¬ m < 10) : Nat.toDigits 10 m = Nat.toDigits 10 (m / 10) ++ [Nat.digitChar (m % 10)] := by
  have hm : m % 10 < 10 := Nat.mod_lt m (by decide)
  have t : Nat.toDigits 10 (m / 10) ++ Nat.toDigits 10 (m % 10) = Nat.toDigits 10 (10 * (m / 10) + m % 10) := Nat.toDigits_append_toDigits (by decide) (by omega) hm
  rw [Nat.div_add_mod, Nat.toDigits_of_lt_base hm] at t
  exact t.symm
theorem dig_len : ∀ (k m : Nat), 1 ≤ k → m < 10 ^ k → (Nat.toDigits 10 m).length ≤ k
  | 0, _, h, _ => absurd h (by decide)
  | k + 1, m, _, h => by
    by_cases h1 : m < 10
    · rw [Nat.toDigits_of_lt_base h1]
      show 1 ≤ k + 1
      omega
    · rw [dig_step h1, List.length_append]
      have h2 : m / 10 < 10 ^ k := by
        rw [Nat.pow_succ] at h
        exact Nat.div_lt_of_lt_mul (by omega)
      have hk : 1 ≤ k := by
        cases k with
        | zero => simp at h; omega
        | succ k => omega
      exact Nat.succ_le_succ (dig_len k _ hk h2)
theorem dig_pos (m : Nat) : Nat.toDigits 10 m ≠ [] := by
  by_cases h : m < 10
  · rw [Nat.toDigits_of_lt_base h]; simp
  · rw [dig_step h]; simp
theorem dig_zero : ∀ d : Nat, d < 10 → (Nat.digitChar d).toNat = 48 → d = 0 := by decide
theorem dig_head (m : Nat) : ((Nat.toDigits 10 m).map Char.toNat)[0]? = some 48 → m = 0 := by
  induction m using Nat.strongRecOn with
  | _ m ih =>
    intro h
    by_cases h1 : m < 10
    · rw [Nat.toDigits_of_lt_base h1] at h
      exact dig_zero m h1 (by simpa using h)
    · rw [dig_step h1, List.map_append] at h
      have hp : 0 < ((Nat.toDigits 10 (m / 10)).map Char.toNat).length := by
        rw [List.length_map]
        exact List.length_pos_iff.mpr (dig_pos _)
      rw [List.getElem?_append_left hp] at h
      have := ih (m / 10) (by omega) h
      omega
theorem dig_rng {c m : Nat} (h : c ∈ (Nat.toDigits 10 m).map Char.toNat) : 48 ≤ c ∧ c ≤ 57 := by
  obtain ⟨ch, hch, e⟩ := List.mem_map.mp h
  have r := PyProof.Rows.digit_range (Nat.isDigit_of_mem_toDigits (by decide) (by decide) hch)
  rw [← e]
  exact r
/-- a number that may be written -/
abbrev Wr (n : Int) : Prop := 0 ≤ n ∧ n < 10 ^ 60
theorem num_len {n : Int} (h : Wr n) : 1 ≤ (num n).length ∧ (num n).length ≤ 60 := by
  obtain ⟨m, rfl⟩ := Int.eq_ofNat_of_zero_le h.1
  have hm : m < 10 ^ 60 := by have := h.2; exact_mod_cast this
  rw [← cs_len, num_cs, List.length_map]
  exact ⟨List.length_pos_iff.mpr (dig_pos _), dig_len 60 m (by decide) hm⟩
theorem num_rng {n : Int} (h : 0 ≤ n) : ∀ c ∈ cs (num n), 48 ≤ c ∧ c ≤ 57 := fun c hc => by
  obtain ⟨m, rfl⟩ := Int.eq_ofNat_of_zero_le h
  rw [num_cs] at hc
  exact dig_rng hc
theorem num_head {n : Int} (h : 0 ≤ n) (e : (cs (num n))[0]? = some 48) : n = 0 := by
  obtain ⟨m, rfl⟩ := Int.eq_ofNat_of_zero_le h
  rw [num_cs] at e
  rw [dig_head m e]
  rfl
theorem num_reads {n : Int} (h : Wr n) : PySem.intText? (num n) = some n := by
  have hl := num_len h
  obtain ⟨m, rfl⟩ := Int.eq_ofNat_of_zero_le h.1
  have e := intText_digits (x := num m) (num_rng (by omega)) (by
    intro z
    have : (cs (num m)).length = 0 := by rw [show cs (num m) = [] from z]; rfl
    rw [cs_len] at this
    omega) (by omega)
  have e2 : digitsVal (num (m : Int)).cps.toList = m := by
    have := num_cs m
    rw [show (num (m : Int)).cps.toList = _ from this]
    exact PySem.W.KIN.val_back m
  rw [e2] at e
  exact e
theorem num_free {n : Int} (h : 0 ≤ n) {c : Nat} (hc : c < 48 ∨ 57 < c) : c ∉ cs (num n) := fun z => by
  have := num_rng h c z
  omega
theorem num_ascii {n : Int} (h : 0 ≤ n) : (num n).cps.all (· < 128) = true := by
  rw [← Array.all_toList, List.all_eq_true]
  intro c hc
  have := num_rng h c hc
  exact decide_eq_true (by omega)
end TX

set_option Elab.async false
set_option linter.all false
set_option maxRecDepth 100000
/-! a town's text -/
namespace TX
open PySem PySem.StrLaws PySem.Builtin PySem.Builtin.Str
abbrev sep1 : Str := " "
abbrev sep2 : Str := "; "
def wordsOf (w : Str) (ns : List Int) : List Str := w :: ns.map num
def partOf (w : Str) (ns : List Int) : Str := Txt.join sep1 (wordsOf w ns)
def partsOf (nm : List Int) (rs cl : List (List Int)) : List Str := partOf "names" nm :: (rs.map (partOf "rope") ++ cl.map (partOf "caller"))
def townText (nm : List Int) (rs cl : List (List Int)) : Str := Txt.join sep2 (partsOf nm rs cl)
theorem join_eq (s : Str) (l : List Str) : Txt.join s l = Str.join s l := glued_eq_join s l
theorem split_part {w : Str} {ns : List Int} (hw : 32 ∉ cs w) (hn : ∀ n ∈ ns, Wr n) : Txt.split (partOf w ns) sep1 = wordsOf w ns := by
  unfold partOf
  rw [join_eq]
  refine split_one (c := 32) (ws := wordsOf w ns) (by simp [wordsOf]) fun x hx => ?_
  rcases List.mem_cons.mp hx with rfl | h
  · exact hw
  · obtain ⟨n, hn', rfl⟩ := List.mem_map.mp h
    exact num_free (hn n hn').1 (.inl (by decide))
theorem inter_mem {sep : List Nat} {c : Nat} (hs : c ∉ sep) : ∀ {l : List (List Nat)}, (∀ p ∈ l, c ∉ p) → c ∉ inter sep l
  | [], _ => by simp [inter]
  | [p], h => h p (List.mem_cons_self ..)
  | p :: q :: r, h => by
    show c ∉ p ++ (sep ++ inter sep (q :: r))
    rw [List.mem_append, List.mem_append]
    rintro (z | z | z)
    · exact h p (List.mem_cons_self ..) z
    · exact hs z
    · exact inter_mem hs (fun x hx => h x (List.mem_cons_of_mem _ hx)) z
theorem part_free59 {w : Str} {ns : List Int} (hw : 59 ∉ cs w) (hn : ∀ n ∈ ns, Wr n) : 59 ∉ cs (partOf w ns) := by
  unfold partOf
  rw [join_eq, cs_join]
  refine inter_mem (by decide) fun p hp => ?_
  obtain ⟨x, hx, rfl⟩ := List.mem_map.mp hp
  rcases List.mem_cons.mp hx with rfl | h
  · exact hw
  · obtain ⟨n, hn', rfl⟩ := List.mem_map.mp h
    exact num_free (hn n hn').1 (.inr (by decide))
theorem split_town {nm : List Int} {rs cl : List (List Int)} (h1 : ∀ n ∈ nm, Wr n) (h2 : ∀ r ∈ rs, ∀ n ∈ r, Wr n) (h3 : ∀ r ∈ cl, ∀ n ∈ r, Wr n) : Txt.split (townText nm rs cl) sep2 = partsOf nm rs cl := by
  unfold townText
  rw [join_eq]
  refine split_two (c := 59) (t := [32]) (by decide +kernel) (by decide) (by decide +kernel) (by simp [partsOf]) fun p hp => ?_
  rcases List.mem_cons.mp hp with rfl | h
  · exact part_free59 (by decide +kernel) h1
  · rcases List.mem_append.mp h with h | h
    · obtain ⟨r, hr, rfl⟩ := List.mem_map.mp h
      exact part_free59 (by decide +kernel) (h2 r hr)
    · obtain ⟨r, hr, rfl⟩ := List.mem_map.mp h
      exact part_free59 (by decide +kernel) (h3 r hr)
theorem sum_le {B : Nat} : ∀ {l : List Nat}, (∀ x ∈ l, x ≤ B) → l.sum ≤ l.length * B
  | [], _ => by simp
  | x :: l, h => by
    have h1 := h x (List.mem_cons_self ..)
    have h2 := sum_le fun y hy => h y (List.mem_cons_of_mem _ hy)
    rw [List.sum_cons, List.length_cons, Nat.succ_mul]
    omega
theorem words_sum {w : Str} {ns : List Int} (hw : w.length ≤ 60) (hn : ∀ n ∈ ns, Wr n) : ((wordsOf w ns).map (·.length)).sum + (wordsOf w ns).length * sep1.length ≤ (ns.length + 1) * 61 := by
  have h := sum_le (B := 60) (l := (wordsOf w ns).map (·.length)) fun x hx => by
    obtain ⟨y, hy, rfl⟩ := List.mem_map.mp hx
    rcases List.mem_cons.mp hy with rfl | h
    · exact hw
    · obtain ⟨n, hn', rfl⟩ := List.mem_map.mp h
      exact (num_len (hn n hn')).2
  have hl : (wordsOf w ns).length = ns.length + 1 := by simp [wordsOf]
  have h1 : sep1.length = 1 := by decide +kernel
  rw [List.length_map, hl] at h
  rw [hl, h1]
  omega
theorem part_len {w : Str} {ns : List Int} (hw : w.length ≤ 60) (hn : ∀ n ∈ ns, Wr n) : (partOf w ns).length ≤ (ns.length + 1) * 61 := by
  unfold partOf
  rw [join_eq]
  exact Nat.le_trans (join_length_le _ _) (words_sum hw hn)
theorem parts_sum {nm : List Int} {rs cl : List (List Int)} (h1 : ∀ n ∈ nm, Wr n) (h2 : ∀ r ∈ rs, ∀ n ∈ r, Wr n) (h3 : ∀ r ∈ cl, ∀ n ∈ r, Wr n) (l1 : nm.length ≤ 12) (l2 : ∀ r ∈ rs, r.length ≤ 12) (l3 : ∀ r ∈ cl, r.length ≤ 12) (m2 : rs.length ≤ 30) (m3 : cl.length ≤ 30) :
    ((partsOf nm rs cl).map (·.length)).sum + (partsOf nm rs cl).length * sep2.length ≤ 100000 := by
  have key : ∀ {w : Str} {ns : List Int}, w.length ≤ 60 → (∀ n ∈ ns, Wr n) → ns.length ≤ 12 → (partOf w ns).length ≤ 800 := fun {w ns} hw hn hl => by
    have := part_len hw hn
    have : (ns.length + 1) * 61 ≤ 13 * 61 := Nat.mul_le_mul_right _ (by omega)
    omega
  have h := sum_le (B := 800) (l := (partsOf nm rs cl).map (·.length)) fun x hx => by
    obtain ⟨y, hy, rfl⟩ := List.mem_map.mp hx
    rcases List.mem_cons.mp hy with rfl | h
    · exact key (by decide +kernel) h1 l1
    · rcases List.mem_append.mp h with h | h
      · obtain ⟨r, hr, rfl⟩ := List.mem_map.mp h
        exact key (by decide +kernel) (h2 r hr) (l2 r hr)
      · obtain ⟨r, hr, rfl⟩ := List.mem_map.mp h
        exact key (by decide +kernel) (h3 r hr) (l3 r hr)
  have hl : (partsOf nm rs cl).length ≤ 61 := by
    simp only [partsOf, List.length_cons, List.length_append, List.length_map]
    omega
  have hs : sep2.length = 2 := by decide +kernel
  rw [List.length_map] at h
  have : (partsOf nm rs cl).length * 800 ≤ 61 * 800 := Nat.mul_le_mul_right _ hl
  rw [hs]
  omega
def wssOf (nm : List Int) (rs cl : List (List Int)) : List (List Str) := wordsOf "names" nm :: (rs.map (wordsOf "rope") ++ cl.map (wordsOf "caller"))
theorem split_parts {nm : List Int} {rs cl : List (List Int)} (h1 : ∀ n ∈ nm, Wr n) (h2 : ∀ r ∈ rs, ∀ n ∈ r, Wr n) (h3 : ∀ r ∈ cl, ∀ n ∈ r, Wr n) : (partsOf nm rs cl).map (fun p => Txt.split p sep1) = wssOf nm rs cl := by
  unfold partsOf wssOf
  rw [List.map_cons, List.map_append, List.map_map, List.map_map, split_part (by decide +kernel) h1]
  congr 1
  congr 1
  · exact List.map_congr_left fun r hr => split_part (by decide +kernel) (h2 r hr)
  · exact List.map_congr_left fun r hr => split_part (by decide +kernel) (h3 r hr)
theorem wss_rope {nm : List Int} {rs cl : List (List Int)} {i : Nat} (h : i < rs.length) : (wssOf nm rs cl)[i + 1]? = some (wordsOf "rope" rs[i]) := by
  unfold wssOf
  rw [List.getElem?_cons_succ, List.getElem?_append_left (by rw [List.length_map]; exact h), List.getElem?_map, List.getElem?_eq_getElem h]
  rfl
theorem wss_call {nm : List Int} {rs cl : List (List Int)} {j : Nat} (h : j < cl.length) : (wssOf nm rs cl)[rs.length + j + 1]? = some (wordsOf "caller" cl[j]) := by
  unfold wssOf
  rw [List.getElem?_cons_succ, List.getElem?_append_right (by rw [List.length_map]; omega), List.length_map, show rs.length + j - rs.length = j by omega, List.getElem?_map, List.getElem?_eq_getElem h]
  rfl
theorem wss_len (nm : List Int) (rs cl : List (List Int)) : (wssOf nm rs cl).length = 1 + rs.length + cl.length := by
  simp [wssOf]
  omega
end TX

set_option Elab.async false
set_option linter.all false
set_option maxRecDepth 100000
/-! EXTENSION 25: texts: split, join, int of a text, a walk over a text's signs -/
namespace L2
open PySem PySem.W PySem.Spec PyProof.Rows
section
variable {X : Cx}
theorem vals_strs : ∀ (ys : List Str) (t : Nat), Vals (ys.map V.str) (strsFrom t ys)
  | [], _ => .nil
  | y :: ys, t => .cons ⟨t, rfl⟩ (vals_strs ys (t + 1))
theorem strs_vals : ∀ {ys : List Str} {us : List Value}, Vals (ys.map V.str) us → StrsAre us ys
  | [], _, h => by
    have := h.zero
    subst this
    exact .nil
  | y :: ys, us, h => by
    cases h with
    | cons r t =>
      obtain ⟨k, rfl⟩ := r
      exact .cons y k (strs_vals t)
theorem split_len (x y : Str) : (Txt.split x y).length ≤ x.length + 2 := by
  unfold Txt.split
  split
  · show 1 ≤ _; omega
  · split
    · show 1 ≤ _; omega
    · rw [StrLaws.partsBetween_eq]
      have h := StrLaws.occ_length_le x y 0 x.length (x.length + 1)
      generalize Builtin.Str.occurrences x y 0 x.length (x.length + 1) = cuts at h
      have e : ∀ (cuts : List Nat) (a : Nat), (StrLaws.partsFrom x y.length a cuts).length = cuts.length + 1 := fun cuts => by
        induction cuts with
        | nil => intro a; rfl
        | cons c cs ih => intro a; show _ + 1 = _; rw [ih]; rfl
      rw [e]
      omega
def rSplit : V → List V → Hp → VK → Prop := fun x vs H Q => ∃ z y, x = .str z ∧ vs = [.str y] ∧ (y.length == 0) = false ∧ z.length ≤ 100000 ∧ ∀ l, H l = none → Q (.ref l) (upd H l (.lst ((Txt.split z y).map V.str)))
theorem mt_split : MtR X "str.split" rSplit := by
  intro pins s σ H x vs v us Q I rx rv h
  obtain ⟨z, y, rfl, rfl, hy, hz, q⟩ := h
  obtain ⟨t, rfl⟩ := rx
  obtain ⟨u, rfl, ru⟩ := rv.one
  obtain ⟨t2, rfl⟩ := ru
  have hs : sizeLine = 16777216 := by decide
  have hlen := split_len z y
  have fin : ∀ (its : List Value) (k : Nat), Vals ((Txt.split z y).map V.str) its → EP X pins σ Q (.ref s.heap.objs.size) { s with heap := s.heap.push { cls := .type "list", data := .seq its.toArray }, toks := k } := fun its k r =>
    ⟨.ref s.heap.objs.size, _, I.laid (t' := k) (fun b o e => Heap.get?_push_of_some _ e) (Nat.le_refl _) (show ObjOk X.prog X.w _ _ _ (.lst ((Txt.split z y).map V.str)) from ⟨by rw [List.length_map]; omega, its, 0, r, Heap.get?_push_size _ rfl⟩), rfl, q _ (I.hok.fresh (Nat.le_refl _))⟩
  cases h1 : (decide (z.length < y.length) || decide (Builtin.Str.strKind z < Builtin.Str.strKind y))
  · cases hf : (Builtin.Str.occurrences z y 0 z.length (z.length + 1)).isEmpty
    · have e : Txt.split z y = Builtin.Str.partsBetween z (Builtin.Str.occurrences z y 0 z.length (z.length + 1)) y.length := (if_neg (ne_true_of_eq_false h1)).trans (if_neg (ne_true_of_eq_false hf))
      refine call_meets F.slot_str_split (typeIs_str _ _ _) F.entry_str_split (F.args_str_split_2 _ _) (meets_str_split_sep z y t t2 h1 hy hf (by omega) (by rw [← e]; omega)) ?_
      exact fin _ _ (by rw [← e]; exact vals_strs _ _)
    · have e : Txt.split z y = [z] := (if_neg (ne_true_of_eq_false h1)).trans (if_pos hf)
      refine call_meets F.slot_str_split (typeIs_str _ _ _) F.entry_str_split (F.args_str_split_2 _ _) (meets_str_split_not_found z y t t2 h1 hy hf) ?_
      exact fin [Value.str z t] s.toks (by rw [e]; exact .cons ⟨t, rfl⟩ .nil)
  · have e : Txt.split z y = [z] := if_pos h1
    refine call_meets F.slot_str_split (typeIs_str _ _ _) F.entry_str_split (F.args_str_split_2 _ _) (meets_str_split_cannot_occur z y t t2 h1) ?_
    exact fin [Value.str z t] s.toks (by rw [e]; exact .cons ⟨t, rfl⟩ .nil)
def rJoin (K : PySem.W.Frag) : V → List V → Hp → VK → Prop := fun x vs H Q => ∃ z l ys, x = .str z ∧ vs = [.ref l] ∧ SqL K H l (ys.map V.str) ∧ (ys.map (·.length)).sum + ys.length * z.length ≤ 16777216 ∧ Q (.str (Txt.join z ys)) H
theorem mt_join : MtR X "str.join" (rJoin X.K) := by
  intro pins s σ H x vs v us Q I rx rv h
  obtain ⟨z, l, ys, rfl, rfl, hq, hs, q⟩ := h
  obtain ⟨t, rfl⟩ := rx
  obtain ⟨u, rfl, ru⟩ := rv.one
  cases ru
  obtain ⟨its, r, pl, hz⟩ := I.list hq
  exact join_list pl.isList (strs_vals r) hs fun t' k => ⟨.str _, H, I.tok k, ⟨t', rfl⟩, q⟩
theorem call_intS : CallR X (.type "int") (fun xs H Q => ∃ z n, xs = [.str z] ∧ PySem.intText? z = some n ∧ z.length ≤ 640 ∧ Q (.int n) H) := by
  intro pins s σ H xs us Q I r h
  obtain ⟨z, n, rfl, hn, hl, q⟩ := h
  obtain ⟨u, rfl, rx⟩ := vals1 r
  obtain ⟨t, rfl⟩ := rx
  exact KIN.call_text hn hl ⟨.int n, H, I.tok _, ⟨_, rfl⟩, q⟩
/-! signs -/
def Its (x : Str) : It := ⟨fun i _ => i < x.cps.size, fun i H v H' => H' = H ∧ ∃ c, x.cps[i]? = some c ∧ v = .str ⟨#[c]⟩, fun i _ => x.cps.size ≤ i⟩
theorem turn_str {P : Program} {w : World} {K : PySem.W.Frag} {tg : Expr} (it : Addr) (x : Str) (t : Tok) : Turn P w K tg (Its x) [it] it (fun i h => h.IsStrIter it "str_ascii_iterator" x t i) where
  mem := by simp
  obj := fun i h st b hb => by
    have e : b = it := by simpa using hb
    subst e
    obtain ⟨o, e, c, d⟩ := st
    exact ⟨o, e, fun v z => by rw [d] at z; cases z⟩
  keep := fun i h h' st k => by
    obtain ⟨o, e, c, d⟩ := st
    exact ⟨o, k it (by simp) _ e, c, d⟩
  item := by
    intro X hP hw hK hc i pins s σ H E I hf st hg
    subst hP hw hK
    have hg : i < x.cps.size := hg
    obtain ⟨f0, f1, f2, f3, f4, f5⟩ := hf it (by simp)
    refine wpAny_pyNext_ascii_item st (c := x.cps[i]) (by simp [hg]) fun h' st' sb => ?_
    have I1 : Inv X pins σ H { s with heap := h', toks := s.toks + 1 } := I.turned (t' := s.toks + 1) (fun b o hb e => (sb.2 b hb).trans e) f0 f1 f3 f4 f5
    obtain ⟨o, e, c, d⟩ := id st'
    exact ⟨_, rfl, go_of (s := { s with heap := h', toks := s.toks + 1 }) e c d (by decide) ⟨.str ⟨#[x.cps[i]]⟩, H, I1, ⟨_, rfl⟩, ⟨rfl, x.cps[i], by simp [hg], rfl⟩, st', fun b hb => (hf b hb).1⟩⟩
  done := by
    intro X hP hw hK hc i pins s σ H E I hf st hg
    subst hP hw hK
    have hg : x.cps.size ≤ i := hg
    obtain ⟨f0, f1, f2, f3, f4, f5⟩ := hf it (by simp)
    exact wpAny_pyNext_ascii_end (I.ok.hd hc) st (Array.getElem?_eq_none hg) fun h' eb => ⟨rfl, I.turned (t' := s.toks) (fun b o hb e => eb b o hb e) f0 f1 f3 f4 f5⟩
  self := fun _ _ _ _ _ st h => wpAny_pyIter_striter_ascii st h
def iStr (ts : TE) : TI := fun σ H R => ts σ H fun v H1 => ∃ x : Str, v = .str x ∧ x.cps.all (· < 128) = true ∧ R (Its x) H1
theorem pi_str {l tg : Expr} {ts : TE} (hl : PE X l ts) : PI X tg l (iStr ts) := by
  intro pins s σ H R I h
  refine thn (hl pins s σ H _ I h) fun v s1 ⟨y, H1, I1, r1, x, e, ha, q⟩ => ?_
  subst e
  obtain ⟨t, rfl⟩ := r1
  refine wpAny_pyIter_ascii ha ?_
  refine ⟨s1.heap.objs.size, [s1.heap.objs.size], _, _, H1, rfl, I1.kept (t' := s1.toks) fun b o e => Heap.get?_push_of_some _ e, turn_str _ x t, ⟨_, Heap.get?_push_size _ rfl, rfl, rfl⟩, fun b hb => ?_, q⟩
  have e : b = s1.heap.objs.size := by simpa using hb
  subst e
  exact I1.fpOk (Nat.le_refl _) (I1.hok.fresh (Nat.le_refl _))
theorem its_go {x : Str} {H1 : Hp} : ∀ i H, i < x.cps.size → Same H1 H → (Its x).go i H := fun i H hi s => hi
theorem its_stop {x : Str} {H1 : Hp} : ∀ H, Same H1 H → (Its x).stop x.cps.size H := fun H s => Nat.le_refl _
theorem pe_bmK (K : PySem.W.Frag) (hK : X.K = K) {o e : Expr} {es : List Expr} {to : TE} {t : TA} {name : Str} {apos cpos : Pos} {T id : String} {r : V → List V → Hp → VK → Prop} (pa : PlainAttrs T) (slot : Slot T name id) (hty : typeOf (.builtin id) = pure (.type "method_descriptor")) (hm : MtR X id r) (ho : PE X o to) (ha : PA X (e :: es) t)
    (hbase : attributeBase o name X.env (eval o X.env) = eval o X.env := by rfl)
    (hfew : ((backTo cpos (starEach (e :: es) X.env)).all (fun x => !x.1) && (backToKw cpos (keywordEach [] X.env)).all (fun x => x.1.isSome) && decide ((e :: es).length + ([] : List Keyword).length + (if ([] : List Keyword).isEmpty then 0 else 1) < 30)) = true := by rfl)
    (hline : (apos.endLine == cpos.line) = true := by rfl) (hs : starEach (e :: es) X.env = (false, eval e X.env) :: starEach es X.env := by rfl) (hplain : (backTo cpos (starEach es X.env)).any (·.1) = false := by rfl) :
    PE X (.Call (.Attribute o name apos) (e :: es) [] cpos) (tBM K T r to t) := by
  subst hK
  exact pe_bm pa slot hty hm ho ha hbase hfew hline hs hplain
def iAlt (a b : TI) : TI := fun σ H R => a σ H R ∨ b σ H R
theorem pi_alt {l tg : Expr} {a b : TI} (h1 : PI X tg l a) (h2 : PI X tg l b) : PI X tg l (iAlt a b) := fun pins s σ H R I h => h.elim (h1 pins s σ H R I) (h2 pins s σ H R I)
end
end L2

set_option Elab.async false
set_option linter.all false
set_option maxRecDepth 100000
/-! EXTENSION 27: zip of two tuples -/
namespace L2
open PySem PySem.W PySem.Spec PyProof.Rows
section
variable {prog : Program} {w : World} {A : Around} {E : Value → Shared → Prop} {s : Shared}
theorem nextOf_tup {it a : Addr} {i : Nat} {its : Array Value} {v : Value} {Q : Value → Shared → Prop} (st : s.heap.IsTupleIter it a i) (ht : s.heap.IsTuple a its) (hv : its[i]? = some v)
    (k : ∀ h', h'.IsTupleIter it a (i + 1) → Heap.SameBut it s.heap h' → Q v { s with heap := h' }) : wpAny (model prog w) A (Builtin.SmallTypes.nextOf (.ref it)) Q E s := by
  obtain ⟨ob, g1, g2, g3⟩ := id st
  obtain ⟨ot, t1, _, nt, t2⟩ := ht
  have ty := st.typeIs
  have nn : ¬ (Value.ref a == Value.none) = true := Bool.false_ne_true
  unfold Builtin.SmallTypes.nextOf
  refine wpAny_bind (wpAny_callSpecial?_slot (name := Str.ofString "__next__") ty F.slot_tuple_iterator_next (wpAny_call_entry F.slot_tuple_iterator_next ty F.entry_tuple_iterator_next ?_ (F.args_tuple_iterator_next_1 _)))
  show wpAny (model prog w) A.in1 (field (.ref it) 0 >>= _) _ _ s
  refine wpAny_bind (wpAny_field g1 g3 (x := .ref a) rfl ?_)
  show wpAny (model prog w) A.in1 (if (Value.ref a == Value.none) = true then _ else _) _ _ s
  rw [if_neg nn]
  refine wpAny_bind (wpAny_field g1 g3 (x := .int i 0) rfl (wpAny_bind (wpAny_seqItems t1 t2 ?_)))
  simp only [Int.toNat_natCast, hv]
  refine wpAny_bind (wpAny_setField g1 g3 (by simp) (wpAny_pure ⟨v, rfl, wpAny_pure (k _ ?_ (Heap.SameBut.update ..))⟩))
  refine ⟨_, Heap.get?_update_self _ g1 (Obj.isFreed_of_fields (Obj.data_mapFields g3 _)), (Obj.cls_mapFields ..).trans g2, ?_⟩
  rw [Obj.data_mapFields g3]
  simp [rawInt]
theorem nextOf_tup_end {it a : Addr} {i : Nat} {its : Array Value} {Q : Value → Shared → Prop} (hh : A.handled = none) (st : s.heap.IsTupleIter it a i) (ht : s.heap.IsTuple a its) (hv : its[i]? = none)
    (k : ∀ h' e, Heap.ExtBut it s.heap h' → (∃ o, h'.get? e = some o ∧ o.cls = .type "StopIteration") → E (.ref e) { s with heap := h' }) : wpAny (model prog w) A (Builtin.SmallTypes.nextOf (.ref it)) Q E s := by
  obtain ⟨ob, g1, g2, g3⟩ := id st
  obtain ⟨ot, t1, _, nt, t2⟩ := ht
  have ty := st.typeIs
  have nn : ¬ (Value.ref a == Value.none) = true := Bool.false_ne_true
  unfold Builtin.SmallTypes.nextOf
  refine wpAny_bind (wpAny_callSpecial?_slot (name := Str.ofString "__next__") ty F.slot_tuple_iterator_next (wpAny_call_entry F.slot_tuple_iterator_next ty F.entry_tuple_iterator_next ?_ (F.args_tuple_iterator_next_1 _)))
  show wpAny (model prog w) A.in1 (field (.ref it) 0 >>= _) _ _ s
  refine wpAny_bind (wpAny_field g1 g3 (x := .ref a) rfl ?_)
  show wpAny (model prog w) A.in1 (if (Value.ref a == Value.none) = true then _ else _) _ _ s
  rw [if_neg nn]
  refine wpAny_bind (wpAny_field g1 g3 (x := .int i 0) rfl (wpAny_bind (wpAny_seqItems t1 t2 ?_)))
  simp only [Int.toNat_natCast, hv]
  refine wpAny_bind (wpAny_rule (wpAny_bind (wpAny_setField g1 g3 (by simp) ?_)))
  show wpAny (model prog w) A.in1 (newExc (.type "StopIteration") [] >>= _) _ _ _
  unfold newExc newTuple raiseNew
  refine wpAny_bind (wpAny_bind (wpAny_newObj_type (wpAny_bind (m := firstArgMember _ _) (wpAny_of_eq (a := Value.none) rfl (wpAny_newObj_type (wpAny_bind (wpAny_handled ?_)) (by size_fits)))) (by size_fits)))
  rw [show A.in1.handled = none from hh]
  refine wpAny_bind (wpAny_pure (wpAny_throw ?_))
  have up := (Heap.SameBut.update s.heap it (Obj.mapFields fun x => x.setIfInBounds 0 Value.none)).extBut
  exact k _ _ ((up.push _).push _) ⟨_, Heap.get?_push_size _ rfl, rfl⟩
/-- both iterators give an item -/
theorem zipT_item {z ti to j1 j2 a b : Addr} {m1 m2 : Nat} {xs ys : Array Value} {x y u0 v0 : Value} {Q : Value → Shared → Prop} (D : ZipApart z ti to j1 j2 a b) (g0 : IsZip s.heap z ti to .none) (g1 : IsPair s.heap ti (.ref j1) (.ref j2))
    (g2 : IsPair s.heap to u0 v0) (w1 : s.heap.IsTupleIter j1 a m1) (w2 : s.heap.IsTupleIter j2 b m2) (ha : s.heap.IsTuple a xs) (hb : s.heap.IsTuple b ys) (hx : xs[m1]? = some x) (hy : ys[m2]? = some y)
    (k : ∀ h', IsZip h' z ti to (rawInt s.heap.objs.size) → IsPair h' to x y → h'.IsTupleIter j1 a (m1 + 1) → h'.IsTupleIter j2 b (m2 + 1) → IsPair h' s.heap.objs.size x y → h'.objs.size = s.heap.objs.size + 1 →
      (∀ c o, c ≠ z → c ≠ to → c ≠ j1 → c ≠ j2 → s.heap.get? c = some o → h'.get? c = some o) → Q (.ref s.heap.objs.size) { s with heap := h' }) :
    wpAny (model prog w) A (Builtin.«zip.__next__» ⟨[.ref z], []⟩) (fun r s' => ∃ v, r = .done (.ret v) ∧ Q v s') E s := by
  show wpAny (model prog w) A (field (.ref z) 2 >>= _) _ _ s
  refine wpAny_bind (wpAny_field g0 rfl (x := .bool false) rfl ?_)
  show wpAny (model prog w) A (field (.ref z) 3 >>= _) _ _ s
  refine wpAny_bind (wpAny_field g0 rfl (x := .ref ti) rfl (wpAny_bind (wpAny_seqItems g1 rfl ?_)))
  show wpAny (model prog w) A (Builtin.SmallTypes.ownedTupleIsFree (.ref z) >>= _) _ _ s
  unfold Builtin.SmallTypes.ownedTupleIsFree
  refine wpAny_bind (wpAny_bind (wpAny_field g0 rfl (x := .none) rfl (wpAny_pure ?_)))
  simp only [if_true]
  refine wpAny_bind (wpAny_rule (wpAny_bind (wpAny_field g0 rfl (x := .ref to) rfl ?_)))
  refine wpAny_bind (wpAny_setField_rec g0 (by simp) fun p1 e1 b1 => ?_)
  have e1 : IsZip p1 z ti to .ellipsis := e1
  refine wpAny_bind ?_
  simp only [List.zipIdx_cons, List.zipIdx_nil, List.forIn_cons, List.forIn_nil]
  refine wpAny_bind (wpAny_bind (wpAny_onRaise ?_))
  show wpAny (model prog w) _ (Builtin.SmallTypes.nextOf (.ref j1) >>= _) _ _ _
  refine wpAny_bind (nextOf_tup (w1.extBut b1.extBut D.i1z) (ha.extBut b1.extBut D.l1z) hx fun p2 c2 b2 => wpAny_pure ?_)
  have d2 : IsPair p2 to u0 v0 := b2.extBut _ _ D.TOi1 (b1.extBut _ _ D.TOz g2)
  refine wpAny_bind (wpAny_seqItems d2 rfl (wpAny_bind (wpAny_updateSeq_pair d2 fun p3 d3 b3 => ?_)))
  have d3 : IsPair p3 to x v0 := d3
  refine wpAny_bind (wpAny_letGo (wpAny_pure ?_))
  refine wpAny_bind (wpAny_bind (wpAny_onRaise ?_))
  show wpAny (model prog w) _ (Builtin.SmallTypes.nextOf (.ref j2) >>= _) _ _ _
  refine wpAny_bind (nextOf_tup (((w2.extBut b1.extBut D.i2z).extBut b2.extBut D.i12.symm).extBut b3.extBut D.TOi2.symm) (((hb.extBut b1.extBut D.l2z).extBut b2.extBut D.l2i1).extBut b3.extBut D.l2TO) hy fun p4 c4 b4 => wpAny_pure ?_)
  have d4 : IsPair p4 to x v0 := b4.extBut _ _ D.TOi2 d3
  refine wpAny_bind (wpAny_seqItems d4 rfl (wpAny_bind (wpAny_updateSeq_pair d4 fun p5 d5 b5 => ?_)))
  have d5 : IsPair p5 to x y := d5
  refine wpAny_bind (wpAny_letGo (wpAny_pure (wpAny_pure ?_)))
  refine wpAny_bind (wpAny_seqItems d5 rfl (wpAny_bind (wpAny_newTuple ?_)))
  have sz : p5.objs.size = s.heap.objs.size := by rw [b5.1, b4.1, b3.1, b2.1, b1.1]
  have e5 : IsZip p5 z ti to .ellipsis := b5.extBut _ _ D.TOz.symm (b4.extBut _ _ D.i2z.symm (b3.extBut _ _ D.TOz.symm (b2.extBut _ _ D.i1z.symm e1)))
  have kp : ∀ c o, c ≠ z → c ≠ to → c ≠ j1 → c ≠ j2 → s.heap.get? c = some o → p5.get? c = some o := fun c o n1 n2 n3 n4 q => b5.extBut _ _ n2 (b4.extBut _ _ n4 (b3.extBut _ _ n2 (b2.extBut _ _ n3 (b1.extBut _ _ n1 q))))
  have c25 : p5.IsTupleIter j1 a (m1 + 1) := ((c2.extBut b3.extBut D.TOi1.symm).extBut b4.extBut D.i12).extBut b5.extBut D.TOi1.symm
  have c45 : p5.IsTupleIter j2 b (m2 + 1) := c4.extBut b5.extBut D.TOi2.symm
  have lz : z < p5.objs.size := Heap.lt_size e5
  show wpAny (model prog w) _ (Builtin.SmallTypes.ownedTupleHandOut (.ref z) (.ref p5.objs.size) >>= _) _ _ _
  refine wpAny_bind ?_
  unfold Builtin.SmallTypes.ownedTupleHandOut
  have e6 : IsZip (p5.push { cls := .type "tuple", data := .seq #[x, y] }) z ti to .ellipsis := Heap.get?_push_of_some _ e5
  refine wpAny_bind (wpAny_setField_rec e6 (by simp) fun p7 e7 b7 => ?_)
  have e7 : IsZip p7 z ti to (rawInt p5.objs.size) := e7
  refine wpAny_setField_rec e7 (by simp) fun p8 e8 b8 => ?_
  have e8 : IsZip p8 z ti to (rawInt p5.objs.size) := e8
  have up : ∀ c o, c ≠ z → p5.get? c = some o → p8.get? c = some o := fun c o n1 q => b8.extBut _ _ n1 (b7.extBut _ _ n1 (Heap.get?_push_of_some _ q))
  have t8 : IsPair p8 p5.objs.size x y := b8.extBut _ _ (Nat.ne_of_gt lz) (b7.extBut _ _ (Nat.ne_of_gt lz) (Heap.get?_push_size _ rfl))
  have s8 : p8.objs.size = p5.objs.size + 1 := by rw [b8.1, b7.1, Heap.size_push]
  rw [sz] at e8 t8 s8
  refine wpAny_pure ⟨_, rfl, ?_⟩
  show Q (.ref p5.objs.size) _
  rw [sz]
  refine k p8 e8 (up _ _ D.TOz d5) ?_ ?_ t8 s8 fun c o n1 n2 n3 n4 q => up c o n1 (kp c o n1 n2 n3 n4 q)
  · obtain ⟨o, q, r⟩ := c25
    exact ⟨o, up _ o D.i1z q, r⟩
  · obtain ⟨o, q, r⟩ := c45
    exact ⟨o, up _ o D.i2z q, r⟩
/-- they are both through -/
theorem zipT_stop {z ti to j1 j2 a b : Addr} {m1 m2 : Nat} {xs ys : Array Value} {u0 v0 : Value} {Q : PySem.Fin → Shared → Prop} (hh : A.handled = none) (D : ZipApart z ti to j1 j2 a b) (g0 : IsZip s.heap z ti to .none) (g1 : IsPair s.heap ti (.ref j1) (.ref j2))
    (w1 : s.heap.IsTupleIter j1 a m1) (ha : s.heap.IsTuple a xs) (hx : xs[m1]? = none)
    (k : ∀ h' e, (∀ c o, c ≠ z → c ≠ j1 → s.heap.get? c = some o → h'.get? c = some o) → (∃ o, h'.get? e = some o ∧ o.cls = .type "StopIteration") → E (.ref e) { s with heap := h' }) :
    wpAny (model prog w) A (Builtin.«zip.__next__» ⟨[.ref z], []⟩) Q E s := by
  show wpAny (model prog w) A (field (.ref z) 2 >>= _) _ _ s
  refine wpAny_bind (wpAny_field g0 rfl (x := .bool false) rfl ?_)
  show wpAny (model prog w) A (field (.ref z) 3 >>= _) _ _ s
  refine wpAny_bind (wpAny_field g0 rfl (x := .ref ti) rfl (wpAny_bind (wpAny_seqItems g1 rfl ?_)))
  show wpAny (model prog w) A (Builtin.SmallTypes.ownedTupleIsFree (.ref z) >>= _) _ _ s
  unfold Builtin.SmallTypes.ownedTupleIsFree
  refine wpAny_bind (wpAny_bind (wpAny_field g0 rfl (x := .none) rfl (wpAny_pure ?_)))
  simp only [if_true]
  refine wpAny_bind (wpAny_rule (wpAny_bind (wpAny_field g0 rfl (x := .ref to) rfl ?_)))
  refine wpAny_bind (wpAny_setField_rec g0 (by simp) fun p1 e1 b1 => ?_)
  have e1 : IsZip p1 z ti to .ellipsis := e1
  refine wpAny_bind ?_
  simp only [List.zipIdx_cons, List.zipIdx_nil, List.forIn_cons, List.forIn_nil]
  refine wpAny_bind (wpAny_bind (wpAny_onRaise ?_))
  show wpAny (model prog w) _ (Builtin.SmallTypes.nextOf (.ref j1) >>= _) _ _ _
  refine wpAny_bind (nextOf_tup_end hh (w1.extBut b1.extBut D.i1z) (ha.extBut b1.extBut D.l1z) hx fun p2 e b2 he => ?_)
  obtain ⟨oe, q1, q2⟩ := he
  have e2 : IsZip p2 z ti to .ellipsis := b2 _ _ D.i1z.symm e1
  have ne : e ≠ z := fun q => by subst q; rw [e2] at q1; cases q1; simp at q2
  exact wpAny_setField_rec e2 (by simp) fun p3 _ b3 => k p3 e (fun c o n1 n3 q => b3.extBut _ _ n1 (b2 _ _ n3 (b1.extBut _ _ n1 q))) ⟨oe, b3.extBut _ _ ne q1, q2⟩
theorem next_zipT {z ti to j1 j2 a b : Addr} {m1 m2 : Nat} {xs ys : Array Value} {x y u0 v0 : Value} {Q : Option Value → Shared → Prop} (D : ZipApart z ti to j1 j2 a b) (g0 : IsZip s.heap z ti to .none) (g1 : IsPair s.heap ti (.ref j1) (.ref j2))
    (g2 : IsPair s.heap to u0 v0) (w1 : s.heap.IsTupleIter j1 a m1) (w2 : s.heap.IsTupleIter j2 b m2) (ha : s.heap.IsTuple a xs) (hb : s.heap.IsTuple b ys) (hx : xs[m1]? = some x) (hy : ys[m2]? = some y)
    (k : ∀ h', IsZip h' z ti to (rawInt s.heap.objs.size) → IsPair h' to x y → h'.IsTupleIter j1 a (m1 + 1) → h'.IsTupleIter j2 b (m2 + 1) → IsPair h' s.heap.objs.size x y → h'.objs.size = s.heap.objs.size + 1 →
      (∀ c o, c ≠ z → c ≠ to → c ≠ j1 → c ≠ j2 → s.heap.get? c = some o → h'.get? c = some o) → Q (some (.ref s.heap.objs.size)) { s with heap := h' }) : wpAny (model prog w) A (pyNext (.ref z)) Q E s := by
  have ty : s.TypeIs (.ref z) "zip" := ⟨_, g0, rfl⟩
  unfold pyNext
  exact wpAny_bind (wpAny_attempt (wpAny_callSpecial?_slot (name := Str.ofString "__next__") ty F.slot_zip_next (wpAny_call_entry F.slot_zip_next ty F.entry_zip_next (zipT_item D g0 g1 g2 w1 w2 ha hb hx hy fun h' q1 q2 q3 q4 q5 q6 q7 => wpAny_pure (k h' q1 q2 q3 q4 q5 q6 q7)) (F.args_zip_next_1 _))))
theorem stop_zipT {z ti to j1 j2 a b : Addr} {m1 m2 : Nat} {xs : Array Value} {Q : Option Value → Shared → Prop} (hh : A.handled = none) (D : ZipApart z ti to j1 j2 a b) (g0 : IsZip s.heap z ti to .none) (g1 : IsPair s.heap ti (.ref j1) (.ref j2))
    (w1 : s.heap.IsTupleIter j1 a m1) (ha : s.heap.IsTuple a xs) (hx : xs[m1]? = none) (k : ∀ h', (∀ c o, c ≠ z → c ≠ j1 → s.heap.get? c = some o → h'.get? c = some o) → Q none { s with heap := h' }) : wpAny (model prog w) A (pyNext (.ref z)) Q E s := by
  have ty : s.TypeIs (.ref z) "zip" := ⟨_, g0, rfl⟩
  unfold pyNext
  refine wpAny_bind (wpAny_attempt (wpAny_callSpecial?_slot (name := Str.ofString "__next__") ty F.slot_zip_next (wpAny_call_entry F.slot_zip_next ty F.entry_zip_next (zipT_stop (ys := #[]) (u0 := .none) (v0 := .none) (m2 := 0) hh D g0 g1 w1 ha hx fun h' e kp he => ?_) (F.args_zip_next_1 _))))
  obtain ⟨o, q1, q2⟩ := he
  exact wpAny_bind (wpAny_isInstance (T := "StopIteration") (b := true) ⟨o, q1, q2⟩ isSubtype_stop (wpAny_pure (k _ kp)))
end
/-- a pair of the items of two tuples, a new tuple at each turn -/
def ItzT (K : PySem.W.Frag) (a b : Addr) : It :=
  ⟨fun i H => ∃ xs ys x y, SqT K H a xs ∧ SqT K H b ys ∧ xs[i]? = some x ∧ ys[i]? = some y,
   fun i H v H' => ∃ p x y, H p = none ∧ v = .ref p ∧ H' = upd H p (.tup [x, y]) ∧ (∀ xs, SqT K H a xs → xs[i]? = some x) ∧ ∀ ys, SqT K H b ys → ys[i]? = some y,
   fun i H => ∃ xs, SqT K H a xs ∧ xs.length ≤ i⟩
section
variable {X : Cx}
theorem isTup_of {h : Heap} {a : Addr} {its : Array Value} (t : IsTup h a its) : h.IsTuple a its := by
  obtain ⟨o, e, c, n, d⟩ := t
  exact ⟨o, e, c, n, d⟩
theorem turn_zipT {P : Program} {w : World} {K : PySem.W.Frag} {elts : List Expr} {x1} {pos : Pos} (a b z TI TO i1 i2 : Addr) (D : ZipApart z TI TO i1 i2 a b) :
    Turn P w K (.Tuple elts x1 pos) (ItzT K a b) [z, TI, TO, i1, i2] z (fun i h => IsZip h z TI TO .none ∧ IsPair h TI (.ref i1) (.ref i2) ∧ (∃ u v, IsPair h TO u v) ∧ h.IsTupleIter i1 a i ∧ h.IsTupleIter i2 b i) where
  mem := by simp
  obj := fun i h ⟨h1, h2, ⟨u, v, h3⟩, h4, h5⟩ c hc => by
    simp only [List.mem_cons, List.not_mem_nil, or_false] at hc
    rcases hc with rfl | rfl | rfl | rfl | rfl
    · exact ⟨_, h1, fun v q => by
        have q' : Data.fields _ = Data.cell v := q
        cases q'⟩
    · exact ⟨_, h2, fun v q => by
        have q' : Data.seq _ _ = Data.cell v := q
        cases q'⟩
    · exact ⟨_, h3, fun v q => by
        have q' : Data.seq _ _ = Data.cell v := q
        cases q'⟩
    · obtain ⟨o, e, c, d⟩ := h4
      exact ⟨o, e, fun v q => by rw [d] at q; cases q⟩
    · obtain ⟨o, e, c, d⟩ := h5
      exact ⟨o, e, fun v q => by rw [d] at q; cases q⟩
  keep := fun i h h' ⟨h1, h2, ⟨u, v, h3⟩, ⟨o4, e4, r4⟩, ⟨o5, e5, r5⟩⟩ k => ⟨k z (by simp) _ h1, k TI (by simp) _ h2, ⟨u, v, k TO (by simp) _ h3⟩, ⟨o4, k i1 (by simp) o4 e4, r4⟩, ⟨o5, k i2 (by simp) o5 e5, r5⟩⟩
  item := by
    intro X hP hw hK hc i pins s σ H E I hf ⟨h1, h2, ⟨u0, v0, h3⟩, h4, h5⟩ hg
    subst hP hw hK
    obtain ⟨xs, ys, x, y, hqa, hqb, hx, hy⟩ := hg
    obtain ⟨its, rv, p1, _⟩ := I.tuple hqa
    obtain ⟨itt, rw', p2, _⟩ := I.tuple hqb
    obtain ⟨u, hu, ru⟩ := rv.get hx
    obtain ⟨v, hv, rv'⟩ := rw'.get hy
    refine next_zipT D h1 h2 h3 h4 h5 (isTup_of p1) (isTup_of p2) (x := u) (y := v) (by simpa using hu) (by simpa using hv) fun h' eo to' li1 li2 tu sz kp => ?_
    refine ⟨_, rfl, wpAny_letOwnedTupleGo_zip eo fun hh e2 sb2 => ?_⟩
    have hfr : H s.heap.objs.size = none := I.hok.fresh (Nat.le_refl _)
    have old : ∀ c ∈ [z, TI, TO, i1, i2], c < s.heap.objs.size := fun c hc => by
      simp only [List.mem_cons, List.not_mem_nil, or_false] at hc
      rcases hc with rfl | rfl | rfl | rfl | rfl
      · exact Heap.lt_size h1
      · exact Heap.lt_size h2
      · exact Heap.lt_size h3
      · obtain ⟨o, e, _⟩ := h4; exact Heap.lt_size e
      · obtain ⟨o, e, _⟩ := h5; exact Heap.lt_size e
    have nH : ∀ c ∈ [z, TI, TO, i1, i2], ∀ b o, H b = some o → b ≠ c := fun c hc b o q e => by rw [e, (hf c hc).1] at q; cases q
    have kp2 : ∀ b o, b ∉ [z, TO, i1, i2] → s.heap.get? b = some o → hh.get? b = some o := fun b o hb q => by
      simp only [List.mem_cons, List.not_mem_nil, or_false, not_or] at hb
      exact (sb2.2 b hb.1).trans (kp b o hb.1 hb.2.1 hb.2.2.1 hb.2.2.2 q)
    have sub : ∀ c ∈ [z, TO, i1, i2], c ∈ [z, TI, TO, i1, i2] := fun c hc => by
      simp only [List.mem_cons, List.not_mem_nil, or_false] at hc ⊢
      rcases hc with q | q | q | q <;> simp [q]
    have kH : ∀ b o u, H b = some o → s.heap.get? b = some u → hh.get? b = some u := fun b o u q r => kp2 b u (fun m => nH b (sub b m) b o q rfl) r
    have tu2 : hh.get? s.heap.objs.size = some { cls := .type "tuple", data := .seq #[u, v] } := (sb2.2 _ (Nat.ne_of_gt (Heap.lt_size h1))).trans tu
    have fre : ∀ c ∈ [z, TI, TO, i1, i2], upd H s.heap.objs.size (.tup [x, y]) c = none := fun c hc => by
      rw [upd_ne (Nat.ne_of_lt (old c hc))]
      exact (hf c hc).1
    have I1 : Inv X pins σ (upd H s.heap.objs.size (.tup [x, y])) { s with heap := hh, toks := s.toks } := by
      refine I.step (g' := s.gens) (d' := s.drawn) (ch := [z, TO, i1, i2]) (fun b hb => ?_) (fun b o _ _ hc q _ => kp2 b o hc q) (fun b o _ _ hc q _ => ⟨o.slots, kp2 b o hc q⟩)
        (fun b o _ q n => by rw [upd_ne (Nat.ne_of_lt (Heap.lt_size q))]; exact n) (fun b o hc q => ⟨o, kp2 b o hc q⟩) (fun b xs q => by rw [upd_ne (ne_of_none q hfr)]; exact q) (fun b o u q => by rw [upd_ne (ne_of_none q hfr)]; exact q)
        (fun b ps q => ⟨#[], by rw [upd_ne (ne_of_none q hfr), q]; simp⟩) (fun m hm => ?_) (fun b o q => ?_) I.bare
      · obtain ⟨_, f1, _, f3, f4, f5⟩ := hf b (sub b hb)
        exact ⟨f3, f1, f4, f5⟩
      · obtain ⟨o, es, ep, ho, r⟩ := hm
        refine ⟨o, es, ep, kp2 _ o (fun q => ?_) ho, r⟩
        exact (hf _ (sub _ q)).2.1 rfl
      · by_cases hb : b = s.heap.objs.size
        · subst hb
          rw [upd_same] at q
          cases q
          exact ⟨by show 2 ≤ sizeLine; decide, [u, v], .cons ru (.cons rv' .nil), ⟨_, tu2, rfl, _, rfl⟩⟩
        · rw [upd_ne hb] at q
          refine (I.hok b o q).stay (fun c u' hc r => ?_) (fun c r => by rw [upd_ne (ne_of_none r hfr)]; exact r) fun c xs r => by rw [upd_ne (ne_of_none r hfr)]; exact r
          rcases hc with e | e
          · rw [e] at r ⊢; exact kH b o u' q r
          · exact kH c _ u' e r
    refine ⟨.ref s.heap.objs.size, _, I1, rfl, ⟨_, x, y, hfr, rfl, rfl, fun zs q => by rw [I.tuple_inj q hqa]; exact hx, fun zs q => by rw [I.tuple_inj q hqb]; exact hy⟩, ⟨e2, ?_, ⟨u, v, ?_⟩, ?_, ?_⟩, fre⟩
    · exact kp2 TI _ (by
        simp only [List.mem_cons, List.not_mem_nil, or_false, not_or]
        exact ⟨D.TIz, D.TITO, D.TIi1, D.TIi2⟩) h2
    · exact (sb2.2 TO D.TOz).trans to'
    · obtain ⟨o, q, r⟩ := li1
      exact ⟨o, (sb2.2 i1 D.i1z).trans q, r⟩
    · obtain ⟨o, q, r⟩ := li2
      exact ⟨o, (sb2.2 i2 D.i2z).trans q, r⟩
  done := by
    intro X hP hw hK hc i pins s σ H E I hf ⟨h1, h2, ⟨u0, v0, h3⟩, h4, h5⟩ hg
    subst hP hw hK
    obtain ⟨xs, hqa, hx⟩ := hg
    obtain ⟨its, rv, p1, _⟩ := I.tuple hqa
    have l1 := rv.length
    refine stop_zipT (m2 := 0) (I.ok.hd hc) D h1 h2 h4 (isTup_of p1) (by rw [List.getElem?_toArray, List.getElem?_eq_none (by omega)]) fun h' kp => ⟨rfl, ?_⟩
    have sub : ∀ c ∈ [z, i1], c ∈ [z, TI, TO, i1, i2] := fun c hc => by
      simp only [List.mem_cons, List.not_mem_nil, or_false] at hc ⊢
      rcases hc with q | q <;> simp [q]
    have kp2 : ∀ b o, b ∉ [z, i1] → s.heap.get? b = some o → h'.get? b = some o := fun b o hb q => by
      simp only [List.mem_cons, List.not_mem_nil, or_false, not_or] at hb
      exact kp b o hb.1 hb.2 q
    have kH : ∀ b o u, H b = some o → s.heap.get? b = some u → h'.get? b = some u := fun b o u q r => kp2 b u (fun m => by rw [(hf b (sub b m)).1] at q; cases q) r
    refine I.step (t' := s.toks) (g' := s.gens) (d' := s.drawn) (ch := [z, i1]) (fun b hb => ?_) (fun b o _ _ hc q _ => kp2 b o hc q) (fun b o _ _ hc q _ => ⟨o.slots, kp2 b o hc q⟩)
      (fun b o _ q n => n) (fun b o hc q => ⟨o, kp2 b o hc q⟩) (fun b xs q => q) (fun b o u q => q) (fun b ps q => ⟨#[], by rw [q]; simp⟩) (fun m hm => ?_) (fun b o q => ?_) I.bare
    · obtain ⟨_, f1, _, f3, f4, f5⟩ := hf b (sub b hb)
      exact ⟨f3, f1, f4, f5⟩
    · obtain ⟨o, es, ep, ho, r⟩ := hm
      refine ⟨o, es, ep, kp2 _ o (fun q => ?_) ho, r⟩
      exact (hf _ (sub _ q)).2.1 rfl
    · refine (I.hok b o q).stay (fun c u' hc r => ?_) (fun c r => r) fun c xs r => r
      rcases hc with e | e
      · rw [e] at r ⊢; exact kH b o u' q r
      · exact kH c _ u' e r
  self := fun _ _ _ _ _ ⟨h1, _⟩ h => wpAny_pyIter_zip h1 h
abbrev itO (a : Addr) : Obj := { cls := .type "tuple_iterator", data := .fields #[.ref a, .int 0 0] }
abbrev zT2 (h : Heap) (a b : Addr) : Heap := (h.push (itO a)).push (itO b)
abbrev zT3 (h : Heap) (a b : Addr) : Heap := (zT2 h a b).push { cls := .type "tuple", data := .seq #[.ref h.objs.size, .ref (h.push (itO a)).objs.size] }
abbrev zT4 (h : Heap) (a b : Addr) : Heap := (zT3 h a b).push { cls := .type "tuple", data := .seq #[.none, .none] }
abbrev zT5 (h : Heap) (a b : Addr) : Heap := (zT4 h a b).push { cls := .type "zip", data := .fields #[.none, .bool false, .bool false, .ref (zT2 h a b).objs.size, .ref (zT3 h a b).objs.size] }
theorem meets_zipT (a b : Addr) (xs ys : Array Value) :
    Meets (Builtin.«zip.__new__» ⟨[.type "zip", .ref a, .ref b], []⟩) (fun _ R s => s.heap.IsTuple a xs ∧ s.heap.IsTuple b ys ∧ R (.ok (.ret (.ref (zT4 s.heap a b).objs.size))) { s with heap := zT5 s.heap a b }) :=
  .of_wp fun prog w A R s h => by
    obtain ⟨hp, g, d, tk, os⟩ := s
    obtain ⟨ha, hb, h⟩ := h
    have hsub := sub_zip
    have hA1 : Heap.IsTuple (Shared.heap ⟨hp, g, d, tk, os⟩) a xs := ha
    have hB1 : Heap.IsTuple (Shared.heap ⟨hp.push (itO a), g, d, tk, os⟩) b ys := Heap.IsTuple.push hb _
    wp_walk using wpAny_pyIter_tuple hA1, wpAny_pyIter_tuple hB1
    exact ⟨_, rfl, h⟩
theorem call_zipT {prog : Program} {w : World} {A : Around} {E : Value → Shared → Prop} {s : Shared} {a b : Addr} {xs ys : Array Value} {Q : Value → Shared → Prop} (ha : s.heap.IsTuple a xs) (hb : s.heap.IsTuple b ys)
    (k : ∀ h', IsZip h' (s.heap.objs.size + 4) (s.heap.objs.size + 2) (s.heap.objs.size + 3) .none → IsPair h' (s.heap.objs.size + 2) (.ref s.heap.objs.size) (.ref (s.heap.objs.size + 1)) → IsPair h' (s.heap.objs.size + 3) .none .none →
      h'.IsTupleIter s.heap.objs.size a 0 → h'.IsTupleIter (s.heap.objs.size + 1) b 0 → (∀ c o, s.heap.get? c = some o → h'.get? c = some o) → Q (.ref (s.heap.objs.size + 4)) { s with heap := h' }) :
    wpAny (model prog w) A (call (.type "zip") [.ref a, .ref b]) Q E s := by
  refine callType_new F.called_zip (by decide) (F.typeCall_zip_2 _ _) (F.newCall_zip_2 _ _) (fun obj => F.args_object_init_3 obj _ _) F.entry_zip_new (meets_zipT a b xs ys) ⟨ha, hb, ?_⟩
  have n1 : (s.heap.push (itO a)).objs.size = s.heap.objs.size + 1 := Heap.size_push ..
  have n2 : (zT2 s.heap a b).objs.size = s.heap.objs.size + 2 := by rw [Heap.size_push, n1]
  have n3 : (zT3 s.heap a b).objs.size = s.heap.objs.size + 3 := by rw [Heap.size_push, n2]
  have n4 : (zT4 s.heap a b).objs.size = s.heap.objs.size + 4 := by rw [Heap.size_push, n3]
  have up2 : ∀ c o, (zT2 s.heap a b).get? c = some o → (zT5 s.heap a b).get? c = some o := fun c o q => Heap.get?_push_of_some _ (Heap.get?_push_of_some _ (Heap.get?_push_of_some _ q))
  have q5 : (zT5 s.heap a b).get? (zT4 s.heap a b).objs.size = some _ := Heap.get?_push_size _ rfl
  have q4 : (zT5 s.heap a b).get? (zT3 s.heap a b).objs.size = some _ := Heap.get?_push_of_some _ (Heap.get?_push_size _ rfl)
  have q3 : (zT5 s.heap a b).get? (zT2 s.heap a b).objs.size = some _ := Heap.get?_push_of_some _ (Heap.get?_push_of_some _ (Heap.get?_push_size _ rfl))
  have q2 : (zT5 s.heap a b).get? (s.heap.push (itO a)).objs.size = some _ := up2 _ _ (Heap.get?_push_size _ rfl)
  have q1 : (zT5 s.heap a b).get? s.heap.objs.size = some _ := up2 _ _ (Heap.get?_push_of_some _ (Heap.get?_push_size _ rfl))
  rw [n2, n3, n4] at q5
  rw [n1, n2] at q3
  rw [n3] at q4
  rw [n1] at q2
  show _ ∧ _
  rw [n4]
  exact ⟨⟨_, q5, rfl⟩, k _ q5 q3 q4 ⟨_, q1, rfl, rfl⟩ ⟨_, q2, rfl, rfl⟩ fun c o q => up2 _ _ (Heap.get?_push_of_some _ (Heap.get?_push_of_some _ q))⟩
def iZipT (K : PySem.W.Frag) (ta : TA) : TI := fun σ H R => ta σ H fun vs H1 => ∃ a b xs ys, vs = [.ref a, .ref b] ∧ SqT K H1 a xs ∧ SqT K H1 b ys ∧ R (ItzT K a b) H1
theorem pi_zipT {l m : Expr} {ta : TA} {p pos : Pos} {elts : List Expr} {x1} {tpos : Pos} (hg : Gl X "zip") (hm : X.mg "zip" = none) (ha : PA X [l, m] ta) (hs : starEach [l, m] X.env = (false, eval l X.env) :: starEach [m] X.env := by rfl) (hpl : (backTo pos (starEach [m] X.env)).any (·.1) = false := by rfl) :
    PI X (.Tuple elts x1 tpos) (.Call (.Name "zip" p) [l, m] [] pos) (iZipT X.K ta) := by
  intro pins s σ H R I h
  refine Call_ (ld_blt I hg hm boot_zip (PyProof.Rows.callWith_type1 (thn (ha pos pins s σ H _ I h) fun us s1 ⟨vs, H1, I1, r1, q1⟩ => ?_) hs hpl))
  obtain ⟨a, b, xs, ys, e, hqa, hqb, q⟩ := q1
  subst e
  obtain ⟨u, w', rfl, ru, rw'⟩ := Vals.two r1
  cases ru
  cases rw'
  obtain ⟨its, rv, pl, hz⟩ := I1.tuple hqa
  obtain ⟨its2, rv2, pl2, hz2⟩ := I1.tuple hqb
  have la : a < s1.heap.objs.size := by obtain ⟨_, e, _⟩ := pl; exact Heap.lt_size e
  have lb : b < s1.heap.objs.size := by obtain ⟨_, e, _⟩ := pl2; exact Heap.lt_size e
  refine call_zipT (isTup_of pl) (isTup_of pl2) fun h' z1 z2 z3 z4 z5 kp => wpAny_pyIter_zip z1 ?_
  have I2 : Inv X pins σ H1 { s1 with heap := h', toks := s1.toks } := I1.kept kp
  have fr : ∀ c, s1.heap.objs.size ≤ c → FpOk X pins H1 c := fun c hc => I1.fpOk hc (I1.hok.fresh hc)
  refine ⟨s1.heap.objs.size + 4, [s1.heap.objs.size + 4, s1.heap.objs.size + 2, s1.heap.objs.size + 3, s1.heap.objs.size, s1.heap.objs.size + 1], _, _, H1, rfl, I2, turn_zipT a b _ _ _ _ _ (zipApart_new la lb), ⟨z1, z2, ⟨_, _, z3⟩, z4, z5⟩, fun c hc => fr c ?_, q⟩
  simp only [List.mem_cons, List.not_mem_nil, or_false] at hc
  rcases hc with rfl | rfl | rfl | rfl | rfl <;> omega
end
theorem for_zipT {K : PySem.W.Frag} {a b : Addr} {xs ys : List V} {n : Nat} {g : TG} {tb : TS} {D : Ends} {σ : St} {H : Hp} (Pv : Nat → St → Hp → Prop) (la : xs.length = n) (lb : ys.length = n) (h0 : Pv 0 σ H) (hl : ∀ i σ H, i ≤ n → Pv i σ H → SqT K H a xs ∧ SqT K H b ys)
    (hs : ∀ i x y σ H p, i < n → xs[i]? = some x → ys[i]? = some y → Pv i σ H → H p = none → g (.ref p) σ (upd H p (.tup [x, y])) fun σ2 H2 => tb { D with nx := Pv (i + 1), ct := Pv (i + 1), bk := D.nx } σ2 H2) (hd : ∀ σ H, Pv n σ H → D.nx σ H) :
    ∃ W : Nat → Nat → St → Hp → Prop, (∃ m, W 0 m σ H) ∧ ∀ i m σ H, W i m σ H →
      ((ItzT K a b).stop i H ∧ D.nx σ H) ∨ ((ItzT K a b).go i H ∧ ∃ N : St → Hp → Prop, (∀ σ' H', N σ' H' → ∃ m', m' < m ∧ W (i + 1) m' σ' H') ∧ ∀ x H', (ItzT K a b).yld i H x H' → g x σ H' fun σ2 H2 => tb { D with nx := N, ct := N, bk := D.nx } σ2 H2) := by
  refine ⟨fun i m σ H => m = n - i ∧ i ≤ n ∧ Pv i σ H, ⟨n, by simp, Nat.zero_le _, h0⟩, ?_⟩
  rintro i m σ H ⟨rfl, hi, p⟩
  obtain ⟨q1, q2⟩ := hl i σ H hi p
  by_cases hlt : i < n
  · refine .inr ⟨⟨xs, ys, xs[i]'(by omega), ys[i]'(by omega), q1, q2, List.getElem?_eq_getElem _, List.getElem?_eq_getElem _⟩, Pv (i + 1), fun σ' H' p' => ⟨n - (i + 1), by omega, rfl, hlt, p'⟩, fun x H' y => ?_⟩
    obtain ⟨c, x1, y1, hc, rfl, rfl, hx, hy⟩ := y
    exact hs i x1 y1 σ H c hlt (hx xs q1) (hy ys q2) p hc
  · have e : i = n := by omega
    subst e
    exact .inl ⟨⟨xs, q1, by omega⟩, hd σ H p⟩
end L2

set_option Elab.async false
set_option linter.all false
set_option maxRecDepth 100000
/-! EXTENSION 26: xs[::-1] -/
namespace L2
open PySem PySem.W PySem.Spec PyProof.Rows
theorem fm_congr {α β : Type} {f g : α → Option β} : ∀ {l : List α}, (∀ x ∈ l, f x = g x) → l.filterMap f = l.filterMap g
  | [], _ => rfl
  | x :: l, h => by
    rw [List.filterMap_cons, List.filterMap_cons, h x (List.mem_cons_self ..), fm_congr fun y hy => h y (List.mem_cons_of_mem _ hy)]
end L2

set_option Elab.async false
set_option linter.all false
set_option maxRecDepth 100000
/-! lists of texts, lists of tuples of numbers -/
namespace TW
open PySem L2 PyProof.Rows
abbrev strsV (ws : List Str) : List V := ws.map V.str
/-- over any list, item by item -/
theorem comp_at {K : PySem.W.Frag} {l acc : Addr} {xs : List V} {cap : List (Option Nat)} {g : TG} {tc : TT} {te : TE} {σ : L2.St} {Qr : Hp → Prop} {H1 : Hp} (f : Nat → Option V) (hacc : H1 acc = none) (hl : SqL K H1 l xs) (hn : xs.length ≤ 1000)
    (step : ∀ (i : Nat) (x : V) (H : Hp) (R : V → Hp → Prop) (S : Hp → Prop), xs[i]? = some x → Same H1 H → (∀ y H', Same H H' → f i = some y → R y H') → (∀ H', Same H H' → f i = none → S H') →
      g x (capSt cap σ) H fun σ2 H2 => tc σ2 H2 fun b H3 => if b = true then te σ2 H3 R else S H3)
    (fin : ∀ H, Same H1 H → H acc = some (.lst ((List.range xs.length).filterMap f)) → Qr H) :
    ∃ W : Nat → Nat → Hp → Prop, (∃ m, W 0 m (upd H1 acc (.lst []))) ∧ ∀ i m H, W i m H →
      ((Itl K l).stop i H ∧ Qr H) ∨ ((Itl K l).go i H ∧ ∀ x H', (Itl K l).yld i H x H' → g x (capSt cap σ) H' fun σ2 H2 => tc σ2 H2 fun b H3 => if b = true then te σ2 H3 fun y H4 => ∃ xs, H4 acc = some (.lst xs) ∧ xs.length < sizeLine ∧
        ∃ m', m' < m ∧ W (i + 1) m' (upd H4 acc (.lst (xs ++ [y]))) else ∃ m', m' < m ∧ W (i + 1) m' H3) := by
  refine comp_opt (n := xs.length) (fun i => xs.getD i .non) f hacc (itl_go hl) (itl_stop hl) (fun i H x H' hi s hx => ?_) hn (fun i H R S hi s h1 h2 => ?_) fin
  · obtain ⟨rfl, hx⟩ := hx
    have hx := hx _ (s.seq hl)
    exact ⟨rfl, by rw [List.getD_eq_getElem?_getD, hx]; rfl⟩
  · have e : xs.getD i .non = xs[i] := by rw [List.getD_eq_getElem?_getD, List.getElem?_eq_getElem hi]; rfl
    rw [e]
    exact step i _ H R S (List.getElem?_eq_getElem hi) s h1 h2
theorem range_maps {α β : Type} (xs : List α) (h : α → β) : (List.range xs.length).filterMap (fun i => xs[i]?.map h) = xs.map h := by
  have e : ∀ l : List α, l.filterMap (fun x => some (h x)) = l.map h := fun l => by
    induction l with
    | nil => rfl
    | cons a l ih => rw [List.filterMap_cons, ih]; rfl
  rw [← e, ← range_filter xs (fun x => some (h x))]
  refine fm_congr fun i _ => ?_
  cases xs[i]? <;> rfl
structure TupsAt (K : PySem.W.Frag) (H : Hp) (qs : List Addr) (xss : List (List Int)) : Prop where
  len : qs.length = xss.length
  at' : ∀ (i : Nat) q xs, qs[i]? = some q → xss[i]? = some xs → SqT K H q (xs.map V.int)
theorem TupsAt.mono {K : PySem.W.Frag} {H H' : Hp} {qs : List Addr} {xss : List (List Int)} (s : Same H H') (h : TupsAt K H qs xss) : TupsAt K H' qs xss := ⟨h.len, fun i q xs a b => s.seqT (h.at' i q xs a b)⟩
theorem TupsAt.past {K : PySem.W.Frag} {H H' : Hp} {z : Addr} {u : HO} {qs : List Addr} {xss : List (List Int)} (hz : H z = some u) (nt : NoTup u) (kp : ∀ b v, H b = some v → b ≠ z → H' b = some v) (h : TupsAt K H qs xss) : TupsAt K H' qs xss :=
  ⟨h.len, fun i q xs a b => SqT.past hz nt kp (h.at' i q xs a b)⟩
theorem TupsAt.nil {K : PySem.W.Frag} {H : Hp} : TupsAt K H [] [] := ⟨rfl, fun i q xs h => by cases h⟩
theorem TupsAt.snoc {K : PySem.W.Frag} {H : Hp} {qs : List Addr} {xss : List (List Int)} {q : Addr} {xs : List Int} (h : TupsAt K H qs xss) (hq : SqT K H q (xs.map V.int)) : TupsAt K H (qs ++ [q]) (xss ++ [xs]) := by
  refine ⟨by rw [List.length_append, List.length_append, h.len]; rfl, fun i a u ha hu => ?_⟩
  by_cases z : i < qs.length
  · rw [List.getElem?_append_left z] at ha
    rw [List.getElem?_append_left (h.len ▸ z)] at hu
    exact h.at' i a u ha hu
  · have e : i = qs.length := by
      have := (List.getElem?_eq_some_iff.mp ha).1
      rw [List.length_append] at this
      have : i < qs.length + 1 := this
      omega
    subst e
    rw [List.getElem?_concat_length] at ha
    rw [h.len, List.getElem?_concat_length] at hu
    cases ha
    cases hu
    exact hq
theorem TupsAt.get {K : PySem.W.Frag} {H : Hp} {qs : List Addr} {xss : List (List Int)} {j : Nat} {y : V} (h : TupsAt K H qs xss) (hy : (qs.map V.ref)[j]? = some y) : ∃ q u, y = .ref q ∧ qs[j]? = some q ∧ xss[j]? = some u ∧ SqT K H q (u.map V.int) := by
  rw [List.getElem?_map] at hy
  cases hq : qs[j]? with
  | none => rw [hq] at hy; cases hy
  | some q =>
    rw [hq] at hy
    cases hy
    have hj := (List.getElem?_eq_some_iff.mp hq).1
    rw [h.len] at hj
    exact ⟨q, xss[j], rfl, rfl, List.getElem?_eq_getElem hj, h.at' j q _ hq (List.getElem?_eq_getElem hj)⟩
/-- a list of tuples of numbers -/
def TL (K : PySem.W.Frag) (H : Hp) (l : Addr) (xss : List (List Int)) : Prop := ∃ qs : List Addr, H l = some (.lst (qs.map V.ref)) ∧ TupsAt K H qs xss
theorem TL.mono {K : PySem.W.Frag} {H H' : Hp} {l : Addr} {xss : List (List Int)} (s : Same H H') (h : TL K H l xss) : TL K H' l xss := by
  obtain ⟨qs, h1, h2⟩ := h
  exact ⟨qs, s _ _ h1, h2.mono s⟩
theorem TL.past {K : PySem.W.Frag} {H H' : Hp} {l z : Addr} {u : HO} {xss : List (List Int)} (h : TL K H l xss) (hz : H z = some u) (nt : NoTup u) (n : l ≠ z) (kp : ∀ b v, H b = some v → b ≠ z → H' b = some v) : TL K H' l xss := by
  obtain ⟨qs, h1, h2⟩ := h
  exact ⟨qs, kp _ _ h1 n, TupsAt.past hz nt kp h2⟩
theorem TL.push {K : PySem.W.Frag} {H : Hp} {l q : Addr} {xss : List (List Int)} {xs : List Int} {qs : List Addr} (h1 : H l = some (.lst (qs.map V.ref))) (h2 : TupsAt K H qs xss) (hq : SqT K H q (xs.map V.int)) : TL K (upd H l (.lst (qs.map V.ref ++ [.ref q]))) l (xss ++ [xs]) :=
  ⟨qs ++ [q], by rw [upd_same, List.map_append]; rfl, TupsAt.past h1 nt_lst upd_keep (h2.snoc hq)⟩
/-- lists of words -/
structure LLs (H : Hp) (ps : List Addr) (wss : List (List Str)) : Prop where
  len : ps.length = wss.length
  at' : ∀ (i : Nat) p ws, ps[i]? = some p → wss[i]? = some ws → H p = some (.lst (strsV ws))
theorem LLs.mono {H H' : Hp} {ps : List Addr} {wss : List (List Str)} (s : Same H H') (h : LLs H ps wss) : LLs H' ps wss := ⟨h.len, fun i p ws a b => s _ _ (h.at' i p ws a b)⟩
theorem LLs.snoc {H : Hp} {ps : List Addr} {wss : List (List Str)} {p : Addr} {ws : List Str} (h : LLs H ps wss) (hp : H p = some (.lst (strsV ws))) : LLs H (ps ++ [p]) (wss ++ [ws]) := by
  refine ⟨by rw [List.length_append, List.length_append, h.len]; rfl, fun i a u ha hu => ?_⟩
  by_cases z : i < ps.length
  · rw [List.getElem?_append_left z] at ha
    rw [List.getElem?_append_left (h.len ▸ z)] at hu
    exact h.at' i a u ha hu
  · have e : i = ps.length := by
      have := (List.getElem?_eq_some_iff.mp ha).1
      rw [List.length_append] at this
      have : i < ps.length + 1 := this
      omega
    subst e
    rw [List.getElem?_concat_length] at ha
    rw [h.len, List.getElem?_concat_length] at hu
    cases ha
    cases hu
    exact hp
theorem small0 {n : Nat} (h : n ≤ 100000) : n ≤ sizeLine := Nat.le_trans h (by decide)
theorem nums_head {w : Str} {ns : List Int} : atI (strsV (TX.wordsOf w ns)) 0 = some (.str w) := atI_nat (j := 0) rfl
theorem drop1_words (w : Str) (ns : List Int) : cutV (strsV (TX.wordsOf w ns)) (some 1) none = strsV (ns.map TX.num) := by
  have := cut_from (strsV (TX.wordsOf w ns)) 1
  rw [show ((1 : Nat) : Int) = 1 from rfl] at this
  rw [this]
  rfl
end TW

set_option Elab.async false
set_option linter.all false
set_option maxRecDepth 100000
set_option maxHeartbeats 4000000
namespace K37
open PySem L2
def top (i : Nat) : Stmt := PySem.Challenge.pw_knotless_k37_town_read.main.body.getD i (.Pass ⟨0, 0, 0, 0⟩)
abbrev s_read_number : Stmt := (top 8)
abbrev s_read_numbers : Stmt := (top 9)
abbrev s_read_town : Stmt := (top 10)
abbrev s_read_names : Stmt := (top 11)
abbrev s_w_cell_at : Stmt := (top 13)
abbrev s_w_whole : Stmt := (top 14)
abbrev s_w_number : Stmt := (top 15)
abbrev s_w_numbers : Stmt := (top 16)
abbrev s_w_tuples : Stmt := (top 17)
abbrev s_w_read : Stmt := (top 18)
abbrev s_w_part : Stmt := (top 19)
abbrev s_law : Stmt := (top 20)
theorem sc_read_number : FnScope ["word"] ["word"] (defScope s_read_number) := ⟨rfl, rfl, rfl, by decide +kernel, rfl, by decide +kernel, by decide +kernel⟩
theorem nd_read_number_c0 : (["sign"] : List Str).Nodup := by decide +kernel
theorem sc_read_numbers : FnScope ["words", "many"] ["words", "many"] (defScope s_read_numbers) := ⟨rfl, rfl, rfl, by decide +kernel, rfl, by decide +kernel, by decide +kernel⟩
theorem nd_read_numbers_c0 : (["word"] : List Str).Nodup := by decide +kernel
theorem sc_read_town : FnScope ["text", "told", "names", "ropes", "callers", "words"] ["text"] (defScope s_read_town) := ⟨rfl, rfl, rfl, by decide +kernel, rfl, by decide +kernel, by decide +kernel⟩
theorem nd_read_town_c0 : (["part"] : List Str).Nodup := by decide +kernel
theorem sc_read_names : FnScope ["words"] ["words"] (defScope s_read_names) := ⟨rfl, rfl, rfl, by decide +kernel, rfl, by decide +kernel, by decide +kernel⟩
theorem nd_read_names_c0 : (["word"] : List Str).Nodup := by decide +kernel
theorem sc_w_cell_at : FnScope ["_law_script", "_law_k"] ["_law_script", "_law_k"] (defScope s_w_cell_at) := ⟨rfl, rfl, rfl, by decide +kernel, rfl, by decide +kernel, by decide +kernel⟩
theorem sc_w_whole : FnScope ["_law_found"] ["_law_found"] (defScope s_w_whole) := ⟨rfl, rfl, rfl, by decide +kernel, rfl, by decide +kernel, by decide +kernel⟩
theorem sc_w_number : FnScope ["_law_cell", "_law_k", "_law_mixed", "_law_number_here"] ["_law_cell", "_law_k"] (defScope s_w_number) := ⟨rfl, rfl, rfl, by decide +kernel, rfl, by decide +kernel, by decide +kernel⟩
theorem sc_w_numbers : FnScope ["_law_found", "_law_ought", "_law_one", "_law_other"] ["_law_found", "_law_ought"] (defScope s_w_numbers) := ⟨rfl, rfl, rfl, by decide +kernel, rfl, by decide +kernel, by decide +kernel⟩
theorem sc_w_tuples : FnScope ["_law_found", "_law_ought", "_law_one", "_law_other"] ["_law_found", "_law_ought"] (defScope s_w_tuples) := ⟨rfl, rfl, rfl, by decide +kernel, rfl, by decide +kernel, by decide +kernel⟩
theorem sc_w_read : FnScope ["_law_text", "_law_names", "_law_ropes", "_law_callers", "_law_found"] ["_law_text", "_law_names", "_law_ropes", "_law_callers"] (defScope s_w_read) := ⟨rfl, rfl, rfl, by decide +kernel, rfl, by decide +kernel, by decide +kernel⟩
theorem sc_w_part : FnScope ["_law_word", "_law_numbers_here"] ["_law_word", "_law_numbers_here"] (defScope s_w_part) := ⟨rfl, rfl, rfl, by decide +kernel, rfl, by decide +kernel, by decide +kernel⟩
theorem nd_w_part_c0 : (["_law_number_here"] : List Str).Nodup := by decide +kernel
theorem sc_law : FnScope ["_law_script", "_law_first", "_law_names", "_law_k", "_law_ropes", "_law_callers", "_law_cell", "_law_told", "_law_text"] ["_law_script"] (defScope s_law) := ⟨rfl, rfl, rfl, by decide +kernel, rfl, by decide +kernel, by decide +kernel⟩
theorem nd_law_c0 : (["_law_k", "_law_cell"] : List Str).Nodup := by decide +kernel
theorem nd_law_c1 : (["_law_rope"] : List Str).Nodup := by decide +kernel
theorem nd_law_c2 : (["_law_caller"] : List Str).Nodup := by decide +kernel
theorem nd_law_c3 : (["_law_name"] : List Str).Nodup := by decide +kernel
set_option genInjectivity false in
structure Ad where
  f_read_number : Addr
  d_read_number : FuncData
  f_read_numbers : Addr
  d_read_numbers : FuncData
  f_read_town : Addr
  d_read_town : FuncData
  f_read_names : Addr
  d_read_names : FuncData
  f_w_cell_at : Addr
  d_w_cell_at : FuncData
  f_w_whole : Addr
  d_w_whole : FuncData
  f_w_number : Addr
  d_w_number : FuncData
  f_w_numbers : Addr
  d_w_numbers : FuncData
  f_w_tuples : Addr
  d_w_tuples : FuncData
  f_w_read : Addr
  d_w_read : FuncData
  f_w_part : Addr
  d_w_part : FuncData
  f_law : Addr
  d_law : FuncData
  q_FIGURES : Tok
  q_MOST_FIGURES : Tok
  q_ROPE_NUMBERS : Tok
  q_CALLER_NUMBERS : Tok
structure Txt (K : PySem.W.Frag) (mg : Str → Option Value) (t : Ad) : Prop where
  F_read_number : Fun K "read_number" "read_number" s_read_number t.f_read_number t.d_read_number
  B_read_number : Binds K t.d_read_number ["word"] []
  g_read_number : mg "read_number" = some (.ref t.f_read_number)
  F_read_numbers : Fun K "read_numbers" "read_numbers" s_read_numbers t.f_read_numbers t.d_read_numbers
  B_read_numbers : Binds K t.d_read_numbers ["words", "many"] []
  g_read_numbers : mg "read_numbers" = some (.ref t.f_read_numbers)
  F_read_town : Fun K "read_town" "read_town" s_read_town t.f_read_town t.d_read_town
  B_read_town : Binds K t.d_read_town ["text"] []
  g_read_town : mg "read_town" = some (.ref t.f_read_town)
  F_read_names : Fun K "read_names" "read_names" s_read_names t.f_read_names t.d_read_names
  B_read_names : Binds K t.d_read_names ["words"] []
  g_read_names : mg "read_names" = some (.ref t.f_read_names)
  F_w_cell_at : Fun K "_law_cell_at" "_law_cell_at" s_w_cell_at t.f_w_cell_at t.d_w_cell_at
  B_w_cell_at : Binds K t.d_w_cell_at ["_law_script", "_law_k"] []
  g_w_cell_at : mg "_law_cell_at" = some (.ref t.f_w_cell_at)
  F_w_whole : Fun K "_law_whole" "_law_whole" s_w_whole t.f_w_whole t.d_w_whole
  B_w_whole : Binds K t.d_w_whole ["_law_found"] []
  g_w_whole : mg "_law_whole" = some (.ref t.f_w_whole)
  F_w_number : Fun K "_law_number" "_law_number" s_w_number t.f_w_number t.d_w_number
  B_w_number : Binds K t.d_w_number ["_law_cell", "_law_k"] []
  g_w_number : mg "_law_number" = some (.ref t.f_w_number)
  F_w_numbers : Fun K "_law_numbers" "_law_numbers" s_w_numbers t.f_w_numbers t.d_w_numbers
  B_w_numbers : Binds K t.d_w_numbers ["_law_found", "_law_ought"] []
  g_w_numbers : mg "_law_numbers" = some (.ref t.f_w_numbers)
  F_w_tuples : Fun K "_law_tuples" "_law_tuples" s_w_tuples t.f_w_tuples t.d_w_tuples
  B_w_tuples : Binds K t.d_w_tuples ["_law_found", "_law_ought"] []
  g_w_tuples : mg "_law_tuples" = some (.ref t.f_w_tuples)
  F_w_read : Fun K "_law_read" "_law_read" s_w_read t.f_w_read t.d_w_read
  B_w_read : Binds K t.d_w_read ["_law_text", "_law_names", "_law_ropes", "_law_callers"] []
  g_w_read : mg "_law_read" = some (.ref t.f_w_read)
  F_w_part : Fun K "_law_part" "_law_part" s_w_part t.f_w_part t.d_w_part
  B_w_part : Binds K t.d_w_part ["_law_word", "_law_numbers_here"] []
  g_w_part : mg "_law_part" = some (.ref t.f_w_part)
  F_law : Fun K "law" "law" s_law t.f_law t.d_law
  B_law : Binds K t.d_law ["_law_script"] []
  g_law : mg "law" = some (.ref t.f_law)
  k_FIGURES : mg "FIGURES" = some (.str "0123456789" t.q_FIGURES)
  k_MOST_FIGURES : mg "MOST_FIGURES" = some (.int 60 t.q_MOST_FIGURES)
  k_ROPE_NUMBERS : mg "ROPE_NUMBERS" = some (.int 5 t.q_ROPE_NUMBERS)
  k_CALLER_NUMBERS : mg "CALLER_NUMBERS" = some (.int 2 t.q_CALLER_NUMBERS)
  n_len : mg "len" = none
  n_isinstance : mg "isinstance" = none
  n_int : mg "int" = none
  n_bool : mg "bool" = none
  n_list : mg "list" = none
  n_tuple : mg "tuple" = none
  n_range : mg "range" = none
  n_str : mg "str" = none
  n_all : mg "all" = none
  n_zip : mg "zip" = none
theorem el1 {α : Type} {M : List α → Prop} (h : ∀ x0, M [x0]) : ∀ us : List α, us.length = 1 → M us
  | [_], _ => h _
theorem el2 {α : Type} {M : List α → Prop} (h : ∀ x0 x1, M [x0, x1]) : ∀ us : List α, us.length = 2 → M us
  | [_, _], _ => h _ _
theorem el4 {α : Type} {M : List α → Prop} (h : ∀ x0 x1 x2 x3, M [x0, x1, x2, x3]) : ∀ us : List α, us.length = 4 → M us
  | [_, _, _, _], _ => h _ _ _ _
theorem txt_mk {K : PySem.W.Frag} {h : Heap} {mg : Str → Option Value} (X : K.In h) (G : h.Ns mainGlobals mg) {oc_read_number kV_read_number dc_read_number pm_read_number cd_read_number ct_read_number : Value} {od_read_number an_read_number : Option Addr} {sl_read_number : Array (Option Value)} {f_read_number : Addr}
    {oc_read_numbers kV_read_numbers dc_read_numbers pm_read_numbers cd_read_numbers ct_read_numbers : Value} {od_read_numbers an_read_numbers : Option Addr} {sl_read_numbers : Array (Option Value)} {f_read_numbers : Addr}
    {oc_read_town kV_read_town dc_read_town pm_read_town cd_read_town ct_read_town : Value} {od_read_town an_read_town : Option Addr} {sl_read_town : Array (Option Value)} {f_read_town : Addr}
    {oc_read_names kV_read_names dc_read_names pm_read_names cd_read_names ct_read_names : Value} {od_read_names an_read_names : Option Addr} {sl_read_names : Array (Option Value)} {f_read_names : Addr}
    {oc_w_cell_at kV_w_cell_at dc_w_cell_at pm_w_cell_at cd_w_cell_at ct_w_cell_at : Value} {od_w_cell_at an_w_cell_at : Option Addr} {sl_w_cell_at : Array (Option Value)} {f_w_cell_at : Addr}
    {oc_w_whole kV_w_whole dc_w_whole pm_w_whole cd_w_whole ct_w_whole : Value} {od_w_whole an_w_whole : Option Addr} {sl_w_whole : Array (Option Value)} {f_w_whole : Addr}
    {oc_w_number kV_w_number dc_w_number pm_w_number cd_w_number ct_w_number : Value} {od_w_number an_w_number : Option Addr} {sl_w_number : Array (Option Value)} {f_w_number : Addr}
    {oc_w_numbers kV_w_numbers dc_w_numbers pm_w_numbers cd_w_numbers ct_w_numbers : Value} {od_w_numbers an_w_numbers : Option Addr} {sl_w_numbers : Array (Option Value)} {f_w_numbers : Addr}
    {oc_w_tuples kV_w_tuples dc_w_tuples pm_w_tuples cd_w_tuples ct_w_tuples : Value} {od_w_tuples an_w_tuples : Option Addr} {sl_w_tuples : Array (Option Value)} {f_w_tuples : Addr}
    {oc_w_read kV_w_read dc_w_read pm_w_read cd_w_read ct_w_read : Value} {od_w_read an_w_read : Option Addr} {sl_w_read : Array (Option Value)} {f_w_read : Addr}
    {oc_w_part kV_w_part dc_w_part pm_w_part cd_w_part ct_w_part : Value} {od_w_part an_w_part : Option Addr} {sl_w_part : Array (Option Value)} {f_w_part : Addr}
    {oc_law kV_law dc_law pm_law cd_law ct_law : Value} {od_law an_law : Option Addr} {sl_law : Array (Option Value)} {f_law : Addr}
    {q_FIGURES : Tok}
    {q_MOST_FIGURES : Tok}
    {q_ROPE_NUMBERS : Tok}
    {q_CALLER_NUMBERS : Tok}
    (a_read_number : PySem.W.nsIn K mainGlobals "read_number" = some (some (.ref f_read_number)))
    (l_read_number : K.lookup f_read_number = some ⟨oc_read_number, od_read_number, .func (PySem.W.fnOf "read_number" "read_number" (defArgs s_read_number) (defBody s_read_number) (defScope s_read_number) .none kV_read_number dc_read_number pm_read_number an_read_number cd_read_number ct_read_number), sl_read_number⟩)
    (c_read_number : PySem.W.codeIn K cd_read_number "read_number" = true)
    (k_read_number : PySem.W.keepIn K (.ref f_read_number) = true)
    (a_read_numbers : PySem.W.nsIn K mainGlobals "read_numbers" = some (some (.ref f_read_numbers)))
    (l_read_numbers : K.lookup f_read_numbers = some ⟨oc_read_numbers, od_read_numbers, .func (PySem.W.fnOf "read_numbers" "read_numbers" (defArgs s_read_numbers) (defBody s_read_numbers) (defScope s_read_numbers) .none kV_read_numbers dc_read_numbers pm_read_numbers an_read_numbers cd_read_numbers ct_read_numbers), sl_read_numbers⟩)
    (c_read_numbers : PySem.W.codeIn K cd_read_numbers "read_numbers" = true)
    (k_read_numbers : PySem.W.keepIn K (.ref f_read_numbers) = true)
    (a_read_town : PySem.W.nsIn K mainGlobals "read_town" = some (some (.ref f_read_town)))
    (l_read_town : K.lookup f_read_town = some ⟨oc_read_town, od_read_town, .func (PySem.W.fnOf "read_town" "read_town" (defArgs s_read_town) (defBody s_read_town) (defScope s_read_town) .none kV_read_town dc_read_town pm_read_town an_read_town cd_read_town ct_read_town), sl_read_town⟩)
    (c_read_town : PySem.W.codeIn K cd_read_town "read_town" = true)
    (k_read_town : PySem.W.keepIn K (.ref f_read_town) = true)
    (a_read_names : PySem.W.nsIn K mainGlobals "read_names" = some (some (.ref f_read_names)))
    (l_read_names : K.lookup f_read_names = some ⟨oc_read_names, od_read_names, .func (PySem.W.fnOf "read_names" "read_names" (defArgs s_read_names) (defBody s_read_names) (defScope s_read_names) .none kV_read_names dc_read_names pm_read_names an_read_names cd_read_names ct_read_names), sl_read_names⟩)
    (c_read_names : PySem.W.codeIn K cd_read_names "read_names" = true)
    (k_read_names : PySem.W.keepIn K (.ref f_read_names) = true)
    (a_w_cell_at : PySem.W.nsIn K mainGlobals "_law_cell_at" = some (some (.ref f_w_cell_at)))
    (l_w_cell_at : K.lookup f_w_cell_at = some ⟨oc_w_cell_at, od_w_cell_at, .func (PySem.W.fnOf "_law_cell_at" "_law_cell_at" (defArgs s_w_cell_at) (defBody s_w_cell_at) (defScope s_w_cell_at) .none kV_w_cell_at dc_w_cell_at pm_w_cell_at an_w_cell_at cd_w_cell_at ct_w_cell_at), sl_w_cell_at⟩)
    (c_w_cell_at : PySem.W.codeIn K cd_w_cell_at "_law_cell_at" = true)
    (k_w_cell_at : PySem.W.keepIn K (.ref f_w_cell_at) = true)
    (a_w_whole : PySem.W.nsIn K mainGlobals "_law_whole" = some (some (.ref f_w_whole)))
    (l_w_whole : K.lookup f_w_whole = some ⟨oc_w_whole, od_w_whole, .func (PySem.W.fnOf "_law_whole" "_law_whole" (defArgs s_w_whole) (defBody s_w_whole) (defScope s_w_whole) .none kV_w_whole dc_w_whole pm_w_whole an_w_whole cd_w_whole ct_w_whole), sl_w_whole⟩)
    (c_w_whole : PySem.W.codeIn K cd_w_whole "_law_whole" = true)
    (k_w_whole : PySem.W.keepIn K (.ref f_w_whole) = true)
    (a_w_number : PySem.W.nsIn K mainGlobals "_law_number" = some (some (.ref f_w_number)))
    (l_w_number : K.lookup f_w_number = some ⟨oc_w_number, od_w_number, .func (PySem.W.fnOf "_law_number" "_law_number" (defArgs s_w_number) (defBody s_w_number) (defScope s_w_number) .none kV_w_number dc_w_number pm_w_number an_w_number cd_w_number ct_w_number), sl_w_number⟩)
    (c_w_number : PySem.W.codeIn K cd_w_number "_law_number" = true)
    (k_w_number : PySem.W.keepIn K (.ref f_w_number) = true)
    (a_w_numbers : PySem.W.nsIn K mainGlobals "_law_numbers" = some (some (.ref f_w_numbers)))
    (l_w_numbers : K.lookup f_w_numbers = some ⟨oc_w_numbers, od_w_numbers, .func (PySem.W.fnOf "_law_numbers" "_law_numbers" (defArgs s_w_numbers) (defBody s_w_numbers) (defScope s_w_numbers) .none kV_w_numbers dc_w_numbers pm_w_numbers an_w_numbers cd_w_numbers ct_w_numbers), sl_w_numbers⟩)
    (c_w_numbers : PySem.W.codeIn K cd_w_numbers "_law_numbers" = true)
    (k_w_numbers : PySem.W.keepIn K (.ref f_w_numbers) = true)
    (a_w_tuples : PySem.W.nsIn K mainGlobals "_law_tuples" = some (some (.ref f_w_tuples)))
    (l_w_tuples : K.lookup f_w_tuples = some ⟨oc_w_tuples, od_w_tuples, .func (PySem.W.fnOf "_law_tuples" "_law_tuples" (defArgs s_w_tuples) (defBody s_w_tuples) (defScope s_w_tuples) .none kV_w_tuples dc_w_tuples pm_w_tuples an_w_tuples cd_w_tuples ct_w_tuples), sl_w_tuples⟩)
    (c_w_tuples : PySem.W.codeIn K cd_w_tuples "_law_tuples" = true)
    (k_w_tuples : PySem.W.keepIn K (.ref f_w_tuples) = true)
    (a_w_read : PySem.W.nsIn K mainGlobals "_law_read" = some (some (.ref f_w_read)))
    (l_w_read : K.lookup f_w_read = some ⟨oc_w_read, od_w_read, .func (PySem.W.fnOf "_law_read" "_law_read" (defArgs s_w_read) (defBody s_w_read) (defScope s_w_read) .none kV_w_read dc_w_read pm_w_read an_w_read cd_w_read ct_w_read), sl_w_read⟩)
    (c_w_read : PySem.W.codeIn K cd_w_read "_law_read" = true)
    (k_w_read : PySem.W.keepIn K (.ref f_w_read) = true)
    (a_w_part : PySem.W.nsIn K mainGlobals "_law_part" = some (some (.ref f_w_part)))
    (l_w_part : K.lookup f_w_part = some ⟨oc_w_part, od_w_part, .func (PySem.W.fnOf "_law_part" "_law_part" (defArgs s_w_part) (defBody s_w_part) (defScope s_w_part) .none kV_w_part dc_w_part pm_w_part an_w_part cd_w_part ct_w_part), sl_w_part⟩)
    (c_w_part : PySem.W.codeIn K cd_w_part "_law_part" = true)
    (k_w_part : PySem.W.keepIn K (.ref f_w_part) = true)
    (a_law : PySem.W.nsIn K mainGlobals "law" = some (some (.ref f_law)))
    (l_law : K.lookup f_law = some ⟨oc_law, od_law, .func (PySem.W.fnOf "law" "law" (defArgs s_law) (defBody s_law) (defScope s_law) .none kV_law dc_law pm_law an_law cd_law ct_law), sl_law⟩)
    (c_law : PySem.W.codeIn K cd_law "law" = true)
    (k_law : PySem.W.keepIn K (.ref f_law) = true)
    (g_FIGURES : PySem.W.nsIn K mainGlobals "FIGURES" = some (some (.str "0123456789" q_FIGURES)))
    (g_MOST_FIGURES : PySem.W.nsIn K mainGlobals "MOST_FIGURES" = some (some (.int 60 q_MOST_FIGURES)))
    (g_ROPE_NUMBERS : PySem.W.nsIn K mainGlobals "ROPE_NUMBERS" = some (some (.int 5 q_ROPE_NUMBERS)))
    (g_CALLER_NUMBERS : PySem.W.nsIn K mainGlobals "CALLER_NUMBERS" = some (some (.int 2 q_CALLER_NUMBERS)))
    (z_len : PySem.W.nsIn K mainGlobals "len" = some none)
    (z_isinstance : PySem.W.nsIn K mainGlobals "isinstance" = some none)
    (z_int : PySem.W.nsIn K mainGlobals "int" = some none)
    (z_bool : PySem.W.nsIn K mainGlobals "bool" = some none)
    (z_list : PySem.W.nsIn K mainGlobals "list" = some none)
    (z_tuple : PySem.W.nsIn K mainGlobals "tuple" = some none)
    (z_range : PySem.W.nsIn K mainGlobals "range" = some none)
    (z_str : PySem.W.nsIn K mainGlobals "str" = some none)
    (z_all : PySem.W.nsIn K mainGlobals "all" = some none)
    (z_zip : PySem.W.nsIn K mainGlobals "zip" = some none) : ∃ t, Txt K mg t := by
  have F_read_number := fun_mk (st := s_read_number) l_read_number c_read_number k_read_number
  have F_read_numbers := fun_mk (st := s_read_numbers) l_read_numbers c_read_numbers k_read_numbers
  have F_read_town := fun_mk (st := s_read_town) l_read_town c_read_town k_read_town
  have F_read_names := fun_mk (st := s_read_names) l_read_names c_read_names k_read_names
  have F_w_cell_at := fun_mk (st := s_w_cell_at) l_w_cell_at c_w_cell_at k_w_cell_at
  have F_w_whole := fun_mk (st := s_w_whole) l_w_whole c_w_whole k_w_whole
  have F_w_number := fun_mk (st := s_w_number) l_w_number c_w_number k_w_number
  have F_w_numbers := fun_mk (st := s_w_numbers) l_w_numbers c_w_numbers k_w_numbers
  have F_w_tuples := fun_mk (st := s_w_tuples) l_w_tuples c_w_tuples k_w_tuples
  have F_w_read := fun_mk (st := s_w_read) l_w_read c_w_read k_w_read
  have F_w_part := fun_mk (st := s_w_part) l_w_part c_w_part k_w_part
  have F_law := fun_mk (st := s_law) l_law c_law k_law
  exact ⟨⟨f_read_number, (PySem.W.fnOf "read_number" "read_number" (defArgs s_read_number) (defBody s_read_number) (defScope s_read_number) .none kV_read_number dc_read_number pm_read_number an_read_number cd_read_number ct_read_number), f_read_numbers, (PySem.W.fnOf "read_numbers" "read_numbers" (defArgs s_read_numbers) (defBody s_read_numbers) (defScope s_read_numbers) .none kV_read_numbers dc_read_numbers pm_read_numbers an_read_numbers cd_read_numbers ct_read_numbers), f_read_town, (PySem.W.fnOf "read_town" "read_town" (defArgs s_read_town) (defBody s_read_town) (defScope s_read_town) .none kV_read_town dc_read_town pm_read_town an_read_town cd_read_town ct_read_town), f_read_names, (PySem.W.fnOf "read_names" "read_names" (defArgs s_read_names) (defBody s_read_names) (defScope s_read_names) .none kV_read_names dc_read_names pm_read_names an_read_names cd_read_names ct_read_names), f_w_cell_at, (PySem.W.fnOf "_law_cell_at" "_law_cell_at" (defArgs s_w_cell_at) (defBody s_w_cell_at) (defScope s_w_cell_at) .none kV_w_cell_at dc_w_cell_at pm_w_cell_at an_w_cell_at cd_w_cell_at ct_w_cell_at), f_w_whole, (PySem.W.fnOf "_law_whole" "_law_whole" (defArgs s_w_whole) (defBody s_w_whole) (defScope s_w_whole) .none kV_w_whole dc_w_whole pm_w_whole an_w_whole cd_w_whole ct_w_whole), f_w_number, (PySem.W.fnOf "_law_number" "_law_number" (defArgs s_w_number) (defBody s_w_number) (defScope s_w_number) .none kV_w_number dc_w_number pm_w_number an_w_number cd_w_number ct_w_number), f_w_numbers, (PySem.W.fnOf "_law_numbers" "_law_numbers" (defArgs s_w_numbers) (defBody s_w_numbers) (defScope s_w_numbers) .none kV_w_numbers dc_w_numbers pm_w_numbers an_w_numbers cd_w_numbers ct_w_numbers), f_w_tuples, (PySem.W.fnOf "_law_tuples" "_law_tuples" (defArgs s_w_tuples) (defBody s_w_tuples) (defScope s_w_tuples) .none kV_w_tuples dc_w_tuples pm_w_tuples an_w_tuples cd_w_tuples ct_w_tuples), f_w_read, (PySem.W.fnOf "_law_read" "_law_read" (defArgs s_w_read) (defBody s_w_read) (defScope s_w_read) .none kV_w_read dc_w_read pm_w_read an_w_read cd_w_read ct_w_read), f_w_part, (PySem.W.fnOf "_law_part" "_law_part" (defArgs s_w_part) (defBody s_w_part) (defScope s_w_part) .none kV_w_part dc_w_part pm_w_part an_w_part cd_w_part ct_w_part), f_law, (PySem.W.fnOf "law" "law" (defArgs s_law) (defBody s_law) (defScope s_law) .none kV_law dc_law pm_law an_law cd_law ct_law), q_FIGURES, q_MOST_FIGURES, q_ROPE_NUMBERS, q_CALLER_NUMBERS⟩, ⟨F_read_number,
    (F_read_number.binds (ps := ["word"]) fun _ _ _ _ _ _ => el1 fun _ => rfl),
    (PySem.W.mg_of X G a_read_number),
    F_read_numbers,
    (F_read_numbers.binds (ps := ["words", "many"]) fun _ _ _ _ _ _ => el2 fun _ _ => rfl),
    (PySem.W.mg_of X G a_read_numbers),
    F_read_town,
    (F_read_town.binds (ps := ["text"]) fun _ _ _ _ _ _ => el1 fun _ => rfl),
    (PySem.W.mg_of X G a_read_town),
    F_read_names,
    (F_read_names.binds (ps := ["words"]) fun _ _ _ _ _ _ => el1 fun _ => rfl),
    (PySem.W.mg_of X G a_read_names),
    F_w_cell_at,
    (F_w_cell_at.binds (ps := ["_law_script", "_law_k"]) fun _ _ _ _ _ _ => el2 fun _ _ => rfl),
    (PySem.W.mg_of X G a_w_cell_at),
    F_w_whole,
    (F_w_whole.binds (ps := ["_law_found"]) fun _ _ _ _ _ _ => el1 fun _ => rfl),
    (PySem.W.mg_of X G a_w_whole),
    F_w_number,
    (F_w_number.binds (ps := ["_law_cell", "_law_k"]) fun _ _ _ _ _ _ => el2 fun _ _ => rfl),
    (PySem.W.mg_of X G a_w_number),
    F_w_numbers,
    (F_w_numbers.binds (ps := ["_law_found", "_law_ought"]) fun _ _ _ _ _ _ => el2 fun _ _ => rfl),
    (PySem.W.mg_of X G a_w_numbers),
    F_w_tuples,
    (F_w_tuples.binds (ps := ["_law_found", "_law_ought"]) fun _ _ _ _ _ _ => el2 fun _ _ => rfl),
    (PySem.W.mg_of X G a_w_tuples),
    F_w_read,
    (F_w_read.binds (ps := ["_law_text", "_law_names", "_law_ropes", "_law_callers"]) fun _ _ _ _ _ _ => el4 fun _ _ _ _ => rfl),
    (PySem.W.mg_of X G a_w_read),
    F_w_part,
    (F_w_part.binds (ps := ["_law_word", "_law_numbers_here"]) fun _ _ _ _ _ _ => el2 fun _ _ => rfl),
    (PySem.W.mg_of X G a_w_part),
    F_law,
    (F_law.binds (ps := ["_law_script"]) fun _ _ _ _ _ _ => el1 fun _ => rfl),
    (PySem.W.mg_of X G a_law),
    (PySem.W.mg_of X G g_FIGURES),
    (PySem.W.mg_of X G g_MOST_FIGURES),
    (PySem.W.mg_of X G g_ROPE_NUMBERS),
    (PySem.W.mg_of X G g_CALLER_NUMBERS),
    (PySem.W.mg_none_of X G z_len),
    (PySem.W.mg_none_of X G z_isinstance),
    (PySem.W.mg_none_of X G z_int),
    (PySem.W.mg_none_of X G z_bool),
    (PySem.W.mg_none_of X G z_list),
    (PySem.W.mg_none_of X G z_tuple),
    (PySem.W.mg_none_of X G z_range),
    (PySem.W.mg_none_of X G z_str),
    (PySem.W.mg_none_of X G z_all),
    (PySem.W.mg_none_of X G z_zip)⟩⟩
end K37

set_option Elab.async false
set_option linter.all false
set_option maxRecDepth 100000
set_option maxHeartbeats 4000000
namespace K37
open PySem L2 TW PyProof.Rows
open RM (rowV byV byV_non byV_int)
seal L2.PE L2.PA L2.PT L2.PW L2.PS L2.PSs L2.PG L2.PGs L2.PI L2.PTs
section
variable {P : Program} {w : World} {K : PySem.W.Frag} {mg : Str → Option Value} {base : Heap}
def spWhole : Sp := fun vs H Q _ => ∃ i : Int, vs = [.int i] ∧ Q (.bl true) H
theorem ok_w_whole {t : Ad} (T : Txt K mg t) : FnOk P w K mg base CX0 1 t.f_w_whole t.d_w_whole ["_law_found"]  spWhole := by
  refine T.F_w_whole.ok sc_w_whole (fun vs H Q E h => ?_) (fun cdv A outer s H vs Q E hr h => ?_)
  · obtain ⟨i, rfl, _⟩ := h; rfl
  · obtain ⟨i, rfl, k⟩ := h
    refine ⟨_, (pss_one (ps_ret (pe_and (pe_callB call_isi (by rfl) T.n_isinstance boot_isinstance (pa_c (pv 0) (pa_c (pe_bltn rfl T.n_int boot_int (v := .ty "int") rfl) pa_nil))) (pe_one (pe_not (pe_callB call_isi (by rfl) T.n_isinstance boot_isinstance (pa_c (pv 0) (pa_c (pe_bltn rfl T.n_bool boot_bool (v := .ty "bool") rfl) pa_nil)))))))), ?_⟩
    refine ⟨_, rfl, _, _, _, _, rfl, .int _, rfl, _, rfl, iteT ?_⟩
    refine ⟨_, rfl, _, _, _, _, rfl, .int _, rfl, _, rfl, ?_⟩
    exact k
def spCell (K : PySem.W.Frag) : Sp := fun vs H Q _ => ∃ (a : Addr) (ns : List Int) (k : Int), vs = [.ref a, .int k] ∧ SqL K H a (ns.map V.int) ∧ 0 ≤ k ∧ Q (.int (ns.getD k.toNat 0)) H
theorem ok_w_cell_at {t : Ad} (T : Txt K mg t) : FnOk P w K mg base CX0 1 t.f_w_cell_at t.d_w_cell_at ["_law_script", "_law_k"]  (spCell K) := by
  refine T.F_w_cell_at.ok sc_w_cell_at (fun vs H Q E h => ?_) (fun cdv A outer s H vs Q E hr h => ?_)
  · obtain ⟨a, ns, i, rfl, _⟩ := h; rfl
  · obtain ⟨a, ns, i, rfl, hS, h0, k⟩ := h
    refine ⟨_, (pss_cons (ps_if (pt_cmpR op_lt (pv 1) (pe_callB call_len_seq (by rfl) T.n_len PySem.boot_len (pa_c (pv 0) pa_nil)) (nomark _)) (pss_one (ps_ret (pe_ix ix_list (pv 0) (pv 1) (fun _ _ => rfl)))) pss_nil)
      (pss_one (ps_ret pe_int))), ?_⟩
    refine ⟨_, rfl, _, rfl, a, _, rfl, .inl hS, _, _, rfl, rfl, _, rfl, ?_⟩
    refine ite2 (fun c => ?_) (fun c => ?_)
    · have hi : i < ns.length := by simpa using c
      refine ⟨_, rfl, _, rfl, a, _, _, _, rfl, rfl, hS, atI_ints h0 hi, k⟩
    · have hi : ¬ i < ns.length := by simpa using c
      have e : ns.getD i.toNat 0 = 0 := by
        rw [List.getD_eq_getElem?_getD, List.getElem?_eq_none (by omega)]; rfl
      rw [e] at k
      exact k
end
end K37

set_option Elab.async false
set_option linter.all false
set_option maxRecDepth 100000
set_option maxHeartbeats 4000000
namespace K37
open PySem L2 TW PyProof.Rows
open RM (rowV byV byV_non byV_int)
seal L2.PE L2.PA L2.PT L2.PW L2.PS L2.PSs L2.PG L2.PGs L2.PI L2.PTs
section
variable {P : Program} {w : World} {K : PySem.W.Frag} {mg : Str → Option Value} {base : Heap}
theorem fig_in {c : Nat} (h : 48 ≤ c ∧ c ≤ 57) : (!(Builtin.Str.occurrences ("0123456789" : Str) ⟨#[c]⟩ 0 ("0123456789" : Str).length 1).isEmpty) = true := by
  rw [StrLaws.found_one]
  have : c = 48 ∨ c = 49 ∨ c = 50 ∨ c = 51 ∨ c = 52 ∨ c = 53 ∨ c = 54 ∨ c = 55 ∨ c = 56 ∨ c = 57 := by omega
  rcases this with rfl | rfl | rfl | rfl | rfl | rfl | rfl | rfl | rfl | rfl <;> decide +kernel
def spReadNumber : Sp := fun vs H Q _ => ∃ n : Int, vs = [.str (TX.num n)] ∧ TX.Wr n ∧ ∀ H', Same H H' → Q (.int n) H'
theorem ok_read_number {t : Ad} (T : Txt K mg t) : FnOk P w K mg base CX0 1 t.f_read_number t.d_read_number ["word"]  spReadNumber := by
  refine T.F_read_number.ok sc_read_number (fun vs H Q E h => ?_) (fun cdv A outer s H vs Q E hr h => ?_)
  · obtain ⟨_, rfl, _⟩ := h; rfl
  · obtain ⟨n, rfl, hn, k⟩ := h
    refine ⟨_, (pss_cons (ps_if (pt_not (pt_chain op_le op_le pe_int (pe_callB call_len_str (by rfl) T.n_len PySem.boot_len (pa_c (pv 0) pa_nil)) (pe_glob rfl T.k_MOST_FIGURES (v := .int 60) ⟨_, rfl⟩))) pss_never pss_nil)
      (pss_cons (ps_if (pt_not (pt_val (pe_callB (call_all rfl) (by rfl) T.n_all boot_all (pa_c (pe_comp (compOk_of (dsc := defScope s_read_number) (N0 := ["word"]) (N2 := ["sign"]) (cap := [none]) rfl rfl (by decide +kernel)) rfl (pi_str (pv 0)) (fun _ _ _ _ => by exact (pg_name (i := 0) nd_read_number_c0 rfl (Or.inl rfl))) (fun _ _ _ _ => by exact pts_nil) (fun _ _ _ _ => by exact (pe_cmpR op_in_str (pv 0) (pe_glob rfl T.k_FIGURES (v := .str "0123456789") ⟨_, rfl⟩) (by with_unfolding_all rfl)))) pa_nil)))) pss_never pss_nil)
      (pss_cons (ps_if (PW.pt (pw_and (pt_cmpR op_eq (pe_ix ix_str (pv 0) pe_int (fun _ _ => rfl)) pe_str (nomark _)) (pw_and1 (pt_cmpR op_ne (pv 0) pe_str (nomark _))))) pss_never pss_nil)
      (pss_one (ps_ret (pe_callTy call_intS (by rfl) T.n_int boot_int (pa_c (pv 0) pa_nil))))))), ?_⟩
    have hl := TX.num_len hn
    have hsz : (TX.num n).length ≤ sizeLine := Nat.le_trans hl.2 (by decide)
    refine ⟨_, rfl, _, rfl, hsz, _, _, rfl, rfl, _, rfl, ?_⟩
    rw [decide_eq_true (show (1 : Int) ≤ ((TX.num n).length : Int) by omega)]
    refine iteT ⟨_, _, rfl, rfl, _, rfl, ?_⟩
    rw [decide_eq_true (show ((TX.num n).length : Int) ≤ 60 by omega)]
    refine iteF ?_
    refine ⟨_, rfl, _, rfl, TX.num_ascii hn.1, fun acc hacc => ?_⟩
    have hcs : (TX.num n).cps.size = (TX.num n).length := rfl
    refine comp_opt (n := (TX.num n).cps.size) (fun i => .str ⟨#[(TX.num n).cps.getD i 0]⟩) (fun _ => some (.bl true)) hacc its_go its_stop (fun i H2 x H3 hi s2 hx => ?_) (by omega) (fun i H2 R S hi s2 h1 h2 => ?_) (fun H2 s2 hy => ?_)
    · obtain ⟨rfl, c, hc, rfl⟩ := hx
      refine ⟨rfl, ?_⟩
      rw [Array.getD_eq_getD_getElem?, hc]
      rfl
    · refine ⟨_, rfl, _, _, rfl, rfl, ?_⟩
      have hm : (TX.num n).cps.getD i 0 ∈ TX.cs (TX.num n) := by
        rw [Array.getD_eq_getD_getElem?, Array.getElem?_eq_getElem hi]
        exact Array.getElem_mem_toList hi
      rw [fig_in (TX.num_rng hn.1 _ hm)]
      exact h1 _ _ (Same.refl _) rfl
    · have e : (List.range (TX.num n).cps.size).filterMap (fun _ => some (V.bl true)) = (List.replicate (TX.num n).cps.size true).map V.bl := by
        rw [List.filterMap_eq_map', List.map_replicate]
        exact (List.map_const' ..).trans (by rw [List.length_range])
      rw [e] at hy
      refine ⟨acc, _, rfl, SqL.of hy, _, rfl, ?_⟩
      rw [show (List.replicate (TX.num n).cps.size true).all id = true by simp]
      refine iteF ?_
      have h0 : 0 < (TX.num n).cps.toList.length := by rw [Array.length_toList]; omega
      have hat : atI (TX.num n).cps.toList 0 = some (TX.num n).cps.toList[0] := atI_nat (j := 0) (List.getElem?_eq_getElem h0)
      refine ⟨_, rfl, _, _, _, rfl, rfl, hsz, hat, rfl, _, rfl, ite2 (fun e => ?_) (fun e => ?_)⟩
      · have e1 : (⟨#[(TX.num n).cps.toList[0]]⟩ : Str) = ("0" : Str) := V.str.inj (of_decide_eq_true e)
        have e2 : (TX.num n).cps.toList[0] = 48 := by
          have := congrArg (fun z : Str => z.cps.getD 0 0) e1
          exact this
        have e3 : n = 0 := TX.num_head hn.1 (by rw [List.getElem?_eq_getElem h0, e2])
        subst e3
        refine ⟨_, rfl, rfl, _, rfl, iteFe (by decide +kernel) ?_⟩
        exact ⟨_, rfl, _, _, rfl, TX.num_reads hn, by omega, k H2 s2⟩
      · exact ⟨_, rfl, _, _, rfl, TX.num_reads hn, by omega, k H2 s2⟩
def spReadNumbers (K : PySem.W.Frag) : Sp := fun vs H Q _ => ∃ (l : Addr) (ns : List Int), vs = [.ref l, .int ns.length] ∧ SqL K H l (strsV (ns.map TX.num)) ∧ (∀ n ∈ ns, TX.Wr n) ∧ ns.length ≤ 100 ∧ ∀ l' H', Same H H' → H l' = none → H' l' = some (.lst (ns.map V.int)) → Q (.ref l') H'
theorem ok_read_numbers {t : Ad} (T : Txt K mg t) : FnOk P w K mg base CX0 2 t.f_read_numbers t.d_read_numbers ["words", "many"]  (spReadNumbers K) := by
  refine T.F_read_numbers.ok sc_read_numbers (fun vs H Q E h => ?_) (fun cdv A outer s H vs Q E hr h => ?_)
  · obtain ⟨_, _, rfl, _⟩ := h; rfl
  · obtain ⟨l, ns, rfl, hS, hn, h100, k⟩ := h
    refine ⟨_, (pss_cons (ps_if (pt_cmpR op_ne (pe_callB call_len_seq (by rfl) T.n_len PySem.boot_len (pa_c (pv 0) pa_nil)) (pv 1) (nomark _)) pss_never pss_nil)
      (pss_one (ps_ret (pe_comp (compOk_of (dsc := defScope s_read_numbers) (N0 := ["words", "many"]) (N2 := ["word"]) (cap := [none]) rfl rfl (by decide +kernel)) rfl (pi_list (pv 0)) (fun _ _ _ _ => by exact (pg_name (i := 0) nd_read_numbers_c0 rfl (Or.inl rfl))) (fun _ _ _ _ => by exact pts_nil) (fun _ _ _ _ => by exact (pe_call (ok_read_number T) (hr.mono (by decide)) rfl T.g_read_number T.F_read_number.kp T.B_read_number .nil pass0 (pa_c (pv 0) pa_nil))))))), ?_⟩
    have hlen : (strsV (ns.map TX.num)).length = ns.length := by simp
    refine ⟨_, rfl, l, _, rfl, .inl hS, _, rfl, rfl, _, rfl, iteFe (by rw [hlen, decide_eq_true rfl]; rfl) ?_⟩
    refine ⟨_, rfl, l, rfl, ⟨_, hS⟩, fun acc hacc => ?_⟩
    refine comp_at (fun i => ns[i]?.map V.int) hacc hS (by omega) (fun i x H2 R S hx s2 h1 h2 => ?_) (fun H2 s2 hy => ?_)
    · have hi : i < ns.length := by have := (List.getElem?_eq_some_iff.mp hx).1; omega
      have ex : x = .str (TX.num ns[i]) := by
        simp only [List.getElem?_map, List.getElem?_eq_getElem hi, Option.map_some, Option.some.injEq] at hx
        exact hx.symm
      subst ex
      exact ⟨_, rfl, ns[i], rfl, hn _ (List.getElem_mem hi), fun H3 s3 => h1 _ _ s3 (by rw [List.getElem?_eq_getElem hi]; rfl)⟩
    · rw [hlen, range_maps] at hy
      exact k acc H2 s2 hacc hy
def spReadNames (K : PySem.W.Frag) : Sp := fun vs H Q _ => ∃ (l : Addr) (ns : List Int), vs = [.ref l] ∧ H l = some (.lst (strsV (TX.wordsOf "names" ns))) ∧ (∀ n ∈ ns, TX.Wr n) ∧ 1 ≤ ns.length ∧ ns.length ≤ 100 ∧ ∀ l' H', Same H H' → H l' = none → H' l' = some (.lst (ns.map V.int)) → Q (.ref l') H'
theorem ok_read_names {t : Ad} (T : Txt K mg t) : FnOk P w K mg base CX0 2 t.f_read_names t.d_read_names ["words"]  (spReadNames K) := by
  refine T.F_read_names.ok sc_read_names (fun vs H Q E h => ?_) (fun cdv A outer s H vs Q E hr h => ?_)
  · obtain ⟨_, _, rfl, _⟩ := h; rfl
  · obtain ⟨l, ns, rfl, hS, hn, h1, h100, k⟩ := h
    refine ⟨_, (pss_cons (ps_if (PW.pt (pw_or (pt_cmpR op_ne (pe_ix ix_list (pv 0) pe_int (fun _ _ => rfl)) pe_str (nomark _)) (pw_or1 (pt_cmpR op_lt (pe_callB call_len_seq (by rfl) T.n_len PySem.boot_len (pa_c (pv 0) pa_nil)) pe_int (nomark _))))) pss_never pss_nil)
      (pss_one (ps_ret (pe_comp (compOk_of (dsc := defScope s_read_names) (N0 := ["words"]) (N2 := ["word"]) (cap := [none]) rfl rfl (by decide +kernel)) rfl (pi_list (pe_slice sl_list (pv 0) (po_some pe_int) po_none)) (fun _ _ _ _ => by exact (pg_name (i := 0) nd_read_names_c0 rfl (Or.inl rfl))) (fun _ _ _ _ => by exact pts_nil) (fun _ _ _ _ => by exact (pe_call (ok_read_number T) (hr.mono (by decide)) rfl T.g_read_number T.F_read_number.kp T.B_read_number .nil pass0 (pa_c (pv 0) pa_nil))))))), ?_⟩
    have hlw : (strsV (TX.wordsOf "names" ns)).length = ns.length + 1 := by simp [TX.wordsOf]
    refine ⟨_, rfl, l, _, _, _, rfl, rfl, SqL.of hS, nums_head, rfl, _, rfl, iteFe (by rw [decide_eq_true rfl]; rfl) ?_⟩
    refine ⟨_, rfl, l, _, rfl, .inl (SqL.of hS), _, _, rfl, rfl, _, rfl, iteFe (by rw [hlw]; exact decide_eq_false (by omega)) ?_⟩
    refine ⟨_, rfl, _, rfl, l, _, rfl, SqL.of hS, fun l2 hl2 => ?_⟩
    rw [drop1_words]
    have u2 := Same.new (o := .lst (strsV (ns.map TX.num))) hl2
    have h2 := upd_same (H := H) (a := l2) (o := .lst (strsV (ns.map TX.num)))
    generalize upd H l2 (.lst (strsV (ns.map TX.num))) = H2 at u2 h2
    have hlen : (strsV (ns.map TX.num)).length = ns.length := by simp
    refine ⟨l2, rfl, ⟨_, SqL.of h2⟩, fun acc hacc => ?_⟩
    refine comp_at (fun i => ns[i]?.map V.int) hacc (SqL.of h2) (by omega) (fun i x H3 R S hx s3 h1 h2 => ?_) (fun H3 s3 hy => ?_)
    · have hi : i < ns.length := by have := (List.getElem?_eq_some_iff.mp hx).1; omega
      have ex : x = .str (TX.num ns[i]) := by
        simp only [List.getElem?_map, List.getElem?_eq_getElem hi, Option.map_some, Option.some.injEq] at hx
        exact hx.symm
      subst ex
      exact ⟨_, rfl, ns[i], rfl, hn _ (List.getElem_mem hi), fun H4 s4 => h1 _ _ s4 (by rw [List.getElem?_eq_getElem hi]; rfl)⟩
    · rw [hlen, range_maps] at hy
      exact k acc H3 (u2.trans s3) (u2.free hacc) hy
end
end K37

set_option Elab.async false
set_option linter.all false
set_option maxRecDepth 100000
set_option maxHeartbeats 4000000
namespace K37
open PySem L2 TW PyProof.Rows
open RM (rowV byV byV_non byV_int)
seal L2.PE L2.PA L2.PT L2.PW L2.PS L2.PSs L2.PG L2.PGs L2.PI L2.PTs
section
variable {P : Program} {w : World} {K : PySem.W.Frag} {mg : Str → Option Value} {base : Heap}
structure Good37 (nm : List Int) (rs cl : List (List Int)) : Prop where
  h1 : ∀ n ∈ nm, TX.Wr n
  h2 : ∀ r ∈ rs, ∀ n ∈ r, TX.Wr n
  h3 : ∀ r ∈ cl, ∀ n ∈ r, TX.Wr n
  a1 : 1 ≤ nm.length
  l1 : nm.length ≤ 12
  l2 : ∀ r ∈ rs, r.length = 5
  l3 : ∀ r ∈ cl, r.length = 2
  m2 : rs.length ≤ 30
  m3 : cl.length ≤ 30
theorem Good37.sum {nm : List Int} {rs cl : List (List Int)} (g : Good37 nm rs cl) : ((TX.partsOf nm rs cl).map (·.length)).sum + (TX.partsOf nm rs cl).length * TX.sep2.length ≤ 100000 :=
  TX.parts_sum g.h1 g.h2 g.h3 g.l1 (fun r hr => by rw [g.l2 r hr]; decide) (fun r hr => by rw [g.l3 r hr]; decide) g.m2 g.m3
theorem Good37.text {nm : List Int} {rs cl : List (List Int)} (g : Good37 nm rs cl) : (TX.townText nm rs cl).length ≤ 100000 := by
  unfold TX.townText
  rw [TX.join_eq]
  exact Nat.le_trans (StrLaws.join_length_le _ _) g.sum
theorem Good37.part {nm : List Int} {rs cl : List (List Int)} (g : Good37 nm rs cl) {p : Str} (hp : p ∈ TX.partsOf nm rs cl) : p.length ≤ 100000 := by
  have key : ∀ {l : List Nat} {x : Nat}, x ∈ l → x ≤ l.sum := fun {l x} h => by
    induction l with
    | nil => cases h
    | cons a l ih =>
      rw [List.sum_cons]
      rcases List.mem_cons.mp h with rfl | h
      · omega
      · have := ih h
        omega
  have := key (List.mem_map.mpr ⟨p, hp, rfl⟩ : p.length ∈ (TX.partsOf nm rs cl).map (·.length))
  have := g.sum
  omega
def spReadTown (K : PySem.W.Frag) : Sp := fun vs H Q _ => ∃ (nm : List Int) (rs cl : List (List Int)), vs = [.str (TX.townText nm rs cl)] ∧ Good37 nm rs cl ∧
  ∀ p l0 l1 l2 H', Same H H' → H l0 = none → H l1 = none → H l2 = none → l0 ≠ l1 → l0 ≠ l2 → l1 ≠ l2 → H' p = some (.tup [.ref l0, .ref l1, .ref l2]) → H' l0 = some (.lst (nm.map V.int)) → TL K H' l1 rs → TL K H' l2 cl → Q (.ref p) H'
theorem ok_read_town {t : Ad} (T : Txt K mg t) : FnOk P w K mg base CX0 3 t.f_read_town t.d_read_town ["text"]  (spReadTown K) := by
  refine T.F_read_town.ok sc_read_town (fun vs H Q E h => ?_) (fun cdv A outer s H vs Q E hr h => ?_)
  · obtain ⟨_, _, _, rfl, _⟩ := h; rfl
  · obtain ⟨nm, rs, cl, rfl, G, k⟩ := h
    refine ⟨_, (pss_cons (ps_setcomp (i := 1) sc_read_town.nd rfl (Or.inl rfl) (compOk_of (dsc := defScope s_read_town) (N0 := ["text", "told", "names", "ropes", "callers", "words"]) (N2 := ["part"]) (cap := [none]) rfl rfl (by decide +kernel)) rfl (pi_list (pe_bm PySem.F.plainAttrs_str PySem.F.slot_str_split PySem.F.type_str_split mt_split (pv 0) (pa_c pe_str pa_nil))) (fun _ _ _ _ => by exact (pg_name (i := 0) nd_read_town_c0 rfl (Or.inl rfl))) (fun _ _ _ _ => by exact pts_nil) (fun _ _ _ _ => by exact (pe_bmK K rfl PySem.F.plainAttrs_str PySem.F.slot_str_split PySem.F.type_str_split mt_split (pv 0) (pa_c pe_str pa_nil))))
      (pss_cons (ps_set (i := 2) sc_read_town.nd rfl (Or.inl rfl) (pe_call (ok_read_names T) (hr.mono (by decide)) rfl T.g_read_names T.F_read_names.kp T.B_read_names .nil pass0 (pa_c (pe_ix ix_list (pv 1) pe_int (fun _ _ => rfl)) pa_nil)))
      (pss_cons (ps_set (i := 3) sc_read_town.nd rfl (Or.inl rfl) (pe_lst pa_nil))
      (pss_cons (ps_set (i := 4) sc_read_town.nd rfl (Or.inl rfl) (pe_lst pa_nil))
      (pss_cons (ps_for PassesOwn.never rfl (pi_list (pe_slice sl_list (pv 1) (po_some pe_int) po_none)) (pg_name (i := 5) sc_read_town.nd rfl (Or.inl rfl)) (pss_one (ps_if (PW.pt (pw_and (pt_cmpR op_eq (pe_ix ix_list (pv 5) pe_int (fun _ _ => rfl)) pe_str (nomark _)) (pw_and1 (pt_cmpR op_eqD (pv 4) (pe_lst pa_nil) (nomark _))))) (pss_one (ps_expr (pe_bm PySem.F.plainAttrs_list PySem.F.slot_list_append PySem.F.type_list_append mt_append (pv 3) (pa_c (pe_callTy call_tuple_of (by rfl) T.n_tuple boot_tuple (pa_c (pe_call (ok_read_numbers T) (hr.mono (by decide)) rfl T.g_read_numbers T.F_read_numbers.kp T.B_read_numbers .nil pass0 (pa_c (pe_slice sl_list (pv 5) (po_some pe_int) po_none) (pa_c (pe_glob rfl T.k_ROPE_NUMBERS (v := .int 5) ⟨_, rfl⟩) pa_nil))) pa_nil)) pa_nil)))) (pss_one (ps_if (pt_cmpR op_eq (pe_ix ix_list (pv 5) pe_int (fun _ _ => rfl)) pe_str (nomark _)) (pss_one (ps_expr (pe_bm PySem.F.plainAttrs_list PySem.F.slot_list_append PySem.F.type_list_append mt_append (pv 4) (pa_c (pe_callTy call_tuple_of (by rfl) T.n_tuple boot_tuple (pa_c (pe_call (ok_read_numbers T) (hr.mono (by decide)) rfl T.g_read_numbers T.F_read_numbers.kp T.B_read_numbers .nil pass0 (pa_c (pe_slice sl_list (pv 5) (po_some pe_int) po_none) (pa_c (pe_glob rfl T.k_CALLER_NUMBERS (v := .int 2) ⟨_, rfl⟩) pa_nil))) pa_nil)) pa_nil)))) pss_never)))))
      (pss_one (ps_ret (pe_tup (pa_c (pv 2) (pa_c (pv 3) (pa_c (pv 4) pa_nil))))))))))), ?_⟩
    refine ⟨_, rfl, rfl, _, _, rfl, rfl, (by decide +kernel), G.text, fun lp hlp => ?_⟩
    rw [show Txt.split (TX.townText nm rs cl) _ = TX.partsOf nm rs cl from TX.split_town G.h1 G.h2 G.h3]
    have u1 := Same.new (o := .lst (strsV (TX.partsOf nm rs cl))) hlp
    have hlp1 := upd_same (H := H) (a := lp) (o := .lst (strsV (TX.partsOf nm rs cl)))
    generalize upd H lp (.lst (strsV (TX.partsOf nm rs cl))) = H1 at u1 hlp1
    refine ⟨lp, rfl, ⟨_, SqL.of hlp1⟩, fun acc hacc => ?_⟩
    have hwl : (TX.wssOf nm rs cl).length = (TX.partsOf nm rs cl).length := by rw [← TX.split_parts G.h1 G.h2 G.h3, List.length_map]
    have hpl : (TX.partsOf nm rs cl).length ≤ 61 := by
      rw [← hwl, TX.wss_len]
      have := G.m2
      have := G.m3
      omega
    refine comp_by (n := (strsV (TX.partsOf nm rs cl)).length) (fun i ys H3 => ∃ ps : List Addr, ys = ps.map V.ref ∧ LLs H3 ps ((TX.wssOf nm rs cl).take i) ∧ ∀ p ∈ ps, p ≠ acc) hacc (itl_go (SqL.of hlp1)) (itl_stop (SqL.of hlp1)) ⟨[], rfl, ⟨rfl, fun i p ws e => by cases e⟩, fun p hp => by cases hp⟩ ?_ ?_
    · rintro i ys H3 hi s3 hy ⟨ps, rfl, hps, nps⟩ x H4 ⟨rfl, hx⟩
      have hx := hx _ (s3.seq (SqL.of hlp1))
      have hi' : i < (TX.partsOf nm rs cl).length := by rw [List.length_map] at hi; exact hi
      have ex : x = .str (TX.partsOf nm rs cl)[i] := by
        simp only [List.getElem?_map, List.getElem?_eq_getElem hi', Option.map_some, Option.some.injEq] at hx
        exact hx.symm
      subst ex
      have hw : (TX.wssOf nm rs cl)[i]? = some (Txt.split (TX.partsOf nm rs cl)[i] TX.sep1) := by
        rw [← TX.split_parts G.h1 G.h2 G.h3, List.getElem?_map, List.getElem?_eq_getElem hi']
        rfl
      refine ⟨_, rfl, rfl, _, _, rfl, rfl, (by decide +kernel), G.part (List.getElem_mem hi'), fun p hp => ?_⟩
      have u4 := Same.new (o := .lst ((Txt.split (TX.partsOf nm rs cl)[i] TX.sep1).map V.str)) hp
      have hy4 := u4 _ _ hy
      have npa : p ≠ acc := (ne_of_none hy hp).symm
      have hpl2 : ps.length = i := by rw [hps.len, List.length_take]; omega
      refine comp_add hacc hi (s3.trans u4) hy4 (by rw [List.length_map]; exact small1000 (by omega)) ⟨ps ++ [p], by simp, ?_, ?_⟩
      · rw [List.take_add_one, hw]
        have hs := (hps.mono u4).snoc (p := p) (ws := Txt.split (TX.partsOf nm rs cl)[i] TX.sep1) upd_same
        refine ⟨hs.len, fun j q ws a b => ?_⟩
        have nq : q ≠ acc := by
          rcases List.mem_append.mp (List.mem_of_getElem? a) with z | z
          · exact nps q z
          · rw [List.mem_singleton.mp z]
            exact npa
        rw [upd_ne nq]
        exact hs.at' j q ws a b
      · intro q hq
        rcases List.mem_append.mp hq with z | z
        · exact nps q z
        · rw [List.mem_singleton.mp z]
          exact npa
    rintro ys H3 s3 hy ⟨ps, rfl, hps, nps⟩
    rw [show (strsV (TX.partsOf nm rs cl)).length = (TX.wssOf nm rs cl).length by rw [hwl, List.length_map], List.take_length] at hps
    have s03 := u1.trans s3
    clear s3 u1 hlp1 hacc hlp
    -- the names
    have hp0 : 0 < ps.length := by rw [hps.len, TX.wss_len]; omega
    have hat0 : atI (ps.map V.ref) 0 = some (.ref ps[0]) := atI_nat (j := 0) (by rw [List.getElem?_map, List.getElem?_eq_getElem hp0]; rfl)
    have hn0 : H3 ps[0] = some (.lst (strsV (TX.wordsOf "names" nm))) := hps.at' 0 _ _ (List.getElem?_eq_getElem hp0) rfl
    refine ⟨_, rfl, acc, _, _, _, rfl, rfl, SqL.of hy, hat0, ps[0], nm, rfl, hn0, G.h1, G.a1, Nat.le_trans G.l1 (by decide), fun l0 H4 s4 hl0 h04 => ?_⟩
    have s04 := s03.trans s4
    have hy4 := s4 _ _ hy
    have hps4 := hps.mono s4
    have nl0 := s03.free hl0
    clear s03 s4 hy hps hn0 hl0
    refine ⟨Nat.zero_le _, fun l1 hl1 => ?_⟩
    have u5 := Same.new (o := .lst []) hl1
    have h15 := upd_same (H := H4) (a := l1) (o := .lst [])
    have n01 : l0 ≠ l1 := ne_of_none h04 hl1
    have nl1 := s04.free hl1
    have h05 := u5 _ _ h04
    have hy5 := u5 _ _ hy4
    have hps5 := hps4.mono u5
    have s05 := s04.trans u5
    generalize upd H4 l1 (.lst []) = H5 at u5 h15 h05 hy5 hps5 s05
    clear u5 s04 hy4 hps4 h04
    refine ⟨Nat.zero_le _, fun l2 hl2 => ?_⟩
    have u6 := Same.new (o := .lst []) hl2
    have h26 := upd_same (H := H5) (a := l2) (o := .lst [])
    have n02 : l0 ≠ l2 := ne_of_none h05 hl2
    have n12 : l1 ≠ l2 := ne_of_none h15 hl2
    have nl2 := s05.free hl2
    have h16 := u6 _ _ h15
    have h06 := u6 _ _ h05
    have hy6 := u6 _ _ hy5
    have np2 : ∀ i p, ps[i]? = some p → p ≠ l2 := fun i p e => by
      have hlt := (List.getElem?_eq_some_iff.mp e).1
      rw [hps5.len] at hlt
      exact ne_of_none (hps5.at' i p _ e (List.getElem?_eq_getElem hlt)) hl2
    have hps6 := hps5.mono u6
    have s06 := s05.trans u6
    generalize upd H5 l2 (.lst []) = H6 at u6 h26 h16 h06 hy6 hps6 s06
    have np1 : ∀ i p ws, ps[i]? = some p → (TX.wssOf nm rs cl)[i]? = some ws → ws ≠ [] → p ≠ l1 := fun i p ws e e2 hw z => by
      have q := hps6.at' i p ws e e2
      rw [z, h16] at q
      have q : ([] : List V) = strsV ws := HO.lst.inj (Option.some.inj q)
      cases ws with
      | nil => exact hw rfl
      | cons a b => cases q
    clear u6 s05 hy5 hps5 h05 h15
    -- the parts behind
    refine ⟨_, rfl, _, rfl, acc, _, rfl, SqL.of hy6, fun l7 hl7 => ?_⟩
    have ecut : cutV (ps.map V.ref) (some 1) none = (ps.drop 1).map V.ref := by
      have := cut_from (ps.map V.ref) 1
      rw [show ((1 : Nat) : Int) = 1 from rfl] at this
      rw [this, List.map_drop]
    rw [ecut]
    have u7 := Same.new (o := .lst ((ps.drop 1).map V.ref)) hl7
    have h77 := upd_same (H := H6) (a := l7) (o := .lst ((ps.drop 1).map V.ref))
    have n71 : l7 ≠ l1 := (ne_of_none h16 hl7).symm
    have n72 : l7 ≠ l2 := (ne_of_none h26 hl7).symm
    have hps7 := hps6.mono u7
    have s07 := s06.trans u7
    have h07 := u7 _ _ h06
    have h17 := u7 _ _ h16
    have h27 := u7 _ _ h26
    generalize upd H6 l7 (.lst ((ps.drop 1).map V.ref)) = H7 at u7 h77 hps7 s07 h07 h17 h27
    clear u7 s06 hy6 hps6 h06 h16 h26
    have hpl7 : ps.length = 1 + rs.length + cl.length := by rw [hps7.len, TX.wss_len]
    have hdl : ((ps.drop 1).map V.ref).length = rs.length + cl.length := by rw [List.length_map, List.length_drop]; omega
    refine ⟨l7, rfl, ⟨_, SqL.of h77⟩, for_list (K := K) (a := l7) (xs := (ps.drop 1).map V.ref) (fun i σ H8 => (∀ b o, H7 b = some o → b ≠ l1 → b ≠ l2 → H8 b = some o) ∧ TL K H8 l1 (rs.take i) ∧ TL K H8 l2 (cl.take (i - rs.length)) ∧ ∃ v5 : Option V, σ = [some (.str (TX.townText nm rs cl)), some (.ref acc), some (.ref l0), some (.ref l1), some (.ref l2), v5])
      ⟨fun b o e _ _ => e, ⟨[], h17, TupsAt.nil⟩, ⟨[], h27, by rw [Nat.zero_sub, List.take_zero]; exact TupsAt.nil⟩, _, rfl⟩ (fun i σ H8 _ z => SqL.of (z.1 _ _ h77 n71 n72)) ?_ ?_⟩
    · rintro i y σ H8 hi ⟨kp, hT1, hT2, v5, rfl⟩
      have hil := (List.getElem?_eq_some_iff.mp hi).1
      rw [hdl] at hil
      have hip : i + 1 < ps.length := by omega
      have ey : y = .ref ps[i + 1] := by
        rw [List.getElem?_map, List.getElem?_drop, Nat.add_comm 1 i, List.getElem?_eq_getElem hip] at hi
        exact (Option.some.inj hi).symm
      subst ey
      generalize hq : ps[i + 1] = pw
      have epw : ps[i + 1]? = some pw := by rw [List.getElem?_eq_getElem hip, hq]
      by_cases hr' : i < rs.length
      · have ew := TX.wss_rope (nm := nm) (cl := cl) hr'
        have hpw := kp _ _ (hps7.at' _ _ _ epw ew) (np1 _ _ _ epw ew (by simp [TX.wordsOf])) (np2 _ _ epw)
        refine ⟨_, rfl, pw, _, _, _, rfl, rfl, SqL.of hpw, nums_head, rfl, _, rfl, iteTe (decide_eq_true rfl) ?_⟩
        obtain ⟨qs2, hl28, hq2⟩ := hT2
        have e2 : qs2 = [] := by
          have := hq2.len
          rw [show i - rs.length = 0 by omega, List.take_zero] at this
          exact List.length_eq_zero_iff.mp this
        subst e2
        refine ⟨_, rfl, Nat.zero_le _, fun l9 hl9 => ?_⟩
        have u9 := Same.new (o := .lst []) hl9
        have h99 := upd_same (H := H8) (a := l9) (o := .lst [])
        generalize upd H8 l9 (.lst []) = H9 at u9 h99
        have rp : ∀ {l : Addr}, H9 l = some (.lst []) → Rep K H9 (.list []) (.ref l) := fun {l} e => ⟨l, [], rfl, SqL.of e, rfl⟩
        refine ⟨_, _, rp (u9 _ _ hl28), rp h99, rfl, rfl, Nat.lt_of_le_of_lt (Nat.add_le_add_left (Nat.le_trans (Nat.min_le_left _ _) (show PyData.depth (.list []) ≤ 64 by decide)) _) hr.units, _, rfl, iteTe rfl ?_⟩
        have hpw9 := u9 _ _ hpw
        obtain ⟨qs1, hl18, hq1⟩ := hT1
        have hl19 := u9 _ _ hl18
        refine ⟨_, rfl, .inl ⟨rfl, _, SqL.of hl19⟩, _, rfl, _, rfl, pw, _, rfl, SqL.of hpw9, fun l10 hl10 => ?_⟩
        rw [drop1_words]
        have u10 := Same.new (o := .lst (strsV (rs[i].map TX.num))) hl10
        have h10 := upd_same (H := H9) (a := l10) (o := .lst (strsV (rs[i].map TX.num)))
        generalize upd H9 l10 (.lst (strsV (rs[i].map TX.num))) = H10 at u10 h10
        have hri := List.getElem_mem hr'
        refine ⟨l10, rs[i], (by rw [G.l2 _ hri]; rfl), SqL.of h10, G.h2 _ hri, (by rw [G.l2 _ hri]; decide), fun l11 H11 s11 hl11 h11 => ?_⟩
        refine ⟨l11, _, rfl, .inl ⟨SqL.of h11, fun q12 hq12 => ?_⟩⟩
        have u12 := Same.new (o := .tup (rs[i].map V.int)) hq12
        have h12 := upd_same (H := H11) (a := q12) (o := .tup (rs[i].map V.int))
        generalize upd H11 q12 (.tup (rs[i].map V.int)) = H12 at u12 h12
        have s812 := u9.trans (u10.trans (s11.trans u12))
        have hl112 := s812 _ _ hl18
        have hq112 := hq1.mono s812
        refine ⟨l1, _, _, rfl, rfl, hl112, (by rw [List.length_map, hq1.len, List.length_take]; exact small1000 (by have := G.m2; omega)), ?_⟩
        refine ⟨fun b o e n1 n2 => by rw [upd_ne n1]; exact s812 _ _ (kp b o e n1 n2), ?_, ?_, _, rfl⟩
        · rw [List.take_add_one, List.getElem?_eq_getElem hr']
          exact TL.push hl112 hq112 (SqT.of h12)
        · rw [show i + 1 - rs.length = 0 by omega, List.take_zero]
          exact ⟨[], by rw [upd_ne n12.symm]; exact s812 _ _ hl28, TupsAt.nil⟩
      · obtain ⟨j, rfl⟩ : ∃ j, i = rs.length + j := ⟨i - rs.length, by omega⟩
        have hj : j < cl.length := by omega
        have ew := TX.wss_call (nm := nm) (rs := rs) hj
        have hpw := kp _ _ (hps7.at' _ _ _ epw ew) (np1 _ _ _ epw ew (by simp [TX.wordsOf])) (np2 _ _ epw)
        refine ⟨_, rfl, pw, _, _, _, rfl, rfl, SqL.of hpw, nums_head, rfl, _, rfl, iteFe (decide_eq_false (by decide +kernel)) ?_⟩
        refine ⟨_, rfl, pw, _, _, _, rfl, rfl, SqL.of hpw, nums_head, rfl, _, rfl, iteTe (decide_eq_true rfl) ?_⟩
        obtain ⟨qs2, hl28, hq2⟩ := hT2
        refine ⟨_, rfl, .inl ⟨rfl, _, SqL.of hl28⟩, _, rfl, _, rfl, pw, _, rfl, SqL.of hpw, fun l10 hl10 => ?_⟩
        rw [drop1_words]
        have u10 := Same.new (o := .lst (strsV (cl[j].map TX.num))) hl10
        have h10 := upd_same (H := H8) (a := l10) (o := .lst (strsV (cl[j].map TX.num)))
        generalize upd H8 l10 (.lst (strsV (cl[j].map TX.num))) = H10 at u10 h10
        have hri := List.getElem_mem hj
        refine ⟨l10, cl[j], (by rw [G.l3 _ hri]; rfl), SqL.of h10, G.h3 _ hri, (by rw [G.l3 _ hri]; decide), fun l11 H11 s11 hl11 h11 => ?_⟩
        refine ⟨l11, _, rfl, .inl ⟨SqL.of h11, fun q12 hq12 => ?_⟩⟩
        have u12 := Same.new (o := .tup (cl[j].map V.int)) hq12
        have h12 := upd_same (H := H11) (a := q12) (o := .tup (cl[j].map V.int))
        generalize upd H11 q12 (.tup (cl[j].map V.int)) = H12 at u12 h12
        have s812 := u10.trans (s11.trans u12)
        have hl212 := s812 _ _ hl28
        have hq212 := hq2.mono s812
        rw [show rs.length + j - rs.length = j by omega] at hq2 hq212
        refine ⟨l2, _, _, rfl, rfl, hl212, (by rw [List.length_map, hq2.len, List.length_take]; exact small1000 (by have := G.m3; omega)), ?_⟩
        refine ⟨fun b o e n1 n2 => by rw [upd_ne n2]; exact s812 _ _ (kp b o e n1 n2), ?_, ?_, _, rfl⟩
        · have hT1 : TL K H8 l1 rs := by
            have e : rs.take (rs.length + j) = rs := List.take_of_length_le (by omega)
            rw [e] at hT1
            exact hT1
          rw [List.take_of_length_le (show rs.length ≤ rs.length + j + 1 by omega)]
          exact (hT1.mono s812).past hl212 nt_lst n12 upd_keep
        · rw [show rs.length + j + 1 - rs.length = j + 1 by omega, List.take_add_one, List.getElem?_eq_getElem hj]
          exact TL.push hl212 hq212 (SqT.of h12)
    · rintro σ H8 ⟨kp, hT1, hT2, v5, rfl⟩
      rw [hdl, List.take_of_length_le (by omega)] at hT1
      rw [hdl, show rs.length + cl.length - rs.length = cl.length by omega, List.take_length] at hT2
      refine ⟨_, rfl, _, rfl, _, rfl, (by show 3 ≤ sizeLine; decide), fun p9 hp9 => ?_⟩
      have u9 := Same.new (o := .tup [V.ref l0, .ref l1, .ref l2]) hp9
      refine k p9 l0 l1 l2 _ (fun b o e => ?_) nl0 nl1 nl2 n01 n02 n12 upd_same (u9 _ _ (kp _ _ h07 n01 n02)) (hT1.mono u9) (hT2.mono u9)
      exact u9 _ _ (kp _ _ (s07 _ _ e) (ne_of_none e nl1) (ne_of_none e nl2))
end
end K37

set_option Elab.async false
set_option linter.all false
set_option maxRecDepth 100000
set_option maxHeartbeats 4000000
namespace K37
open PySem L2 TW PyProof.Rows
open RM (rowV byV byV_non byV_int)
seal L2.PE L2.PA L2.PT L2.PW L2.PS L2.PSs L2.PG L2.PGs L2.PI L2.PTs
section
variable {P : Program} {w : World} {K : PySem.W.Frag} {mg : Str → Option Value} {base : Heap}
def spNum37 : Sp := fun vs H Q _ => ∃ (c k : Int), vs = [.int c, .int k] ∧ 0 ≤ k ∧ k ≤ 100 ∧ ∀ x, TX.Wr x → Q (.int x) H
theorem ok_w_number {t : Ad} (T : Txt K mg t) : FnOk P w K mg base CX0 1 t.f_w_number t.d_w_number ["_law_cell", "_law_k"]  spNum37 := by
  refine T.F_w_number.ok sc_w_number (fun vs H Q E h => ?_) (fun cdv A outer s H vs Q E hr h => ?_)
  · obtain ⟨_, _, rfl, _⟩ := h; rfl
  · obtain ⟨c, k, rfl, k0, k1, kq⟩ := h
    refine ⟨_, (pss_cons (ps_set (i := 2) sc_w_number.nd rfl (Or.inl rfl) (pe_op op_mod (pe_op op_mul (pe_op op_add (pe_op op_add (pe_op op_mod (pv 0) (pe_op op_pow pe_int pe_int)) (pe_op op_mul (pe_op op_mul (pv 1) (pv 1)) pe_int)) (pe_op op_mul pe_int (pv 1))) pe_int) pe_int))
      (pss_cons (ps_set (i := 3) sc_w_number.nd rfl (Or.inl rfl) (pe_op op_mod (pe_op op_add (pv 0) (pe_op op_mul (pv 1) (pv 2))) (pe_op op_pow pe_int pe_int)))
      (pss_cons (ps_if (pt_cmpR op_eq (pe_op op_mod (pv 2) pe_int) pe_int (nomark _)) (pss_one (ps_ret (pe_op op_mod (pv 3) pe_int))) pss_nil)
      (pss_cons (ps_if (pt_cmpR op_eq (pe_op op_mod (pv 2) pe_int) pe_int (nomark _)) (pss_one (ps_ret (pe_op op_mod (pv 3) (pe_op op_pow pe_int pe_int)))) pss_nil)
      (pss_one (ps_ret (pv 3))))))), ?_⟩
    have pw : (0 : Int) < 10 ^ (60 : Int).toNat := by decide
    refine ⟨_, rfl, _, _, rfl, rfl, ⟨by decide, by decide, by decide⟩, _, _, rfl, rfl, pw, _, rfl, _, rfl, _, _, rfl, rfl, .inl ⟨by omega, by omega⟩, _, _, rfl, rfl, .inr ⟨by decide, by decide⟩, _, _, rfl, rfl, _, rfl, _, _, rfl, rfl, .inl ⟨by decide, by decide⟩, _, _, rfl, rfl, _, _, rfl, rfl, .inr ⟨by decide, by decide⟩, _, _, rfl, rfl, (by show (0 : Int) < 2147483647; decide), ?_⟩
    dsimp only [gName]
    generalize (c % 10 ^ (60 : Int).toNat + k * k * 11 + 3 * k) * 69621 % 2147483647 = mx
    refine ⟨_, rfl, _, rfl, _, rfl, _, _, rfl, rfl, .inl ⟨by omega, by omega⟩, _, _, rfl, rfl, _, _, rfl, rfl, ⟨by decide, by decide, by decide⟩, _, _, rfl, rfl, pw, ?_⟩
    have hw : TX.Wr ((c + k * mx) % 10 ^ (60 : Int).toNat) := ⟨Int.emod_nonneg _ (by decide), Int.emod_lt_of_pos _ pw⟩
    dsimp only [gName]
    generalize (c + k * mx) % 10 ^ (60 : Int).toNat = nh at hw
    have small : ∀ m : Int, 0 < m → m ≤ 10 ^ 60 → TX.Wr (nh % m) := fun m h0 h1 => ⟨Int.emod_nonneg _ (by omega), Int.lt_of_lt_of_le (Int.emod_lt_of_pos _ h0) h1⟩
    refine ⟨_, rfl, _, _, rfl, rfl, (by show (0 : Int) < 3; decide), rfl, _, rfl, ite2 (fun e => ?_) (fun e => ?_)⟩
    · exact ⟨_, rfl, _, _, rfl, rfl, (by show (0 : Int) < 100; decide), kq _ (small 100 (by decide) (by decide))⟩
    refine ⟨_, rfl, _, _, rfl, rfl, (by show (0 : Int) < 3; decide), rfl, _, rfl, ite2 (fun e => ?_) (fun e => ?_)⟩
    · exact ⟨_, rfl, _, _, rfl, rfl, ⟨by decide, by decide, by decide⟩, _, _, rfl, rfl, (by show (0 : Int) < 10 ^ (7 : Int).toNat; decide), kq _ (small _ (by decide) (by decide))⟩
    · exact ⟨_, rfl, kq _ hw⟩
def spNumbers37 (K : PySem.W.Frag) : Sp := fun vs H Q _ => ∃ (l1 l2 : Addr) (xs : List Int), vs = [.ref l1, .ref l2] ∧ ((SqL K H l1 (xs.map V.int) ∧ SqL K H l2 (xs.map V.int)) ∨ (SqT K H l1 (xs.map V.int) ∧ SqT K H l2 (xs.map V.int))) ∧ ∀ H', Same H H' → Q (.bl true) H'
theorem ok_w_numbers {t : Ad} (T : Txt K mg t) : FnOk P w K mg base CX0 2 t.f_w_numbers t.d_w_numbers ["_law_found", "_law_ought"]  (spNumbers37 K) := by
  refine T.F_w_numbers.ok sc_w_numbers (fun vs H Q E h => ?_) (fun cdv A outer s H vs Q E hr h => ?_)
  · obtain ⟨_, _, _, rfl, _⟩ := h; rfl
  · obtain ⟨l1, l2, xs, rfl, hAB, k⟩ := h
    refine ⟨_, (pss_cons (ps_if (pt_cmpR op_ne (pe_callB call_len_seq (by rfl) T.n_len PySem.boot_len (pa_c (pv 0) pa_nil)) (pe_callB call_len_seq (by rfl) T.n_len PySem.boot_len (pa_c (pv 1) pa_nil)) (nomark _)) (pss_one (ps_ret pe_bl)) pss_nil)
      (pss_cons (ps_for PassesOwn.never rfl (pi_alt (pi_zip rfl T.n_zip (pa_c (pv 0) (pa_c (pv 1) pa_nil))) (pi_zipT rfl T.n_zip (pa_c (pv 0) (pa_c (pv 1) pa_nil)))) (pg_tup (n := 2) rfl (pgs_cons (pg_name (i := 2) sc_w_numbers.nd rfl (Or.inl rfl)) (pgs_cons (pg_name (i := 3) sc_w_numbers.nd rfl (Or.inl rfl)) pgs_nil))) (pss_one (ps_if (PW.pt (pw_or (pt_not (pt_val (pe_call (ok_w_whole T) (hr.mono (by decide)) rfl T.g_w_whole T.F_w_whole.kp T.B_w_whole .nil pass0 (pa_c (pv 2) pa_nil)))) (pw_or1 (pt_cmpR op_ne (pv 2) (pv 3) (nomark _))))) (pss_one (ps_ret pe_bl)) pss_nil)))
      (pss_one (ps_ret pe_bl)))), ?_⟩
    have q1 : SqL K H l1 (xs.map V.int) ∨ SqT K H l1 (xs.map V.int) := hAB.elim (fun z => .inl z.1) (fun z => .inr z.1)
    have q2 : SqL K H l2 (xs.map V.int) ∨ SqT K H l2 (xs.map V.int) := hAB.elim (fun z => .inl z.2) (fun z => .inr z.2)
    refine ⟨_, rfl, l1, _, rfl, q1, _, rfl, l2, _, rfl, q2, rfl, _, rfl, iteFe (by rw [decide_eq_true rfl]; rfl) ?_⟩
    rcases hAB with ⟨hA, hB⟩ | ⟨hA, hB⟩
    · refine .inl ⟨_, rfl, _, rfl, l1, l2, _, _, rfl, hA, hB, ?_⟩
      refine for_zip (K := K) (a := l1) (b := l2) (xs := xs.map V.int) (ys := xs.map V.int) (n := (xs.map V.int).length) (fun i σ H2 => Same H H2 ∧ ∃ v2 v3 : Option V, σ = [some (.ref l1), some (.ref l2), v2, v3]) rfl rfl ⟨Same.refl _, _, _, rfl⟩ (fun i σ H2 _ z => ⟨z.1.seq hA, z.1.seq hB⟩) ?_ ?_
      · rintro i x y σ H2 p hi hx hy ⟨s2, v2, v3, rfl⟩ hp
        have u1 := Same.new (o := .tup [x, y]) hp
        refine ⟨p, _, rfl, SqT.of upd_same, rfl, _, _, rfl, _, _, rfl, rfl, ?_⟩
        have exy : x = y := Option.some.inj (hx.symm.trans hy)
        subst exy
        obtain ⟨z, _, rfl⟩ := List.mem_map.mp (List.mem_of_getElem? hx)
        refine ⟨_, rfl, _, rfl, ⟨_, rfl, iteF ?_⟩⟩
        exact ⟨_, rfl, _, rfl, rfl, _, rfl, iteFe (by rw [decide_eq_true rfl]; rfl) ⟨s2.trans u1, _, _, rfl⟩⟩
      · rintro σ H2 ⟨s2, v2, v3, rfl⟩
        exact k H2 s2
    · refine .inr ⟨_, rfl, _, rfl, l1, l2, _, _, rfl, hA, hB, ?_⟩
      refine for_zipT (K := K) (a := l1) (b := l2) (xs := xs.map V.int) (ys := xs.map V.int) (n := (xs.map V.int).length) (fun i σ H2 => Same H H2 ∧ ∃ v2 v3 : Option V, σ = [some (.ref l1), some (.ref l2), v2, v3]) rfl rfl ⟨Same.refl _, _, _, rfl⟩ (fun i σ H2 _ z => ⟨z.1.seqT hA, z.1.seqT hB⟩) ?_ ?_
      · rintro i x y σ H2 p hi hx hy ⟨s2, v2, v3, rfl⟩ hp
        have u1 := Same.new (o := .tup [x, y]) hp
        refine ⟨p, _, rfl, SqT.of upd_same, rfl, _, _, rfl, _, _, rfl, rfl, ?_⟩
        have exy : x = y := Option.some.inj (hx.symm.trans hy)
        subst exy
        obtain ⟨z, _, rfl⟩ := List.mem_map.mp (List.mem_of_getElem? hx)
        refine ⟨_, rfl, _, rfl, ⟨_, rfl, iteF ?_⟩⟩
        exact ⟨_, rfl, _, rfl, rfl, _, rfl, iteFe (by rw [decide_eq_true rfl]; rfl) ⟨s2.trans u1, _, _, rfl⟩⟩
      · rintro σ H2 ⟨s2, v2, v3, rfl⟩
        exact k H2 s2
def spTuples37 (K : PySem.W.Frag) : Sp := fun vs H Q _ => ∃ (l1 l2 : Addr) (xss : List (List Int)), vs = [.ref l1, .ref l2] ∧ TL K H l1 xss ∧ TL K H l2 xss ∧ ∀ H', Same H H' → Q (.bl true) H'
theorem ok_w_tuples {t : Ad} (T : Txt K mg t) : FnOk P w K mg base CX0 3 t.f_w_tuples t.d_w_tuples ["_law_found", "_law_ought"]  (spTuples37 K) := by
  refine T.F_w_tuples.ok sc_w_tuples (fun vs H Q E h => ?_) (fun cdv A outer s H vs Q E hr h => ?_)
  · obtain ⟨_, _, _, rfl, _⟩ := h; rfl
  · obtain ⟨l1, l2, xss, rfl, ⟨q1, hl1, h1⟩, ⟨q2, hl2, h2⟩, k⟩ := h
    refine ⟨_, (pss_cons (ps_if (PW.pt (pw_or (pt_not (pt_val (pe_callB call_isiL (by rfl) T.n_isinstance boot_isinstance (pa_c (pv 0) (pa_c (pe_bltn rfl T.n_list boot_list (v := .ty "list") rfl) pa_nil))))) (pw_or1 (pt_cmpR op_ne (pe_callB call_len_seq (by rfl) T.n_len PySem.boot_len (pa_c (pv 0) pa_nil)) (pe_callB call_len_seq (by rfl) T.n_len PySem.boot_len (pa_c (pv 1) pa_nil)) (nomark _))))) (pss_one (ps_ret pe_bl)) pss_nil)
      (pss_cons (ps_for PassesOwn.never rfl (pi_zip rfl T.n_zip (pa_c (pv 0) (pa_c (pv 1) pa_nil))) (pg_tup (n := 2) rfl (pgs_cons (pg_name (i := 2) sc_w_tuples.nd rfl (Or.inl rfl)) (pgs_cons (pg_name (i := 3) sc_w_tuples.nd rfl (Or.inl rfl)) pgs_nil))) (pss_one (ps_if (PW.pt (pw_or (pt_not (pt_val (pe_callB call_isiT (by rfl) T.n_isinstance boot_isinstance (pa_c (pv 2) (pa_c (pe_bltn rfl T.n_tuple boot_tuple (v := .ty "tuple") rfl) pa_nil))))) (pw_or1 (pt_not (pt_val (pe_call (ok_w_numbers T) (hr.mono (by decide)) rfl T.g_w_numbers T.F_w_numbers.kp T.B_w_numbers .nil pass0 (pa_c (pv 2) (pa_c (pv 3) pa_nil)))))))) (pss_one (ps_ret pe_bl)) pss_nil)))
      (pss_one (ps_ret pe_bl)))), ?_⟩
    have hA : SqL K H l1 (q1.map V.ref) := SqL.of hl1
    have hB : SqL K H l2 (q2.map V.ref) := SqL.of hl2
    have e1 : (q1.map V.ref).length = xss.length := by rw [List.length_map, h1.len]
    have e2 : (q2.map V.ref).length = xss.length := by rw [List.length_map, h2.len]
    refine ⟨_, rfl, l1, _, _, _, rfl, hA, rfl, _, rfl, iteF ?_⟩
    refine ⟨_, rfl, l1, _, rfl, .inl hA, _, rfl, l2, _, rfl, .inl hB, rfl, _, rfl, iteFe (by rw [e1, e2, decide_eq_true rfl]; rfl) ?_⟩
    refine ⟨_, rfl, _, rfl, l1, l2, _, _, rfl, hA, hB, ?_⟩
    refine for_zip (K := K) (a := l1) (b := l2) (xs := q1.map V.ref) (ys := q2.map V.ref) (n := xss.length) (fun i σ H2 => Same H H2 ∧ ∃ v2 v3 : Option V, σ = [some (.ref l1), some (.ref l2), v2, v3]) e1 e2 ⟨Same.refl _, _, _, rfl⟩ (fun i σ H2 _ z => ⟨z.1.seq hA, z.1.seq hB⟩) ?_ ?_
    · rintro i x y σ H2 p hi hx hy ⟨s2, v2, v3, rfl⟩ hp
      obtain ⟨a1, xs, rfl, ea1, ex1, ha1⟩ := h1.get hx
      obtain ⟨a2, ys, rfl, ea2, ex2, ha2⟩ := h2.get hy
      rw [ex1] at ex2
      cases ex2
      have u1 := Same.new (o := .tup [V.ref a1, V.ref a2]) hp
      have ha1 := (s2.trans u1).seqT ha1
      have ha2 := (s2.trans u1).seqT ha2
      refine ⟨p, _, rfl, SqT.of upd_same, rfl, _, _, rfl, _, _, rfl, rfl, ?_⟩
      refine ⟨_, rfl, a1, _, _, _, rfl, ha1, rfl, _, rfl, iteF ?_⟩
      exact ⟨_, rfl, _, rfl, a1, a2, xs, rfl, .inr ⟨ha1, ha2⟩, fun H3 s3 => ⟨_, rfl, iteF ⟨(s2.trans u1).trans s3, _, _, rfl⟩⟩⟩
    · rintro σ H2 ⟨s2, v2, v3, rfl⟩
      exact k H2 s2
def spRead37 (K : PySem.W.Frag) : Sp := fun vs H Q _ => ∃ (ln lr lc : Addr) (nm : List Int) (rs cl : List (List Int)), vs = [.str (TX.townText nm rs cl), .ref ln, .ref lr, .ref lc] ∧ Good37 nm rs cl ∧ SqL K H ln (nm.map V.int) ∧ TL K H lr rs ∧ TL K H lc cl ∧ ∀ H', Same H H' → Q (.bl true) H'
theorem ok_w_read {t : Ad} (T : Txt K mg t) : FnOk P w K mg base CX0 4 t.f_w_read t.d_w_read ["_law_text", "_law_names", "_law_ropes", "_law_callers"]  (spRead37 K) := by
  refine T.F_w_read.ok sc_w_read (fun vs H Q E h => ?_) (fun cdv A outer s H vs Q E hr h => ?_)
  · obtain ⟨_, _, _, _, _, _, rfl, _⟩ := h; rfl
  · obtain ⟨ln, lr, lc, nm, rs, cl, rfl, G, hN, hR, hC, k⟩ := h
    refine ⟨_, (pss_cons (ps_set (i := 4) sc_w_read.nd rfl (Or.inl rfl) (pe_call (ok_read_town T) (hr.mono (by decide)) rfl T.g_read_town T.F_read_town.kp T.B_read_town .nil pass0 (pa_c (pv 0) pa_nil)))
      (pss_cons (ps_if (PW.pt (pw_or (pt_not (pt_val (pe_callB call_isiT (by rfl) T.n_isinstance boot_isinstance (pa_c (pv 4) (pa_c (pe_bltn rfl T.n_tuple boot_tuple (v := .ty "tuple") rfl) pa_nil))))) (pw_or (pt_cmpR op_ne (pe_callB call_len_seq (by rfl) T.n_len PySem.boot_len (pa_c (pv 4) pa_nil)) pe_int (nomark _)) (pw_or1 (pt_not (pt_val (pe_callB call_isiL (by rfl) T.n_isinstance boot_isinstance (pa_c (pe_ix ix_tup (pv 4) pe_int (fun _ _ => rfl)) (pa_c (pe_bltn rfl T.n_list boot_list (v := .ty "list") rfl) pa_nil))))))))) (pss_one (ps_ret pe_bl)) pss_nil)
      (pss_cons (ps_if (PW.pt (pw_or (pt_not (pt_val (pe_call (ok_w_numbers T) (hr.mono (by decide)) rfl T.g_w_numbers T.F_w_numbers.kp T.B_w_numbers .nil pass0 (pa_c (pe_ix ix_tup (pv 4) pe_int (fun _ _ => rfl)) (pa_c (pv 1) pa_nil))))) (pw_or (pt_not (pt_val (pe_call (ok_w_tuples T) (hr.mono (by decide)) rfl T.g_w_tuples T.F_w_tuples.kp T.B_w_tuples .nil pass0 (pa_c (pe_ix ix_tup (pv 4) pe_int (fun _ _ => rfl)) (pa_c (pv 2) pa_nil))))) (pw_or1 (pt_not (pt_val (pe_call (ok_w_tuples T) (hr.mono (by decide)) rfl T.g_w_tuples T.F_w_tuples.kp T.B_w_tuples .nil pass0 (pa_c (pe_ix ix_tup (pv 4) pe_int (fun _ _ => rfl)) (pa_c (pv 3) pa_nil))))))))) (pss_one (ps_ret pe_bl)) pss_nil)
      (pss_cons (ps_expr (pe_bm0 PySem.F.plainAttrs_list PySem.F.slot_list_clear PySem.F.type_list_clear mt_clear (pe_ix ix_tup (pv 4) pe_int (fun _ _ => rfl))))
      (pss_cons (ps_expr (pe_bm0 PySem.F.plainAttrs_list PySem.F.slot_list_clear PySem.F.type_list_clear mt_clear (pe_ix ix_tup (pv 4) pe_int (fun _ _ => rfl))))
      (pss_cons (ps_expr (pe_bm0 PySem.F.plainAttrs_list PySem.F.slot_list_clear PySem.F.type_list_clear mt_clear (pe_ix ix_tup (pv 4) pe_int (fun _ _ => rfl))))
      (pss_one (ps_ret pe_bl)))))))), ?_⟩
    refine ⟨_, rfl, nm, rs, cl, rfl, G, fun p l0 l1 l2 H1 s1 nl0 nl1 nl2 n01 n02 n12 hp h0 h1 h2 => ?_⟩
    have ph : SqT K H1 p [.ref l0, .ref l1, .ref l2] := SqT.of hp
    refine ⟨_, rfl, p, _, _, _, rfl, ph, rfl, _, rfl, iteF ?_⟩
    refine ⟨_, rfl, p, _, rfl, .inr ph, rfl, _, rfl, iteF ?_⟩
    refine ⟨_, rfl, p, _, _, _, rfl, rfl, ph, rfl, l0, _, _, _, rfl, SqL.of h0, rfl, _, rfl, iteF ?_⟩
    refine ⟨_, rfl, p, _, _, _, rfl, rfl, ph, rfl, _, rfl, l0, ln, nm, rfl, .inl ⟨SqL.of h0, s1.seq hN⟩, fun H2 s2 => ⟨_, rfl, iteF ?_⟩⟩
    have s12 := s1.trans s2
    refine ⟨_, rfl, p, _, _, _, rfl, rfl, s2.seqT ph, rfl, _, rfl, l1, lr, rs, rfl, h1.mono s2, hR.mono s12, fun H3 s3 => ⟨_, rfl, iteF ?_⟩⟩
    have s13 := s12.trans s3
    have t3 := s2.trans s3
    refine ⟨_, rfl, p, _, _, _, rfl, rfl, t3.seqT ph, rfl, _, rfl, l2, lc, cl, rfl, h2.mono t3, hC.mono s13, fun H4 s4 => ⟨_, rfl, iteF ?_⟩⟩
    have t4 := t3.trans s4
    have s14 := s13.trans s4
    have ph4 := t4 _ _ hp
    have h04 := t4 _ _ h0
    obtain ⟨qs1, hl1, _⟩ := h1
    obtain ⟨qs2, hl2, _⟩ := h2
    have h14 := t4 _ _ hl1
    have h24 := t4 _ _ hl2
    have np0 : p ≠ l0 := ne_obj ph4 h04 (fun e => by cases e)
    have np1 : p ≠ l1 := ne_obj ph4 h14 (fun e => by cases e)
    refine ⟨_, rfl, p, _, _, _, rfl, rfl, SqT.of ph4, rfl, .inl ⟨rfl, _, SqL.of h04⟩, l0, _, rfl, rfl, h04, ?_⟩
    have pA : SqT K (upd H4 l0 (.lst [])) p [.ref l0, .ref l1, .ref l2] := SqT.of (by rw [upd_ne np0]; exact ph4)
    have hA : (upd H4 l0 (.lst [])) l1 = some (.lst (qs1.map V.ref)) := by rw [upd_ne n01.symm]; exact h14
    refine ⟨_, rfl, p, _, _, _, rfl, rfl, pA, rfl, .inl ⟨rfl, _, SqL.of hA⟩, l1, _, rfl, rfl, hA, ?_⟩
    have pB : SqT K (upd (upd H4 l0 (.lst [])) l1 (.lst [])) p [.ref l0, .ref l1, .ref l2] := SqT.of (by rw [upd_ne np1, upd_ne np0]; exact ph4)
    have hB : (upd (upd H4 l0 (.lst [])) l1 (.lst [])) l2 = some (.lst (qs2.map V.ref)) := by rw [upd_ne n12.symm, upd_ne n02.symm]; exact h24
    refine ⟨_, rfl, p, _, _, _, rfl, rfl, pB, rfl, .inl ⟨rfl, _, SqL.of hB⟩, l2, _, rfl, rfl, hB, ?_⟩
    refine k _ fun b o e => ?_
    rw [upd_ne (ne_of_none e nl2), upd_ne (ne_of_none e nl1), upd_ne (ne_of_none e nl0)]
    exact s14 _ _ e
def spPart37 (K : PySem.W.Frag) : Sp := fun vs H Q _ => ∃ (wd : Str) (l : Addr) (ns : List Int), vs = [.str wd, .ref l] ∧ (SqL K H l (ns.map V.int) ∨ SqT K H l (ns.map V.int)) ∧ (∀ n ∈ ns, TX.Wr n) ∧ ns.length ≤ 12 ∧ wd.length ≤ 60 ∧ ∀ H', Same H H' → Q (.str (TX.partOf wd ns)) H'
theorem log_wr {n : Int} (h : TX.Wr n) : n.natAbs.log2 < 1920 := by
  have h1 : n.natAbs < 2 ^ 1920 := by
    have : (n.natAbs : Int) < 10 ^ 60 := by rw [Int.natAbs_of_nonneg h.1]; exact h.2
    have : n.natAbs < 10 ^ 60 := by exact_mod_cast this
    exact Nat.lt_trans this (by decide +kernel)
  by_cases z : n.natAbs = 0
  · rw [z]; decide
  · exact (Nat.log2_lt z).mpr h1
theorem ok_w_part {t : Ad} (T : Txt K mg t) : FnOk P w K mg base CX0 1 t.f_w_part t.d_w_part ["_law_word", "_law_numbers_here"]  (spPart37 K) := by
  refine T.F_w_part.ok sc_w_part (fun vs H Q E h => ?_) (fun cdv A outer s H vs Q E hr h => ?_)
  · obtain ⟨_, _, _, rfl, _⟩ := h; rfl
  · obtain ⟨wd, l, ns, rfl, hq, hn, h12, hw, k⟩ := h
    refine ⟨_, (pss_one (ps_ret (pe_bm PySem.F.plainAttrs_str PySem.F.slot_str_join PySem.F.type_str_join mt_join pe_str (pa_c (pe_op op_cat (pe_lst (pa_c (pv 0) pa_nil)) (pe_comp (compOk_of (dsc := defScope s_w_part) (N0 := ["_law_word", "_law_numbers_here"]) (N2 := ["_law_number_here"]) (cap := [none]) rfl rfl (by decide +kernel)) rfl (pi_alt (pi_list (pv 1)) (pi_tup (pv 1))) (fun _ _ _ _ => by exact (pg_name (i := 0) nd_w_part_c0 rfl (Or.inl rfl))) (fun _ _ _ _ => by exact pts_nil) (fun _ _ _ _ => by exact (pe_callTy call_str_int (by rfl) T.n_str boot_str (pa_c (pv 0) pa_nil))))) pa_nil)))), ?_⟩
    refine ⟨rfl, _, rfl, (by show 1 ≤ sizeLine; decide), fun l1 hl1 => ?_⟩
    have u1 := Same.new (o := .lst [V.str wd]) hl1
    have h11 := upd_same (H := H) (a := l1) (o := .lst [V.str wd])
    generalize upd H l1 (.lst [V.str wd]) = H1 at u1 h11
    have fin : ∀ acc H2, Same H1 H2 → H2 acc = some (.lst (strsV (ns.map TX.num))) → rCat (.ref l1) (.ref acc) H2 (fun v H3 => rJoin K (.str TX.sep1) [v] H3 Q) := fun acc H2 s2 hy => by
      refine ⟨l1, acc, _, _, rfl, rfl, s2 _ _ h11, hy, (by simp only [List.length_map, List.length_cons, List.length_nil]; exact small0 (by omega)), fun l3 hl3 => ?_⟩
      refine ⟨_, l3, TX.wordsOf wd ns, rfl, rfl, SqL.of upd_same, ?_, k _ ((u1.trans s2).trans (Same.new hl3))⟩
      have := TX.words_sum hw hn
      have : (ns.length + 1) * 61 ≤ 13 * 61 := Nat.mul_le_mul_right _ (by omega)
      omega
    have el : (ns.map V.int).length = ns.length := List.length_map _
    have good : ∀ {i : Nat} {x : V}, (ns.map V.int)[i]? = some x → ∃ hi : i < ns.length, x = .int ns[i] := fun {i x} hx => by
      have hi := (List.getElem?_eq_some_iff.mp hx).1
      rw [List.length_map] at hi
      refine ⟨hi, ?_⟩
      rw [List.getElem?_map, List.getElem?_eq_getElem hi] at hx
      exact (Option.some.inj hx).symm
    rcases hq with hq | hq
    · have hq1 := u1.seq hq
      refine .inl ⟨_, rfl, l, rfl, ⟨_, hq1⟩, fun acc hacc => ?_⟩
      refine comp_at (fun i => ns[i]?.map fun n => V.str (TX.num n)) hacc hq1 (by omega) (fun i x H2 R S hx s2 h1 h2 => ?_) (fun H2 s2 hy => ?_)
      · obtain ⟨hi, rfl⟩ := good hx
        exact ⟨_, rfl, _, rfl, log_wr (hn _ (List.getElem_mem hi)), h1 _ _ (Same.refl _) (by rw [List.getElem?_eq_getElem hi]; rfl)⟩
      · rw [el, range_maps] at hy
        exact fin acc H2 s2 (by rw [hy, strsV, List.map_map]; rfl)
    · have hq1 := u1.seqT hq
      refine .inr ⟨_, rfl, l, rfl, ⟨_, hq1⟩, fun acc hacc => ?_⟩
      refine comp_opt (n := ns.length) (fun i => (ns.map V.int).getD i .non) (fun i => ns[i]?.map fun n => V.str (TX.num n)) hacc (fun i H hi s => itt_go hq1 i H (by omega) s) (fun H s => by have := itt_stop hq1 H s; rwa [el] at this) (fun i H2 x H3 hi s2 hx => ?_) (by omega) (fun i H2 R S hi s2 h1 h2 => ?_) (fun H2 s2 hy => ?_)
      · obtain ⟨rfl, hx⟩ := hx
        have hx := hx _ (s2.seqT hq1)
        exact ⟨rfl, by rw [List.getD_eq_getElem?_getD, hx]; rfl⟩
      · have e : (ns.map V.int).getD i .non = .int ns[i] := by rw [List.getD_eq_getElem?_getD, List.getElem?_map, List.getElem?_eq_getElem hi]; rfl
        rw [e]
        exact ⟨_, rfl, _, rfl, log_wr (hn _ (List.getElem_mem hi)), h1 _ _ (Same.refl _) (by rw [List.getElem?_eq_getElem hi]; rfl)⟩
      · rw [range_maps] at hy
        exact fin acc H2 s2 (by rw [hy, strsV, List.map_map]; rfl)
end
end K37

set_option Elab.async false
set_option linter.all false
set_option maxRecDepth 100000
set_option maxHeartbeats 4000000
namespace K37
open PySem L2 TW PyProof.Rows
open RM (rowV byV byV_non byV_int)
seal L2.PE L2.PA L2.PT L2.PW L2.PS L2.PSs L2.PG L2.PGs L2.PI L2.PTs
section
variable {P : Program} {w : World} {K : PySem.W.Frag} {mg : Str → Option Value} {base : Heap}
def spLaw (K : PySem.W.Frag) : Sp := fun vs H Q _ => ∃ (a : Addr) (ns : List Int), vs = [.ref a] ∧ SqL K H a (ns.map V.int) ∧ ns.length ≤ 63 ∧ ∀ H', Q (.bl true) H'
theorem ok_law {t : Ad} (T : Txt K mg t) : FnOk P w K mg base CX0 5 t.f_law t.d_law ["_law_script"]  (spLaw K) := by
  refine T.F_law.ok sc_law (fun vs H Q E h => ?_) (fun cdv A outer s H vs Q E hr h => ?_)
  · obtain ⟨a, ns, rfl, _⟩ := h; rfl
  · obtain ⟨a, cs, rfl, hS, hlen, k⟩ := h
    refine ⟨_, (pss_cons (ps_set (i := 1) sc_law.nd rfl (Or.inl rfl) (pe_call (ok_w_cell_at T) (hr.mono (by decide)) rfl T.g_w_cell_at T.F_w_cell_at.kp T.B_w_cell_at .nil pass0 (pa_c (pv 0) (pa_c pe_int pa_nil))))
      (pss_cons (ps_set (i := 2) sc_law.nd rfl (Or.inl rfl) (pe_lst (pa_c (pe_call (ok_w_number T) (hr.mono (by decide)) rfl T.g_w_number T.F_w_number.kp T.B_w_number .nil pass0 (pa_c (pe_op op_fdiv (pv 1) pe_int) (pa_c pe_int pa_nil))) pa_nil)))
      (pss_cons (ps_for PassesOwn.never rfl (pi_range1 rfl T.n_range (pa_c (pe_op op_mod (pv 1) pe_int) pa_nil)) (pg_name (i := 3) sc_law.nd rfl (Or.inl rfl)) (pss_one (ps_expr (pe_bm PySem.F.plainAttrs_list PySem.F.slot_list_append PySem.F.type_list_append mt_append (pv 2) (pa_c (pe_call (ok_w_number T) (hr.mono (by decide)) rfl T.g_w_number T.F_w_number.kp T.B_w_number .nil pass0 (pa_c (pe_call (ok_w_cell_at T) (hr.mono (by decide)) rfl T.g_w_cell_at T.F_w_cell_at.kp T.B_w_cell_at .nil pass0 (pa_c (pv 0) (pa_c (pv 3) pa_nil))) (pa_c (pe_op op_add (pv 3) pe_int) pa_nil))) pa_nil)))))
      (pss_cons (ps_set (i := 4) sc_law.nd rfl (Or.inl rfl) (pe_lst pa_nil))
      (pss_cons (ps_set (i := 5) sc_law.nd rfl (Or.inl rfl) (pe_lst pa_nil))
      (pss_cons (ps_for PassesOwn.never rfl (pi_list (pe_slice sl_list (pv 0) (po_some pe_int) (po_some pe_int))) (pg_name (i := 6) sc_law.nd rfl (Or.inr rfl)) (pss_one (ps_if (pt_cmpR op_eq (pe_op op_mod (pv 6) pe_int) pe_int (nomark _)) (pss_one (ps_expr (pe_bm PySem.F.plainAttrs_list PySem.F.slot_list_append PySem.F.type_list_append mt_append (pv 5) (pa_c (pe_tup (pa_c (pe_call (ok_w_number T) (hr.mono (by decide)) rfl T.g_w_number T.F_w_number.kp T.B_w_number .nil pass0 (pa_c (pe_op op_fdiv (pv 6) pe_int) (pa_c pe_int pa_nil))) (pa_c (pe_call (ok_w_number T) (hr.mono (by decide)) rfl T.g_w_number T.F_w_number.kp T.B_w_number .nil pass0 (pa_c (pe_op op_fdiv (pv 6) pe_int) (pa_c pe_int pa_nil))) pa_nil))) pa_nil)))) (pss_one (ps_expr (pe_bm PySem.F.plainAttrs_list PySem.F.slot_list_append PySem.F.type_list_append mt_append (pv 4) (pa_c (pe_callTy call_tuple_of (by rfl) T.n_tuple boot_tuple (pa_c (pe_comp (compOk_of (dsc := defScope s_law) (N0 := ["_law_script", "_law_first", "_law_names", "_law_k", "_law_ropes", "_law_callers", "_law_cell", "_law_told", "_law_text"]) (N2 := ["_law_k", "_law_cell"]) (cap := [none, some 6]) rfl rfl (by decide +kernel)) rfl (pi_range1 rfl T.n_range (pa_c pe_int pa_nil)) (fun _ _ _ _ => by exact (pg_name (i := 0) nd_law_c0 rfl (Or.inl rfl))) (fun _ _ _ _ => by exact pts_nil) (fun _ _ _ _ => by exact (pe_call (ok_w_number T) (hr.mono (by decide)) rfl T.g_w_number T.F_w_number.kp T.B_w_number .nil pass0 (pa_c (pe_op op_fdiv (pv 1) pe_int) (pa_c (pv 0) pa_nil))))) pa_nil)) pa_nil)))))))
      (pss_cons (ps_set (i := 7) sc_law.nd rfl (Or.inl rfl) (pe_op op_cat (pe_lst (pa_c (pe_call (ok_w_part T) (hr.mono (by decide)) rfl T.g_w_part T.F_w_part.kp T.B_w_part .nil pass0 (pa_c pe_str (pa_c (pv 2) pa_nil))) pa_nil)) (pe_comp (compOk_of (dsc := defScope s_law) (N0 := ["_law_script", "_law_first", "_law_names", "_law_k", "_law_ropes", "_law_callers", "_law_cell", "_law_told", "_law_text"]) (N2 := ["_law_rope"]) (cap := [none]) rfl rfl (by decide +kernel)) rfl (pi_list (pv 4)) (fun _ _ _ _ => by exact (pg_name (i := 0) nd_law_c1 rfl (Or.inl rfl))) (fun _ _ _ _ => by exact pts_nil) (fun _ _ _ _ => by exact (pe_call (ok_w_part T) (hr.mono (by decide)) rfl T.g_w_part T.F_w_part.kp T.B_w_part .nil pass0 (pa_c pe_str (pa_c (pv 0) pa_nil)))))))
      (pss_cons (ps_set (i := 8) sc_law.nd rfl (Or.inl rfl) (pe_bm PySem.F.plainAttrs_str PySem.F.slot_str_join PySem.F.type_str_join mt_join pe_str (pa_c (pe_op op_cat (pv 7) (pe_comp (compOk_of (dsc := defScope s_law) (N0 := ["_law_script", "_law_first", "_law_names", "_law_k", "_law_ropes", "_law_callers", "_law_cell", "_law_told", "_law_text"]) (N2 := ["_law_caller"]) (cap := [none]) rfl rfl (by decide +kernel)) rfl (pi_list (pv 5)) (fun _ _ _ _ => by exact (pg_name (i := 0) nd_law_c2 rfl (Or.inl rfl))) (fun _ _ _ _ => by exact pts_nil) (fun _ _ _ _ => by exact (pe_call (ok_w_part T) (hr.mono (by decide)) rfl T.g_w_part T.F_w_part.kp T.B_w_part .nil pass0 (pa_c pe_str (pa_c (pv 0) pa_nil)))))) pa_nil)))
      (pss_cons (ps_if (PW.pt (pw_or (pt_not (pt_val (pe_call (ok_w_read T) (hr.mono (by decide)) rfl T.g_w_read T.F_w_read.kp T.B_w_read .nil pass0 (pa_c (pv 8) (pa_c (pv 2) (pa_c (pv 4) (pa_c (pv 5) pa_nil))))))) (pw_or1 (pt_not (pt_val (pe_call (ok_w_read T) (hr.mono (by decide)) rfl T.g_w_read T.F_w_read.kp T.B_w_read .nil pass0 (pa_c (pv 8) (pa_c (pv 2) (pa_c (pv 4) (pa_c (pv 5) pa_nil)))))))))) (pss_one (ps_ret pe_bl)) pss_nil)
      (pss_one (ps_ret (pe_call (ok_w_numbers T) (hr.mono (by decide)) rfl T.g_w_numbers T.F_w_numbers.kp T.B_w_numbers .nil pass0 (pa_c (pe_comp (compOk_of (dsc := defScope s_law) (N0 := ["_law_script", "_law_first", "_law_names", "_law_k", "_law_ropes", "_law_callers", "_law_cell", "_law_told", "_law_text"]) (N2 := ["_law_name"]) (cap := [none]) rfl rfl (by decide +kernel)) rfl (pi_list (pv 2)) (fun _ _ _ _ => by exact (pg_name (i := 0) nd_law_c3 rfl (Or.inl rfl))) (fun _ _ _ _ => by exact pts_nil) (fun _ _ _ _ => by exact (pe_call (ok_read_number T) (hr.mono (by decide)) rfl T.g_read_number T.F_read_number.kp T.B_read_number .nil pass0 (pa_c (pe_callTy call_str_int (by rfl) T.n_str boot_str (pa_c (pv 0) pa_nil)) pa_nil)))) (pa_c (pv 2) pa_nil)))))))))))))), ?_⟩
    refine ⟨_, rfl, a, cs, 0, rfl, hS, by decide, ?_⟩
    show gName 1 (V.int (cs.getD (0 : Int).toNat 0)) _ _ _
    generalize cs.getD (0 : Int).toNat 0 = f
    refine ⟨_, rfl, _, _, rfl, rfl, ⟨by decide, by decide⟩, _, _, rfl, by decide, by decide, fun x0 hx0 => ⟨(by show 1 ≤ sizeLine; decide), fun ln hln => ?_⟩⟩
    have u1 := Same.new (o := .lst [V.int x0]) hln
    have h11 : (upd H ln (.lst [V.int x0])) ln = some (.lst (([x0] : List Int).map V.int)) := upd_same
    generalize upd H ln (.lst [V.int x0]) = H1 at u1 h11
    -- the names
    have r0 := Int.emod_nonneg f (show (12 : Int) ≠ 0 by decide)
    have r1 := Int.emod_lt_of_pos f (show (0 : Int) < 12 by decide)
    obtain ⟨m, hm⟩ : ∃ m : Nat, f % 12 = (m : Int) := ⟨(f % 12).toNat, by omega⟩
    refine ⟨_, rfl, _, _, rfl, rfl, (by show (0 : Int) < 12; decide), (m : Int), (by show [V.int (f % 12)] = _; rw [hm]), by omega, by omega, ?_⟩
    refine for_range (n := m) (fun i σ H2 => Same H H2 ∧ ∃ (nm : List Int) (v3 : Option V), σ = [some (.ref a), some (.int f), some (.ref ln), v3, none, none, none, none, none] ∧ H2 ln = some (.lst (nm.map V.int)) ∧ nm.length = i + 1 ∧ ∀ n ∈ nm, TX.Wr n)
      ⟨u1, [x0], none, rfl, h11, rfl, fun n hn => by rw [List.mem_singleton.mp hn]; exact hx0⟩ ?_ ?_
    · rintro i σ H2 hi ⟨s2, nm, v3, rfl, h2, el, hw⟩
      rw [Int.zero_add]
      refine ⟨_, rfl, .inl ⟨rfl, _, SqL.of h2⟩, _, rfl, _, rfl, a, cs, (i : Int), rfl, s2.seq hS, by omega, _, rfl, _, _, rfl, rfl, _, _, rfl, by omega, by omega, fun x hx => ?_⟩
      refine ⟨ln, _, _, rfl, rfl, h2, (by rw [List.length_map]; exact small1000 (by omega)), s2.out hln, nm ++ [x], _, rfl, ?_, by rw [List.length_append, el]; rfl, fun n hn => ?_⟩
      · rw [upd_same, List.map_append]; rfl
      · rcases List.mem_append.mp hn with z | z
        · exact hw n z
        · rw [List.mem_singleton.mp z]; exact hx
    rintro σ H2 ⟨s2, nm, v3, rfl, h2, el, hw⟩
    clear h11 u1
    -- ropes and callers
    refine ⟨Nat.zero_le _, fun lr hlr => ?_⟩
    have u3 := Same.new (o := .lst []) hlr
    have hr3 := upd_same (H := H2) (a := lr) (o := .lst [])
    have nnr : ln ≠ lr := ne_of_none h2 hlr
    have h23 := u3 _ _ h2
    have s3 := s2.trans u3
    have nlr := s2.free hlr
    generalize upd H2 lr (.lst []) = H3 at u3 hr3 h23 s3
    refine ⟨Nat.zero_le _, fun lk hlk => ?_⟩
    have u4 := Same.new (o := .lst []) hlk
    have hk4 := upd_same (H := H3) (a := lk) (o := .lst [])
    have nnk : ln ≠ lk := ne_of_none h23 hlk
    have nrk : lr ≠ lk := ne_of_none hr3 hlk
    have h24 := u4 _ _ h23
    have hr4 := u4 _ _ hr3
    have s4 := s3.trans u4
    have nlk := s3.free hlk
    generalize upd H3 lk (.lst []) = H4 at u4 hk4 h24 hr4 s4
    clear u3 u4 s2 s3 h2 h23 hr3
    refine ⟨_, rfl, _, rfl, _, rfl, a, _, rfl, s4.seq hS, fun lc hlc => ?_⟩
    obtain ⟨ys, eys, lys⟩ : ∃ ys : List Int, cutV (cs.map V.int) (some 1) (some 25) = ys.map V.int ∧ ys.length ≤ 24 := by
      have e1 := cutV_length (cs.map V.int) (some 1) (some 25)
      obtain ⟨ys, e, hb⟩ := cut_ints cs 1 25
      exact ⟨ys, e, by have := hb; omega⟩
    rw [eys]
    have u5 := Same.new (o := .lst (ys.map V.int)) hlc
    have hlc5 := upd_same (H := H4) (a := lc) (o := .lst (ys.map V.int))
    have ncr : lc ≠ lr := (ne_of_none hr4 hlc).symm
    have nck : lc ≠ lk := (ne_of_none hk4 hlc).symm
    have h25 := u5 _ _ h24
    have hr5 := u5 _ _ hr4
    have hk5 := u5 _ _ hk4
    have s5 := s4.trans u5
    generalize upd H4 lc (.lst (ys.map V.int)) = H5 at u5 hlc5 h25 hr5 hk5 s5
    clear u5 s4 h24 hr4 hk4
    refine ⟨lc, rfl, ⟨_, SqL.of hlc5⟩, for_list (K := K) (a := lc) (xs := ys.map V.int) (fun i σ H6 => (∀ b o, H5 b = some o → b ≠ lr → b ≠ lk → H6 b = some o) ∧ ∃ (rs cl : List (List Int)) (v3 v6 : Option V), TL K H6 lr rs ∧ TL K H6 lk cl ∧ rs.length ≤ i ∧ cl.length ≤ i ∧ (∀ r ∈ rs, r.length = 5 ∧ ∀ n ∈ r, TX.Wr n) ∧ (∀ r ∈ cl, r.length = 2 ∧ ∀ n ∈ r, TX.Wr n) ∧ σ = [some (.ref a), some (.int f), some (.ref ln), v3, some (.ref lr), some (.ref lk), v6, none, none])
      ⟨fun b o e _ _ => e, [], [], _, _, ⟨[], hr5, TupsAt.nil⟩, ⟨[], hk5, TupsAt.nil⟩, Nat.le_refl _, Nat.le_refl _, fun r hr' => (by cases hr'), fun r hr' => (by cases hr'), rfl⟩ (fun i σ H6 _ z => SqL.of (z.1 _ _ hlc5 ncr nck)) ?_ ?_⟩
    · rintro i y σ H6 hi ⟨kp, rs, cl, v3', v6, hR, hC, er, ec, wr, wc, rfl⟩
      have hil := (List.getElem?_eq_some_iff.mp hi).1
      rw [List.length_map] at hil
      obtain ⟨c, _, rfl⟩ := List.mem_map.mp (List.mem_of_getElem? hi)
      refine ⟨_, rfl, _, _, rfl, rfl, (by show (0 : Int) < 3; decide), rfl, _, rfl, ite2 (fun e => ?_) (fun e => ?_)⟩
      · obtain ⟨qs, hlk6, hqs⟩ := hC
        refine ⟨_, rfl, .inl ⟨rfl, _, SqL.of hlk6⟩, _, rfl, _, _, rfl, rfl, ⟨by decide, by decide⟩, _, _, rfl, by decide, by decide, fun x1 hx1 => ?_⟩
        refine ⟨_, rfl, _, _, rfl, rfl, ⟨by decide, by decide⟩, _, _, rfl, by decide, by decide, fun x2 hx2 => ⟨(by show 2 ≤ sizeLine; decide), fun q7 hq7 => ?_⟩⟩
        have u7 := Same.new (o := .tup [V.int x1, .int x2]) hq7
        have h77 : (upd H6 q7 (.tup [V.int x1, .int x2])) q7 = some (.tup (([x1, x2] : List Int).map V.int)) := upd_same
        generalize upd H6 q7 (.tup [V.int x1, .int x2]) = H7 at u7 h77
        have hlk7 := u7 _ _ hlk6
        have hqs7 := hqs.mono u7
        refine ⟨lk, _, _, rfl, rfl, hlk7, (by rw [List.length_map, hqs.len]; exact small1000 (by omega)), ?_⟩
        refine ⟨fun b o e n1 n2 => by rw [upd_ne n2]; exact u7 _ _ (kp b o e n1 n2), rs, cl ++ [[x1, x2]], _, _, (hR.mono u7).past hlk7 nt_lst nrk upd_keep, TL.push hlk7 hqs7 (SqT.of h77), Nat.le_succ_of_le er, ?_, wr, fun r hr' => ?_, rfl⟩
        · rw [List.length_append]; exact Nat.succ_le_succ ec
        · rcases List.mem_append.mp hr' with z | z
          · exact wc r z
          · rw [List.mem_singleton.mp z]
            refine ⟨rfl, fun n hn => ?_⟩
            rcases List.mem_cons.mp hn with rfl | hn
            · exact hx1
            · rw [List.mem_singleton.mp hn]; exact hx2
      · obtain ⟨qs, hlr6, hqs⟩ := hR
        refine ⟨_, rfl, .inl ⟨rfl, _, SqL.of hlr6⟩, ?_⟩
        refine ⟨(5 : Int), rfl, by omega, by omega, fun acc hacc => ?_⟩
        refine comp_by (n := (5 : Int).toNat) (fun i ys _ => ∃ xs : List Int, ys = xs.map V.int ∧ xs.length = i ∧ ∀ x ∈ xs, TX.Wr x) hacc itr_go itr_stop ⟨[], rfl, rfl, fun x hx => by cases hx⟩ ?_ ?_
        · rintro j zs H7 hj s7 hy ⟨xs, rfl, ex, hx⟩ v H8 ⟨rfl, rfl⟩
          rw [Int.zero_add]
          have hj5 : j < 5 := hj
          refine ⟨_, rfl, _, _, rfl, rfl, ⟨by decide, by decide⟩, _, rfl, _, _, rfl, by omega, by omega, fun x hx' => ?_⟩
          refine comp_add hacc hj s7 hy (by rw [List.length_map]; exact small1000 (by omega)) ⟨xs ++ [x], by rw [List.map_append]; rfl, by rw [List.length_append, ex]; rfl, fun n hn => ?_⟩
          rcases List.mem_append.mp hn with z | z
          · exact hx n z
          · rw [List.mem_singleton.mp z]; exact hx'
        · rintro zs H7 s7 hy ⟨xs, rfl, ex, hx⟩
          refine ⟨acc, _, rfl, .inl ⟨SqL.of hy, fun q8 hq8 => ?_⟩⟩
          have u8 := Same.new (o := .tup (xs.map V.int)) hq8
          have h88 := upd_same (H := H7) (a := q8) (o := .tup (xs.map V.int))
          generalize upd H7 q8 (.tup (xs.map V.int)) = H8 at u8 h88
          have s68 := s7.trans u8
          have hlr8 := s68 _ _ hlr6
          have hqs8 := hqs.mono s68
          refine ⟨lr, _, _, rfl, rfl, hlr8, (by rw [List.length_map, hqs.len]; exact small1000 (by omega)), ?_⟩
          refine ⟨fun b o e n1 n2 => by rw [upd_ne n1]; exact s68 _ _ (kp b o e n1 n2), rs ++ [xs], cl, _, _, TL.push hlr8 hqs8 (SqT.of h88), (hC.mono s68).past hlr8 nt_lst nrk.symm upd_keep, ?_, Nat.le_succ_of_le ec, fun r hr' => ?_, wc, rfl⟩
          · rw [List.length_append]; exact Nat.succ_le_succ er
          · rcases List.mem_append.mp hr' with z | z
            · exact wr r z
            · rw [List.mem_singleton.mp z]
              exact ⟨ex, hx⟩
    rintro σ H6 ⟨kp, rs, cl, v3', v6, hR, hC, er, ec, wr, wc, rfl⟩
    rw [List.length_map] at er ec
    have hN6 := kp _ _ h25 nnr nnk
    have G : Good37 nm rs cl := ⟨hw, fun r hr' => (wr r hr').2, fun r hr' => (wc r hr').2, by omega, by omega, fun r hr' => (wr r hr').1, fun r hr' => (wc r hr').1, by omega, by omega⟩
    clear wr wc hr5 hk5 h25 hlc5 kp s5
    -- the text
    refine ⟨_, rfl, _, ln, nm, rfl, .inl (SqL.of hN6), G.h1, G.l1, (by decide +kernel), fun H7 s7 => ⟨(by show 1 ≤ sizeLine; decide), fun l8 hl8 => ?_⟩⟩
    have u8 := Same.new (o := .lst [V.str (TX.partOf "names" nm)]) hl8
    have h88 := upd_same (H := H7) (a := l8) (o := .lst [V.str (TX.partOf "names" nm)])
    generalize upd H7 l8 (.lst [V.str (TX.partOf "names" nm)]) = H8 at u8 h88
    have s68 := s7.trans u8
    obtain ⟨qr, hlr8, hqr⟩ := hR.mono s68
    obtain ⟨qc, hlk8, hqc⟩ := hC.mono s68
    have hR8 : TL K H8 lr rs := ⟨qr, hlr8, hqr⟩
    have hC8 : TL K H8 lk cl := ⟨qc, hlk8, hqc⟩
    have hN8 := s68 _ _ hN6
    refine ⟨_, rfl, lr, rfl, ⟨_, SqL.of hlr8⟩, fun acc hacc => ?_⟩
    have eqr : (qr.map V.ref).length = rs.length := by rw [List.length_map, hqr.len]
    refine comp_at (fun i => rs[i]?.map fun r => V.str (TX.partOf "rope" r)) hacc (SqL.of hlr8) (by have := G.m2; omega) (fun i x H9 R S hx s9 h1 h2 => ?_) (fun H9 s9 hy => ?_)
    · obtain ⟨q, xs, rfl, eq, exs, hq⟩ := hqr.get hx
      have hm : xs ∈ rs := List.mem_of_getElem? exs
      exact ⟨_, rfl, _, q, xs, rfl, .inr (s9.seqT hq), G.h2 _ hm, (by rw [G.l2 _ hm]; decide), (by decide +kernel), fun H10 s10 => h1 _ _ s10 (by rw [exs]; rfl)⟩
    rw [eqr, range_maps] at hy
    refine ⟨l8, acc, _, _, rfl, rfl, s9 _ _ h88, hy, (by simp only [List.length_map, List.length_cons, List.length_nil]; exact small0 (by have := G.m2; omega)), fun l10 hl10 => ?_⟩
    have u10 := Same.new (o := .lst ([V.str (TX.partOf "names" nm)] ++ rs.map fun r => V.str (TX.partOf "rope" r))) hl10
    have h10 := upd_same (H := H9) (a := l10) (o := .lst ([V.str (TX.partOf "names" nm)] ++ rs.map fun r => V.str (TX.partOf "rope" r)))
    generalize upd H9 l10 (.lst ([V.str (TX.partOf "names" nm)] ++ rs.map fun r => V.str (TX.partOf "rope" r))) = H10 at u10 h10
    have s810 := s9.trans u10
    -- joined
    refine ⟨rfl, _, rfl, _, rfl, lk, rfl, ⟨_, SqL.of (s810 _ _ hlk8)⟩, fun acc2 hacc2 => ?_⟩
    have eqc : (qc.map V.ref).length = cl.length := by rw [List.length_map, hqc.len]
    refine comp_at (fun i => cl[i]?.map fun r => V.str (TX.partOf "caller" r)) hacc2 (SqL.of (s810 _ _ hlk8)) (by have := G.m3; omega) (fun i x H11 R S hx s11 h1 h2 => ?_) (fun H11 s11 hy2 => ?_)
    · obtain ⟨q, xs, rfl, eq, exs, hq⟩ := hqc.get hx
      have hm : xs ∈ cl := List.mem_of_getElem? exs
      exact ⟨_, rfl, _, q, xs, rfl, .inr ((s810.trans s11).seqT hq), G.h3 _ hm, (by rw [G.l3 _ hm]; decide), (by decide +kernel), fun H12 s12 => h1 _ _ s12 (by rw [exs]; rfl)⟩
    rw [eqc, range_maps] at hy2
    refine ⟨l10, acc2, _, _, rfl, rfl, s11 _ _ h10, hy2, (by simp only [List.length_map, List.length_append, List.length_cons, List.length_nil]; exact small0 (by have := G.m2; have := G.m3; omega)), fun l12 hl12 => ?_⟩
    have ept : ([V.str (TX.partOf "names" nm)] ++ rs.map fun r => V.str (TX.partOf "rope" r)) ++ (cl.map fun r => V.str (TX.partOf "caller" r)) = strsV (TX.partsOf nm rs cl) := by
      simp [TX.partsOf, strsV, List.map_map, Function.comp_def]
    rw [ept]
    have u12 := Same.new (o := .lst (strsV (TX.partsOf nm rs cl))) hl12
    have s812 := (s810.trans s11).trans u12
    refine ⟨_, l12, TX.partsOf nm rs cl, rfl, rfl, SqL.of upd_same, Nat.le_trans G.sum (by decide), ?_⟩
    show gName 8 (V.str (TX.townText nm rs cl)) _ _ _
    generalize upd H11 l12 (.lst (strsV (TX.partsOf nm rs cl))) = H12 at u12 s812
    have hN12 := s812 _ _ hN8
    have hR12 := hR8.mono s812
    have hC12 := hC8.mono s812
    clear hN8 hR8 hC8 s812 u12
    refine ⟨_, rfl, _, rfl, _, rfl, _, rfl, ln, lr, lk, nm, rs, cl, rfl, G, SqL.of hN12, hR12, hC12, fun H13 s13 => ⟨_, rfl, iteF ?_⟩⟩
    refine ⟨_, rfl, _, rfl, _, rfl, _, rfl, ln, lr, lk, nm, rs, cl, rfl, G, SqL.of (s13 _ _ hN12), hR12.mono s13, hC12.mono s13, fun H14 s14 => ⟨_, rfl, iteF ?_⟩⟩
    have hN14 := s14 _ _ (s13 _ _ hN12)
    refine ⟨_, rfl, ln, rfl, ⟨_, SqL.of hN14⟩, fun acc3 hacc3 => ?_⟩
    have enm : (nm.map V.int).length = nm.length := List.length_map _
    refine comp_at (fun i => nm[i]?.map V.int) hacc3 (SqL.of hN14) (by omega) (fun i x H15 R S hx s15 h1 h2 => ?_) (fun H15 s15 hy3 => ?_)
    · have hi := (List.getElem?_eq_some_iff.mp hx).1
      rw [enm] at hi
      have ex : x = .int nm[i] := by
        rw [List.getElem?_map, List.getElem?_eq_getElem hi] at hx
        exact (Option.some.inj hx).symm
      subst ex
      have hwi := G.h1 _ (List.getElem_mem hi)
      exact ⟨_, rfl, _, rfl, log_wr hwi, nm[i], rfl, hwi, fun H16 s16 => h1 _ _ s16 (by rw [List.getElem?_eq_getElem hi]; rfl)⟩
    rw [enm, range_maps] at hy3
    exact ⟨_, rfl, acc3, ln, nm, rfl, .inl ⟨SqL.of hy3, SqL.of (s15 _ _ hN14)⟩, fun H16 s16 => k H16⟩
end
theorem walk {l : PySem.W.OpenLaw} {q : Program} {loose : List Str} {XP : (Str → Option Value) → Heap → Prop} {YP : World → Heap → Prop} {d : DefRec} {K : Params → PySem.W.Frag} (hn : l.most = some 63) (hdf : d.params.defaults = []) (hdn : d.name = "law")
    (hY : ∀ (w : World) (h : Heap), YP w h → (K w.params).In h)
    (F : ∀ (w : World) (mg : Str → Option Value) (h : Heap), (K w.params).In h → h.Ns mainGlobals mg → ∃ t, Txt (K w.params) mg t) :
    PySem.W.WalkO q loose XP YP l.row.toRowW d [] (fun f vs => PySem.call f vs) :=
  L2.walk_of (n := 63) (k := 5) (x := "_law_script") (CX := fun _ => CX0) (sp := fun w => spLaw (K w.params)) hn (by decide) hdf ⟨rfl, by decide, by decide⟩ hY
    (fun w mg fa h KX G hmg => by
      obtain ⟨t, T⟩ := F w mg h KX G
      rw [hdn] at hmg
      have e := hmg.symm.trans T.g_law
      cases e
      refine ⟨t.d_law, fun s v => ?_, fun base _ _ => ok_law T⟩
      obtain ⟨_, _, _, _, _, _, _, _, _, e, _⟩ := T.F_law.ex
      rw [e]
      exact .of_eq rfl)
    (fun _ _ a ns hl _ hS => ⟨a, ns, rfl, hS, hl, fun _ => rfl⟩) fun _ _ _ _ _ z => z
end K37

set_option Elab.async false
set_option linter.all false
open PySem PySem.W PyProof.Rows
set_option maxRecDepth 100000 in
set_option maxHeartbeats 0 in
theorem PySem.Challenge.cw_knotless_k37_town_read_holds : PySem.Challenge.rw_knotless_k37_town_read.Holds := by
  w_on; o_law; k_head; (case hw => w_witness2)
  k_fill
  refine K37.walk (l := PySem.Challenge.rw_knotless_k37_town_read) rfl rfl rfl (fun w h Y => PySem.W.kIn_of Y) ?F
  case F =>
    intro w mg h KX G
    refine' K37.txt_mk KX G ?a_read_number ?l_read_number ?c_read_number ?k_read_number ?a_read_numbers ?l_read_numbers ?c_read_numbers ?k_read_numbers ?a_read_town ?l_read_town ?c_read_town ?k_read_town ?a_read_names ?l_read_names ?c_read_names ?k_read_names ?a_w_cell_at ?l_w_cell_at ?c_w_cell_at ?k_w_cell_at ?a_w_whole ?l_w_whole ?c_w_whole ?k_w_whole ?a_w_number ?l_w_number ?c_w_number ?k_w_number ?a_w_numbers ?l_w_numbers ?c_w_numbers ?k_w_numbers ?a_w_tuples ?l_w_tuples ?c_w_tuples ?k_w_tuples ?a_w_read ?l_w_read ?c_w_read ?k_w_read ?a_w_part ?l_w_part ?c_w_part ?k_w_part ?a_law ?l_law ?c_law ?k_law ?g_FIGURES ?g_MOST_FIGURES ?g_ROPE_NUMBERS ?g_CALLER_NUMBERS ?z_len ?z_isinstance ?z_int ?z_bool ?z_list ?z_tuple ?z_range ?z_str ?z_all ?z_zip
    (case a_read_number => k_is)
    (case l_read_number => k_is)
    (case c_read_number => k_is)
    (case k_read_number => k_is)
    (case a_read_numbers => k_is)
    (case l_read_numbers => k_is)
    (case c_read_numbers => k_is)
    (case k_read_numbers => k_is)
    (case a_read_town => k_is)
    (case l_read_town => k_is)
    (case c_read_town => k_is)
    (case k_read_town => k_is)
    (case a_read_names => k_is)
    (case l_read_names => k_is)
    (case c_read_names => k_is)
    (case k_read_names => k_is)
    (case a_w_cell_at => k_is)
    (case l_w_cell_at => k_is)
    (case c_w_cell_at => k_is)
    (case k_w_cell_at => k_is)
    (case a_w_whole => k_is)
    (case l_w_whole => k_is)
    (case c_w_whole => k_is)
    (case k_w_whole => k_is)
    (case a_w_number => k_is)
    (case l_w_number => k_is)
    (case c_w_number => k_is)
    (case k_w_number => k_is)
    (case a_w_numbers => k_is)
    (case l_w_numbers => k_is)
    (case c_w_numbers => k_is)
    (case k_w_numbers => k_is)
    (case a_w_tuples => k_is)
    (case l_w_tuples => k_is)
    (case c_w_tuples => k_is)
    (case k_w_tuples => k_is)
    (case a_w_read => k_is)
    (case l_w_read => k_is)
    (case c_w_read => k_is)
    (case k_w_read => k_is)
    (case a_w_part => k_is)
    (case l_w_part => k_is)
    (case c_w_part => k_is)
    (case k_w_part => k_is)
    (case a_law => k_is)
    (case l_law => k_is)
    (case c_law => k_is)
    (case k_law => k_is)
    (case g_FIGURES => k_is)
    (case g_MOST_FIGURES => k_is)
    (case g_ROPE_NUMBERS => k_is)
    (case g_CALLER_NUMBERS => k_is)
    (case z_len => k_is)
    (case z_isinstance => k_is)
    (case z_int => k_is)
    (case z_bool => k_is)
    (case z_list => k_is)
    (case z_tuple => k_is)
    (case z_range => k_is)
    (case z_str => k_is)
    (case z_all => k_is)
    (case z_zip => k_is)
#print axioms PySem.Challenge.cw_knotless_k37_town_read_holds
