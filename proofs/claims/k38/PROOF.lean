import PyProof.Rows.All
import Wide.All
import OpenK.AllK
import Wide.FinOn
import Lean
import PyProof.EqAt
import PyProof.EqKinds
import PyProof.TupleCall
import PySem.Challenge.RW_knotless_k38_town_text_refused
set_option Elab.async false
set_option linter.all false
set_option maxRecDepth 100000
/-! THE HAND LAYER, for ints, bools, texts, own classes, LISTS and tuples (index, slices, in, append, pop ..), calls, loops. Paste it whole ahead of your own text; what your proof does not reach may be deleted. -/
namespace L2
open PySem PySem.Spec PyProof.Rows

/-- a key: an int or a str -/
abbrev Key := Sum Int Str
def keyIs : Key → Value → Bool
  | .inl k, v => Value.isInt k v
  | .inr x, v => Value.isStrOf x v
def keyH (w : World) : Key → Int
  | .inl k => hashInt k
  | .inr x => hashStr w x
theorem keyIs_shape : ∀ {k : Key} {v : Value}, keyIs k v = true → (∃ i t, k = Sum.inl i ∧ v = Value.int i t) ∨ (∃ x t, k = Sum.inr x ∧ v = Value.str x t)
  | .inl i, v, h => by
    obtain ⟨t, e⟩ := Value.isInt_shape (k := i) (v := v) h
    exact .inl ⟨i, t, rfl, e⟩
  | .inr x, v, h => by
    obtain ⟨t, e⟩ := Value.isStrOf_shape (x := x) (v := v) h
    exact .inr ⟨x, t, rfl, e⟩
theorem key_ll (a b : Int) : decide ((Sum.inl a : Key) = Sum.inl b) = (a == b) := by
  by_cases e : a = b
  · subst e; simp
  · have h : ¬ (Sum.inl a : Key) = Sum.inl b := fun q => e (Sum.inl.inj q)
    rw [decide_eq_false h]
    exact (beq_eq_false_iff_ne.mpr e).symm
theorem key_rr (a b : Str) : decide ((Sum.inr a : Key) = Sum.inr b) = decide (a = b) := by
  by_cases e : a = b
  · subst e; simp
  · have h : ¬ (Sum.inr a : Key) = Sum.inr b := fun q => e (Sum.inr.inj q)
    rw [decide_eq_false h, decide_eq_false e]
theorem key_lr (a : Int) (b : Str) : decide ((Sum.inl a : Key) = Sum.inr b) = false := decide_eq_false (fun q => nomatch q)
theorem key_rl (a : Str) (b : Int) : decide ((Sum.inr a : Key) = Sum.inl b) = false := decide_eq_false (fun q => nomatch q)

def mixKind (prog : Program) (w : World) : PySem.KeyKind prog w Key where
  is := keyIs
  hash := keyH w
  inj := fun v a b ha hb => by
    rcases keyIs_shape ha with ⟨i, t, rfl, rfl⟩ | ⟨x, t, rfl, rfl⟩
    · rcases keyIs_shape hb with ⟨j, u, rfl, e⟩ | ⟨y, u, rfl, e⟩
      · injection e with e1 _; rw [e1]
      · exact nomatch e
    · rcases keyIs_shape hb with ⟨j, u, rfl, e⟩ | ⟨y, u, rfl, e⟩
      · exact nomatch e
      · injection e with e1 _; rw [e1]
  byValue := fun k v h => by
    rcases keyIs_shape h with ⟨i, t, rfl, rfl⟩ | ⟨x, t, rfl, rfl⟩ <;> rfl
  pyHash := fun hv h => by
    rcases keyIs_shape hv with ⟨i, t, rfl, rfl⟩ | ⟨x, t, rfl, rfl⟩
    · exact wpAny_pyHash_int h
    · exact wpAny_pyHash_str h
  eqBool := fun hu hv h => by
    rcases keyIs_shape hu with ⟨i, t, rfl, rfl⟩ | ⟨x, t, rfl, rfl⟩
    · rcases keyIs_shape hv with ⟨j, u, rfl, rfl⟩ | ⟨y, u, rfl, rfl⟩
      · rw [key_ll] at h; exact wpAny_eqBool_int h
      · rw [key_lr] at h; exact SeqAt.EqAt.int_str i t y u _ _ _ _ h
    · rcases keyIs_shape hv with ⟨j, u, rfl, rfl⟩ | ⟨y, u, rfl, rfl⟩
      · rw [key_rl] at h; exact SeqAt.EqAt.str_int x t j u _ _ _ _ h
      · rw [key_rr] at h; exact wpAny_eqBool_str h
  «strs» := fun k x t v h => by
    rcases keyIs_shape h with ⟨i, u, rfl, e⟩ | ⟨y, u, rfl, e⟩
    · exact nomatch e
    · injection e with e1 _
      subst e1
      cases v <;> rfl

end L2

namespace L2
open PySem PySem.Spec PyProof.Rows

/-- a value, without the heap -/
inductive V where
  | non | bl (b : Bool) | int (i : Int) | str (x : Str) | byt (b : Array UInt8) | flt (b : UInt64) | ref (a : Addr) | ty (n : String)
  deriving DecidableEq

def RelV : V → Value → Prop
  | .non, u => u = Value.none
  | .bl b, u => u = Value.bool b
  | .int i, u => ∃ t, u = Value.int i t
  | .str x, u => ∃ t, u = Value.str x t
  | .byt b, u => ∃ t, u = Value.bytes b t
  | .flt b, u => ∃ t, u = Value.float b t
  | .ref a, u => u = Value.ref a
  | .ty n, u => u = Value.type n

abbrev Vals : List V → List Value → Prop := Paired RelV
theorem Vals.length {xs : List V} {us : List Value} (r : Vals xs us) : xs.length = us.length := Paired.length r
theorem Vals.get : ∀ {xs : List V} {us : List Value} {i : Nat} {x : V}, Vals xs us → xs[i]? = some x → ∃ u, us[i]? = some u ∧ RelV x u
  | _, _, _, _, .nil, e => by simp at e
  | _, _, 0, _, .cons r _, e => by simp at e; subst e; exact ⟨_, rfl, r⟩
  | _, _, i + 1, x, .cons _ t, e => by
    obtain ⟨u, h1, h2⟩ := Vals.get (i := i) (x := x) t (by simpa using e)
    exact ⟨u, by simpa using h1, h2⟩
theorem Vals.append : ∀ {xs ys : List V} {us ws : List Value}, Vals xs us → Vals ys ws → Vals (xs ++ ys) (us ++ ws)
  | _, _, _, _, .nil, s => s
  | _, _, _, _, .cons r t, s => .cons r (Vals.append t s)
theorem Vals.take : ∀ {xs : List V} {us : List Value} (n : Nat), Vals xs us → Vals (xs.take n) (us.take n)
  | _, _, 0, _ => .nil
  | _, _, _ + 1, .nil => .nil
  | _, _, n + 1, .cons r t => .cons r (Vals.take n t)
theorem Vals.drop : ∀ {xs : List V} {us : List Value} (n : Nat), Vals xs us → Vals (xs.drop n) (us.drop n)
  | _, _, 0, r => r
  | _, _, _ + 1, .nil => .nil
  | _, _, n + 1, .cons _ t => Vals.drop n t
def RelO : Option V → Option Value → Prop
  | some v, some u => RelV v u
  | none, none => True
  | _, _ => False
def KV {κ : Type} : List (κ × V) → List (κ × Value) → Prop := Paired fun (p : κ × V) (q : κ × Value) => p.1 = q.1 ∧ RelV p.2 q.2

/-- a key of a dict (00_mix): an int or a text -/
def kV : Key → V
  | .inl i => .int i
  | .inr x => .str x

/-- what stands at a tracked address -/
inductive HO where
  /-- a list -/
  | lst (xs : List V)
  /-- a tuple (never changes) -/
  | tup (xs : List V)
  /-- a dict whose keys are ints and texts; one whose keys are tuples of ints and texts (the empty one is both) -/
  | dK (kvs : List (Key × V)) | dT (kvs : List (List Key × V))
  /-- a set of ints: its members, its size -/
  | set (S : Int → Bool) (n : Nat)
  /-- an instance of the class at C, its dict at dx, its attributes -/
  | ins (C dx : Addr) (fs : List (Str × V))
  /-- the dict of the instance at x -/
  | own (x : Addr)
  /-- the dict of an exception -/
  | xd (fs : List (Str × V))
  /-- a bound method, f of x -/
  | met (f x : Addr)
  /-- a range object lo, lo + 1, .. below hi -/
  | rng (lo hi : Int)
  /-- a thing that is known to the object (the script; a dict while a loop walks it): read, never written while it is so -/
  | frz (o : Obj) (u : HO)
  /-- a code object's table -/
  | tbl (ps : Array Value)
  /-- any other thing, by what is true of its one object (a def of one's own: SetO a S n := HO.ext fun h => ..) -/
  | ext (φ : Heap → Prop)

abbrev Hp := Addr → Option HO
def upd (H : Hp) (a : Addr) (o : HO) : Hp := fun b => if b = a then some o else H b
theorem upd_same {H : Hp} {a : Addr} {o : HO} : upd H a o a = some o := by unfold upd; rw [if_pos rfl]
theorem upd_ne {H : Hp} {a b : Addr} {o : HO} (h : b ≠ a) : upd H a o b = H b := by unfold upd; rw [if_neg h]
theorem ne_of_none {H : Hp} {a b : Addr} {o : HO} (h : H a = some o) (h' : H b = none) : a ≠ b := by
  intro e; subst e; rw [h] at h'; cases h'

section
variable (P : Program) (w : World)
def ObjOk (H : Hp) (h : Heap) (a : Addr) : HO → Prop
  | .lst xs => xs.length ≤ sizeLine ∧ ∃ (its : List Value) (n : Nat), Vals xs its ∧ h.get? a = some { cls := .type "list", data := .seq its.toArray n }
  | .tup xs => xs.length ≤ sizeLine ∧ ∃ its : List Value, Vals xs its ∧ IsTup h a its.toArray
  | .dK kvs => kvs.length ≤ sizeLine ∧ (a == sysModules) = false ∧ ∃ vs, KV kvs vs ∧ h.DictOf (mixKind P w) a vs
  | .dT kvs => kvs.length ≤ sizeLine ∧ (a == sysModules) = false ∧ ∃ xs : List (List Key × Addr × Value),
      Paired (fun (p : List Key × V) (q : List Key × Addr × Value) => p.1 = q.1 ∧ H q.2.1 = some (.tup (p.1.map kV)) ∧ RelV p.2 q.2.2) kvs xs ∧
      ∃ o es ep, h.get? a = some o ∧ o.ExactDict ∧ o.data = .dict es ep ∧ es.toList = xs.map (entryOfKey (tupleKind (mixKind P w))) ∧ (xs.map (·.1)).Nodup
  | .set S n => h.SetOf (intKind P w) a S n
  | .ins C dx fs => H dx = some (.own a) ∧ fs.length ≤ 1000 ∧ dx ≠ a ∧ h.get? a = some (PySem.W.instObj C dx) ∧
      ∃ mA, h.Ns1 dx mA ∧ (∀ f, RelO (fs.lookup f) (mA f)) ∧ PySem.Within mA (fs.map (·.1))
  | .own _ => ∃ o, h.get? a = some o
  | .xd fs => ∃ mA, h.Ns1 a mA ∧ ∀ f, RelO (fs.lookup f) (mA f)
  | .rng lo hi => ∃ t u v, h.get? a = some { cls := .type "range", data := .fields #[.int lo t, .int hi u, .int 1 v] }
  | .frz o u => h.get? a = some o ∧ ObjOk H h a u
  | .tbl ps => h.get? a = some { cls := .none, data := .fields ps }
  | .met f x => h.get? a = some (PySem.W.methodObj (.ref f) (.ref x))
  | .ext φ => φ h ∧ (∃ o, h.get? a = some o) ∧ ∀ h1 h2 : Heap, φ h1 → (∀ o, h1.get? a = some o → h2.get? a = some o) → φ h2
/-- the abstract heap is held -/
def HOk (H : Hp) (h : Heap) : Prop := ∀ a o, H a = some o → ObjOk P w H h a o
end

section
variable {P : Program} {w : World} {H H' : Hp} {h h' : Heap} {a : Addr} {o : HO}
theorem ObjOk.lt (x : ObjOk P w H h a o) : a < h.objs.size := by
  cases o with
  | lst xs => obtain ⟨_, _, _, _, e⟩ := x; exact Heap.lt_size e
  | tup xs => obtain ⟨_, _, _, p⟩ := x; exact p.lt
  | dK kvs => obtain ⟨_, _, _, _, o, _, _, e, _⟩ := x; exact Heap.lt_size e
  | dT kvs => obtain ⟨_, _, _, _, o, _, _, e, _⟩ := x; exact Heap.lt_size e
  | set S n => obtain ⟨o, _, _, _, e, _⟩ := x; exact Heap.lt_size e
  | ins C dx fs => obtain ⟨_, _, _, e, _⟩ := x; exact Heap.lt_size e
  | own y => obtain ⟨_, e⟩ := x; exact Heap.lt_size e
  | xd fs => obtain ⟨_, ⟨_, _, _, e, _⟩, _⟩ := x; exact Heap.lt_size e
  | rng lo hi => obtain ⟨_, _, _, e⟩ := x; exact Heap.lt_size e
  | frz ob u => obtain ⟨e, _⟩ := x; exact Heap.lt_size e
  | tbl ps => exact Heap.lt_size (show h.get? a = some _ from x)
  | met f y => exact Heap.lt_size (show h.get? a = some _ from x)
  | ext φ => obtain ⟨_, ⟨_, e⟩, _⟩ := x; exact Heap.lt_size e
theorem Paired.mapP {α β : Type} {F G : α → β → Prop} : ∀ {l₁ : List α} {l₂ : List β}, Paired F l₁ l₂ → (∀ a b, F a b → G a b) → Paired G l₁ l₂
  | _, _, .nil, _ => .nil
  | _, _, .cons r t, f => .cons (f _ _ r) (Paired.mapP t f)
/-- what an object's description leans on: its own object, its own dict, the tuples -/
theorem ObjOk.stay (x : ObjOk P w H h a o) (k : ∀ b u, (b = a ∨ H b = some (.own a)) → h.get? b = some u → h'.get? b = some u)
    (ho : ∀ b, H b = some (.own a) → H' b = some (.own a)) (ht : ∀ b xs, H b = some (.tup xs) → H' b = some (.tup xs)) : ObjOk P w H' h' a o := by
  induction o with
  | lst xs => obtain ⟨z, its, n, r, e⟩ := x; exact ⟨z, its, n, r, k _ _ (.inl rfl) e⟩
  | tup xs => obtain ⟨z, its, r, ob, e, c⟩ := x; exact ⟨z, its, r, ob, k _ _ (.inl rfl) e, c⟩
  | dK kvs => obtain ⟨z, y, vs, r, ob, es, ep, e, c⟩ := x; exact ⟨z, y, vs, r, ob, es, ep, k _ _ (.inl rfl) e, c⟩
  | dT kvs =>
    obtain ⟨z, y, xs, r, ob, es, ep, e, c⟩ := x
    exact ⟨z, y, xs, Paired.mapP r fun p q z => ⟨z.1, ht _ _ z.2.1, z.2.2⟩, ob, es, ep, k _ _ (.inl rfl) e, c⟩
  | set S n => obtain ⟨ob, es, ep, t, e, c⟩ := x; exact ⟨ob, es, ep, t, k _ _ (.inl rfl) e, c⟩
  | ins C dx fs =>
    obtain ⟨d, z, ne, e, mA, ⟨od, es, ep, e2, c⟩, r⟩ := x
    exact ⟨ho _ d, z, ne, k _ _ (.inl rfl) e, mA, ⟨od, es, ep, k _ _ (.inr d) e2, c⟩, r⟩
  | own y => obtain ⟨ob, e⟩ := x; exact ⟨ob, k _ _ (.inl rfl) e⟩
  | xd fs => obtain ⟨mA, ⟨od, es, ep, e, c⟩, r⟩ := x; exact ⟨mA, ⟨od, es, ep, k _ _ (.inl rfl) e, c⟩, r⟩
  | rng lo hi => obtain ⟨t, u, v, e⟩ := x; exact ⟨t, u, v, k _ _ (.inl rfl) e⟩
  | frz ob u ih => obtain ⟨e, q⟩ := x; exact ⟨k _ _ (.inl rfl) e, ih q⟩
  | tbl ps =>
    have e : h.get? a = some { cls := .none, data := .fields ps } := x
    show h'.get? a = some { cls := .none, data := .fields ps }
    exact k a _ (.inl rfl) e
  | met f y =>
    have e : h.get? a = some (PySem.W.methodObj (.ref f) (.ref y)) := x
    show h'.get? a = some (PySem.W.methodObj (.ref f) (.ref y))
    exact k a _ (.inl rfl) e
  | ext φ => obtain ⟨p, ⟨o, e⟩, st⟩ := x; exact ⟨st _ _ p fun o q => k _ _ (.inl rfl) q, ⟨o, k _ _ (.inl rfl) e⟩, st⟩
theorem HOk.lt (x : HOk P w H h) (e : H a = some o) : a < h.objs.size := (x a o e).lt
theorem HOk.fresh (x : HOk P w H h) (e : h.objs.size ≤ a) : H a = none := by
  cases q : H a with
  | none => rfl
  | some u => exact absurd (Nat.lt_of_lt_of_le (x.lt q) e) (Nat.lt_irrefl _)
/-- every object of the heap is kept -/
theorem HOk.kept (x : HOk P w H h) (k : ∀ b u, h.get? b = some u → h'.get? b = some u) : HOk P w H h' := fun a o e =>
  (x a o e).stay (fun b u _ q => k b u q) (fun _ q => q) fun _ _ q => q
/-- a new object is laid and tracked -/
theorem HOk.laid (x : HOk P w H h) (k : ∀ b u, h.get? b = some u → h'.get? b = some u) (hp : h.objs.size ≤ a) (new : ObjOk P w (upd H a o) h' a o) : HOk P w (upd H a o) h' := fun b u e => by
  have hn := x.fresh hp
  by_cases hb : b = a
  · subst hb; rw [upd_same] at e; cases e; exact new
  · rw [upd_ne hb] at e
    exact (x b u e).stay (fun c v _ q => k c v q) (fun c q => by rw [upd_ne (ne_of_none q hn)]; exact q) fun c xs q => by rw [upd_ne (ne_of_none q hn)]; exact q
end

/-- what may be read as u: it is u, or a known u -/
def Rd (H : Hp) (a : Addr) (u : HO) : Prop := H a = some u ∨ ∃ o, H a = some (.frz o u)
theorem Rd.ok {P : Program} {w : World} {H : Hp} {h : Heap} {a : Addr} {u : HO} (r : Rd H a u) (x : HOk P w H h) : ObjOk P w H h a u := by
  rcases r with r | ⟨o, r⟩
  · exact x a u r
  · obtain ⟨_, q⟩ := x a _ r
    exact q
/-- what may be written -/
def Mut : Option HO → Prop
  | some (.lst _) => True
  | some (.dK _) => True
  | some (.dT _) => True
  | some (.set _ _) => True
  | some (.ins _ _ _) => True
  | some (.ext _) => True
  | _ => False
section
variable {P : Program} {w : World} {H : Hp} {h h' : Heap} {x e : Addr} {o' : HO}
/-- the object at e is changed: x itself, or the dict of the instance x -/
theorem HOk.write (ok : HOk P w H h) (mu : Mut (H x)) (he : e = x ∨ H e = some (.own x)) (k : ∀ b u, b ≠ e → h.get? b = some u → h'.get? b = some u) (heo : ∃ u, h'.get? e = some u)
    (new : ObjOk P w (upd H x o') h' x o') : HOk P w (upd H x o') h' := fun b u q => by
  have nown : ∀ c y, H c = some (.own y) → c ≠ x := fun c y r z => by subst z; rw [r] at mu; exact mu
  have ntup : ∀ c xs, H c = some (.tup xs) → c ≠ x := fun c xs r z => by subst z; rw [r] at mu; exact mu
  by_cases hb : b = x
  · subst hb; rw [upd_same] at q; cases q; exact new
  · rw [upd_ne hb] at q
    by_cases hbe : b = e
    · have q' : H b = some (.own x) := by
        rcases he with z | z
        · exact absurd (hbe.trans z) hb
        · rw [hbe]; exact z
      rw [q] at q'; cases q'
      obtain ⟨v, hv⟩ := heo
      exact ⟨v, by rw [hbe]; exact hv⟩
    · refine (ok b u q).stay (fun c v hc r => k c v ?_ r) (fun c r => by rw [upd_ne (nown c b r)]; exact r) fun c xs r => by rw [upd_ne (ntup c xs r)]; exact r
      rcases hc with rfl | hc
      · exact hbe
      · rintro rfl
        rcases he with z | z
        · exact nown c b hc z
        · rw [hc] at z; cases z; exact hb rfl
end

/-! ### kept unless tracked; of the frames at fs (the callers') the slots may change (an exception that passes writes there); of the records at ex (iterators) nothing is said -/
structure Un (fs ex : List Addr) (H H' : Hp) (h h' : Heap) : Prop where
  keep : ∀ b o, h.get? b = some o → H b = none → b ∉ fs → b ∉ ex → h'.get? b = some o
  slot : ∀ b o, h.get? b = some o → H b = none → b ∈ fs → b ∉ ex → ∃ sl, h'.get? b = some { o with slots := sl }
  free : ∀ b o, h.get? b = some o → H b = none → b ∉ ex → H' b = none
  there : ∀ b o, h.get? b = some o → b ∉ ex → ∃ o', h'.get? b = some o'
  tups : ∀ b xs, H b = some (.tup xs) → H' b = some (.tup xs)
  frzs : ∀ b o u, H b = some (.frz o u) → H' b = some (.frz o u)
  tbls : ∀ b ps, H b = some (.tbl ps) → ∃ more, H' b = some (.tbl (ps ++ more))
section
variable {fs fs' ex ex' : List Addr} {H H1 H2 : Hp} {h h1 h2 h' : Heap} {a x e : Addr} {o : HO}
theorem Un.any (u : Un fs ex H H1 h h1) {b : Addr} {ob : Obj} (q : h.get? b = some ob) (n : H b = none) (hx : b ∉ ex) : ∃ sl, h1.get? b = some { ob with slots := sl } := by
  by_cases hb : b ∈ fs
  · exact u.slot b ob q n hb hx
  · exact ⟨ob.slots, u.keep b ob q n hb hx⟩
theorem Un.trans (a : Un fs ex H H1 h h1) (b : Un fs ex H1 H2 h1 h2) : Un fs ex H H2 h h2 where
  keep := fun c ob q n hc hx => b.keep c ob (a.keep c ob q n hc hx) (a.free c ob q n hx) hc hx
  slot := fun c ob q n hc hx => by
    obtain ⟨sl, e1⟩ := a.slot c ob q n hc hx
    obtain ⟨sl', e2⟩ := b.slot c _ e1 (a.free c ob q n hx) hc hx
    exact ⟨sl', e2⟩
  free := fun c ob q n hx => by
    obtain ⟨o', e1⟩ := a.there c ob q hx
    exact b.free c o' e1 (a.free c ob q n hx) hx
  there := fun c ob q hx => by
    obtain ⟨o', e1⟩ := a.there c ob q hx
    exact b.there c o' e1 hx
  tups := fun c xs q => b.tups c xs (a.tups c xs q)
  frzs := fun c ob xs q => b.frzs c ob xs (a.frzs c ob xs q)
  tbls := fun c ps q => by
    obtain ⟨m1, e1⟩ := a.tbls c ps q
    obtain ⟨m2, e2⟩ := b.tbls c _ e1
    exact ⟨m1 ++ m2, by rw [e2, Array.append_assoc]⟩
theorem Un.kept (k : ∀ b u, h.get? b = some u → h'.get? b = some u) : Un fs ex H H h h' :=
  ⟨fun b ob q _ _ _ => k b ob q, fun b ob q _ _ _ => ⟨ob.slots, k b ob q⟩, fun _ _ _ n _ => n, fun b ob q _ => ⟨ob, k b ob q⟩, fun _ _ q => q, fun _ _ _ q => q, fun _ ps q => ⟨#[], by rw [q]; simp⟩⟩
theorem Un.refl : Un fs ex H H h h := Un.kept fun _ _ q => q
theorem Un.laid (k : ∀ b u, h.get? b = some u → h'.get? b = some u) (hp : h.objs.size ≤ a) (hn : H a = none) : Un fs ex H (upd H a o) h h' where
  keep := fun b u q _ _ _ => k b u q
  slot := fun b u q _ _ _ => ⟨u.slots, k b u q⟩
  free := fun b u q n _ => by rw [upd_ne (Nat.ne_of_lt (Nat.lt_of_lt_of_le (Heap.lt_size q) hp))]; exact n
  there := fun b u q _ => ⟨u, k b u q⟩
  tups := fun b xs q => by rw [upd_ne (ne_of_none q hn)]; exact q
  frzs := fun b u xs q => by rw [upd_ne (ne_of_none q hn)]; exact q
  tbls := fun b ps q => ⟨#[], by rw [upd_ne (ne_of_none q hn), q]; simp⟩
theorem Un.write (mu : Mut (H x)) (he : e = x ∨ H e = some (.own x)) (k : ∀ b u, b ≠ e → h.get? b = some u → h'.get? b = some u) (heo : ∃ u, h'.get? e = some u) : Un fs ex H (upd H x o) h h' := by
  have hx : ∀ b, H b = none → b ≠ x := fun b n z => by subst z; rw [n] at mu; exact mu
  have hb : ∀ b, H b = none → b ≠ e := fun b n z => by
    subst z
    rcases he with r | r
    · exact hx b n r
    · rw [n] at r; cases r
  have hm : ∀ b u, H b = some u → ¬ Mut (some u) → b ≠ x := fun b u q nm z => by subst z; rw [q] at mu; exact nm mu
  refine ⟨fun b u q n _ _ => k b u (hb b n) q, fun b u q n _ _ => ⟨u.slots, k b u (hb b n) q⟩, fun b u q n _ => by rw [upd_ne (hx b n)]; exact n, fun b u q _ => ?_,
    fun b xs q => by rw [upd_ne (hm b _ q fun z => z)]; exact q, fun b u xs q => by rw [upd_ne (hm b _ q fun z => z)]; exact q, fun b ps q => ⟨#[], by rw [upd_ne (hm b _ q fun z => z), q]; simp⟩⟩
  by_cases hbe : b = e
  · subst hbe; exact heo
  · exact ⟨u, k b u hbe q⟩
end

/-! ### the heap without what is tracked -/
def trk (h : Heap) (H : Hp) : List Addr := (List.range h.objs.size).filter fun a => (H a).isSome
def hidT (h : Heap) (H : Hp) : Heap := PySem.W.hideAll h (trk h H)
theorem hidT_size (h : Heap) (H : Hp) : (hidT h H).objs.size = h.objs.size := PySem.W.hideAll_size _ _
theorem hidT_get {h : Heap} {H : Hp} {b : Addr} {o : Obj} (e : h.get? b = some o) (n : H b = none) : (hidT h H).get? b = some o :=
  PySem.W.hideAll_get _ e fun hm => by
    have q : (H b).isSome = true := (List.mem_filter.mp hm).2
    rw [n] at q; simp at q
theorem of_hidT {h : Heap} {H : Hp} {b : Addr} {o : Obj} (e : (hidT h H).get? b = some o) : h.get? b = some o ∧ H b = none := by
  have e' : h.get? b = some o := PySem.W.of_hideAll (trk h H) e
  refine ⟨e', ?_⟩
  cases q : H b with
  | none => rfl
  | some x =>
    have hm : b ∈ trk h H := List.mem_filter.mpr ⟨List.mem_range.mpr (Heap.lt_size e'), by simp [q]⟩
    have z : (hidT h H).get? b = none := PySem.W.hideAll_none (trk h H) hm
    rw [z] at e; cases e

/-! ### OpenK's ledger, filled with every new object but one -/
def allNews (g h : Heap) (L : Addr) : List (Addr × Obj) := (List.range h.objs.size).filterMap fun a => if a = L ∨ (g.get? a).isSome = true then none else (h.get? a).map fun o => (a, o)
def rest (g h : Heap) (L d : Addr) : List (Addr × Obj) := (allNews g h L).filter fun p => decide (p.1 ≠ d)
end L2

namespace L2
open PySem PySem.Spec PyProof.Rows

/-- the module's facts, over the base: the heap at the law's entry without what is tracked there -/
structure Mod (K : PySem.W.Frag) (mg : Str → Option Value) (base : Heap) : Prop where
  kin : K.In base
  glob : base.Ns mainGlobals mg
  blt : ∃ mb, base.Ns builtinsNs mb ∧ ∀ x : Str, x ≠ "__name__" → mb x = bootBuiltins x
  nolimit : base.NoLimit

/-- the context: a def's body (or a comprehension's block) running. base: fixed through the whole law; s₀, H₀: the entry; outer: the frames whose slots others may change (a def's callers); stack: all frames that run;
   ex: iterators that were made ahead of the entry and are walked here (a comprehension's); fn: the names whose cells were made at the entry (a def: all; a comprehension's block: its own); calm: not within an except suite; pn: pins that every state bears; xe: what is wanted of an exception that leaves the code -/
structure Cx where
  prog : Program
  w : World
  K : PySem.W.Frag
  mg : Str → Option Value
  base : Heap
  A : Around
  N : List Str
  s₀ : Shared
  H₀ : Hp
  env : Env
  outer : List Env
  stack : List Env
  ex : List Addr
  fn : Str → Bool
  calm : Bool
  pn : List (Addr × Obj)
  xe : Value → Shared → Prop
/-- the callers' frames -/
def frs (l : List Env) : List Addr := l.filterMap (·.frame)
abbrev Cx.fs (X : Cx) : List Addr := frs X.outer

def Vis (sc : Scope) (x : Str) : Prop := sc.names.lookup x = some .local ∨ sc.names.lookup x = some .cell ∨ sc.names.lookup x = some .free
def Loc (sc : Scope) (x : Str) : Prop := sc.names.lookup x = some .local ∨ sc.names.lookup x = some .cell
def Look (env : Env) (h : Heap) (m : Str → Option Value) (x : Str) (u : Value) : Prop :=
  (env.kindOf x = some .local ∧ m x = some u) ∨ ((env.kindOf x = some .cell ∨ env.kindOf x = some .free) ∧ ∃ c, env.cells.lookup x = some c ∧ h.IsCell c (some u))

structure Cx.Ok (X : Cx) : Prop where
  mod : Mod X.K X.mg X.base
  kind : X.env.scope.kind = .function
  glob : X.env.globals = mainGlobals
  blt : X.env.builtins = builtinsNs
  above : X.s₀.heap.objs.size ≤ X.env.locals
  inj : ∀ x y c, X.env.cells.lookup x = some c → X.env.cells.lookup y = some c → x = y
  has : ∀ x, (X.env.kindOf x = some .cell ∨ X.env.kindOf x = some .free) → ∃ c, X.env.cells.lookup x = some c
  cab : ∀ x c, X.fn x = true → X.env.cells.lookup x = some c → X.s₀.heap.objs.size ≤ c
  hd : X.calm = true → X.A.handled = none
  frames : X.A.frames = some X.stack
  stk : X.stack = X.outer ∨ (X.stack = X.env :: X.outer ∧ X.env.frame = some X.env.locals)
  exf : ∀ b ∈ X.ex, b ≠ X.env.locals ∧ ∀ x c, X.env.cells.lookup x = some c → c ≠ b
  bs : ∀ b o, X.base.get? b = some o → X.s₀.heap.get? b = some o ∧ X.H₀ b = none
  bsz : X.base.objs.size ≤ X.s₀.heap.objs.size
  noex : ∀ b o, X.base.get? b = some o → b ∉ X.ex
  exfs : ∀ b ∈ X.ex, b ∉ X.fs
  funs : X.s₀.heap.FunFrames X.base X.outer
  frf : ∀ b ∈ X.fs, X.H₀ b = none

structure Inv (X : Cx) (pins : List (Addr × Obj)) (σ : List (Option V)) (H : Hp) (s : Shared) : Prop where
  ok : X.Ok
  os : s.os = X.s₀.os
  bare : AllBare s.gens
  base : Un X.fs X.ex X.H₀ H X.s₀.heap s.heap
  loc : ∃ m, s.heap.Ns X.env.locals m ∧ ∀ (i : Nat) (x : Str) (v : V), X.N[i]? = some x → σ[i]? = some (some v) → Vis X.env.scope x → ∃ u, RelV v u ∧ Look X.env s.heap m x u
  cell : ∀ x c, X.env.cells.lookup x = some c → ∃ v, s.heap.IsCell c v
  free : H X.env.locals = none
  freeC : ∀ x c, X.env.cells.lookup x = some c → H c = none
  pin : ∀ p ∈ X.pn ++ pins, s.heap.get? p.1 = some p.2 ∧ H p.1 = none ∧ p.1 ≠ X.env.locals ∧ p.1 ∉ X.fs ∧ ∀ v, p.2.data ≠ .cell v
  hok : HOk X.prog X.w H s.heap
  len : σ.length = X.N.length

section
variable {X : Cx} {pins : List (Addr × Obj)} {σ : List (Option V)} {H H' : Hp} {s : Shared} {h' : Heap}

theorem Cx.Ok.nofr (ok : X.Ok) {b : Addr} {o : Obj} (e : X.base.get? b = some o) : b ∉ X.fs := fun hb => by
  have := (ok.funs.mem hb).1
  rw [e] at this; cases this
theorem Inv.bs (I : Inv X pins σ H s) : ∀ b o, X.base.get? b = some o → s.heap.get? b = some o ∧ H b = none := fun b o e =>
  ⟨I.base.keep b o (I.ok.bs b o e).1 (I.ok.bs b o e).2 (I.ok.nofr e) (I.ok.noex b o e), I.base.free b o (I.ok.bs b o e).1 (I.ok.bs b o e).2 (I.ok.noex b o e)⟩
theorem Inv.bk (I : Inv X pins σ H s) : ∀ b o, X.base.get? b = some o → s.heap.get? b = some o := fun b o e => (I.bs b o e).1
theorem Inv.mod (I : Inv X pins σ H s) : Mod X.K X.mg X.base := I.ok.mod
theorem Inv.kIn (I : Inv X pins σ H s) : X.K.In s.heap := I.ok.mod.kin.keeps I.bk
theorem Inv.lt (I : Inv X pins σ H s) : X.env.locals < s.heap.objs.size := let ⟨_, hn, _⟩ := I.loc; hn.lt
theorem Inv.sz (I : Inv X pins σ H s) : X.s₀.heap.objs.size ≤ s.heap.objs.size := Nat.le_trans I.ok.above (Nat.le_of_lt I.lt)
theorem Inv.nofs (I : Inv X pins σ H s) {a : Addr} (h : s.heap.objs.size ≤ a) : a ∉ X.fs := fun hb => by
  obtain ⟨_, o, ho, _⟩ := I.ok.funs.mem hb
  exact absurd (Nat.lt_of_lt_of_le (Heap.lt_size ho) (Nat.le_trans I.sz h)) (Nat.lt_irrefl _)
theorem Inv.cne (I : Inv X pins σ H s) : ∀ x c, X.env.cells.lookup x = some c → c ≠ X.env.locals := fun x c e z => by
  obtain ⟨v, o, ho, hd⟩ := I.cell x c e
  obtain ⟨m, ⟨o', es, ep, ho', hd', _⟩, _⟩ := I.loc
  rw [z, ho'] at ho; cases ho; rw [hd'] at hd; cases hd
theorem Inv.funs (I : Inv X pins σ H s) : s.heap.FunFrames X.base X.outer := by
  have all : ∀ (l : List Env), (∀ b ∈ frs l, b ∈ X.fs) → X.s₀.heap.FunFrames X.base l → s.heap.FunFrames X.base l := by
    intro l
    induction l with
    | nil => intro _ _; trivial
    | cons env r ih =>
      intro hs hl
      obtain ⟨hk, ⟨L, o, hf, hn, ho, hd⟩, hr⟩ := hl
      have hL : L ∈ X.fs := hs L (by unfold frs; rw [List.filterMap_cons, hf]; exact List.mem_cons_self)
      obtain ⟨sl, e⟩ := I.base.slot L o ho (I.ok.frf L hL) hL fun z => I.ok.exfs L z hL
      exact ⟨hk, ⟨L, _, hf, hn, e, hd⟩, ih (fun b hb => hs b (by unfold frs; rw [List.filterMap_cons, hf]; exact List.mem_cons_of_mem _ hb)) hr⟩
  exact all X.outer (fun _ hb => hb) I.ok.funs

/-- the frames that run, for a call -/
theorem Inv.stack (I : Inv X pins σ H s) : s.heap.FunFrames X.base X.stack := by
  rcases I.ok.stk with e | ⟨e, hf⟩
  · rw [e]; exact I.funs
  · rw [e]
    obtain ⟨m, hn, _⟩ := I.loc
    refine .cons (by rw [I.ok.kind]; decide) hf hn ?_ I.funs
    exact Heap.get?_none_of_le (Nat.le_trans I.ok.bsz I.ok.above)
theorem Inv.stkSub (I : Inv X pins σ H s) : ∀ b ∈ frs X.stack, b ∈ X.env.locals :: X.fs := fun b hb => by
  rcases I.ok.stk with e | ⟨e, hf⟩
  · rw [e] at hb; exact List.mem_cons_of_mem _ hb
  · rw [e] at hb
    unfold frs at hb
    rw [List.filterMap_cons, hf] at hb
    exact hb
theorem Inv.stkFree (I : Inv X pins σ H s) : ∀ b ∈ frs X.stack, H b = none := fun b hb => by
  rcases List.mem_cons.mp (I.stkSub b hb) with e | hb
  · rw [e]; exact I.free
  · obtain ⟨_, o, ho, _⟩ := I.ok.funs.mem hb
    exact I.base.free b o ho (I.ok.frf b hb) fun z => I.ok.exfs b z hb

/-- THE STEP: the untracked objects but the frame and the records at ch are kept (the callers' frames up to slots), the frame's map is kept, the new abstract heap is held -/
theorem Inv.step {g' : Array GenState} {t' : Nat} {d' : Drawn} {ch : List Addr} (I : Inv X pins σ H s)
    (hch : ∀ b ∈ ch, (b ∈ X.ex ∨ X.s₀.heap.objs.size ≤ b) ∧ b ≠ X.env.locals ∧ (∀ x c, X.env.cells.lookup x = some c → c ≠ b) ∧ ∀ p ∈ X.pn ++ pins, p.1 ≠ b)
    (keep : ∀ b o, b ≠ X.env.locals → b ∉ X.fs → b ∉ ch → s.heap.get? b = some o → H b = none → h'.get? b = some o)
    (slot : ∀ b o, b ≠ X.env.locals → b ∈ X.fs → b ∉ ch → s.heap.get? b = some o → H b = none → ∃ sl, h'.get? b = some { o with slots := sl }) (free : ∀ b o, b ∉ ch → s.heap.get? b = some o → H b = none → H' b = none)
    (there : ∀ b o, b ∉ ch → s.heap.get? b = some o → ∃ o', h'.get? b = some o')
    (tups : ∀ b xs, H b = some (.tup xs) → H' b = some (.tup xs)) (frzs : ∀ b o u, H b = some (.frz o u) → H' b = some (.frz o u)) (tbls : ∀ b ps, H b = some (.tbl ps) → ∃ more, H' b = some (.tbl (ps ++ more)))
    (ns : ∀ m, s.heap.Ns X.env.locals m → h'.Ns X.env.locals m) (hok : HOk X.prog X.w H' h') (hg : AllBare g') :
    Inv X pins σ H' { s with heap := h', gens := g', drawn := d', toks := t' } := by
  have neL : ∀ b o, X.s₀.heap.get? b = some o → b ≠ X.env.locals := fun b o e => Nat.ne_of_lt (Nat.lt_of_lt_of_le (Heap.lt_size e) I.ok.above)
  have neC : ∀ b o, X.s₀.heap.get? b = some o → b ∉ X.ex → b ∉ ch := fun b o e hx hb => by
    rcases (hch b hb).1 with z | z
    · exact hx z
    · exact absurd (Nat.lt_of_lt_of_le (Heap.lt_size e) z) (Nat.lt_irrefl _)
  have cellK : ∀ x c, X.env.cells.lookup x = some c → ∀ v, s.heap.IsCell c v → h'.IsCell c v := fun x c e v ⟨o, ho, hd⟩ => by
    have nch : c ∉ ch := fun z => (hch c z).2.2.1 x c e rfl
    by_cases hc : c ∈ X.fs
    · obtain ⟨sl, q⟩ := slot c o (I.cne x c e) hc nch ho (I.freeC x c e)
      exact ⟨_, q, hd⟩
    · exact ⟨o, keep c o (I.cne x c e) hc nch ho (I.freeC x c e), hd⟩
  refine ⟨I.ok, I.os, hg, ⟨fun b o e n hb hx => ?_, fun b o e n hb hx => ?_, fun b o e n hx => ?_, fun b o e hx => ?_, fun b xs e => tups b xs (I.base.tups b xs e), fun b o xs e => frzs b o xs (I.base.frzs b o xs e), fun b ps e => ?_⟩, ?_, fun x c e => ?_, ?_, fun x c e => ?_, fun p hp => ?_, hok, I.len⟩
  · exact keep b o (neL b o e) hb (neC b o e hx) (I.base.keep b o e n hb hx) (I.base.free b o e n hx)
  · obtain ⟨sl, e1⟩ := I.base.slot b o e n hb hx
    obtain ⟨sl', e2⟩ := slot b _ (neL b o e) hb (neC b o e hx) e1 (I.base.free b o e n hx)
    exact ⟨sl', e2⟩
  · obtain ⟨o', e1⟩ := I.base.there b o e hx
    exact free b o' (neC b o e hx) e1 (I.base.free b o e n hx)
  · obtain ⟨o', e1⟩ := I.base.there b o e hx
    exact there b o' (neC b o e hx) e1
  · obtain ⟨m1, e1⟩ := I.base.tbls b ps e
    obtain ⟨m2, e2⟩ := tbls b _ e1
    exact ⟨m1 ++ m2, by rw [e2, Array.append_assoc]⟩
  · obtain ⟨m, hn, hl⟩ := I.loc
    refine ⟨m, ns m hn, fun i x v e1 e2 e3 => ?_⟩
    obtain ⟨u, r, l⟩ := hl i x v e1 e2 e3
    refine ⟨u, r, ?_⟩
    rcases l with l | ⟨k, c, e, z⟩
    · exact .inl l
    · exact .inr ⟨k, c, e, cellK x c e _ z⟩
  · obtain ⟨v, z⟩ := I.cell x c e
    exact ⟨v, cellK x c e v z⟩
  · obtain ⟨m, ⟨o, _, _, ho, _⟩, _⟩ := I.loc
    exact free _ o (fun z => (hch _ z).2.1 rfl) ho I.free
  · obtain ⟨v, o, ho, hd⟩ := I.cell x c e
    exact free c o (fun z => (hch c z).2.2.1 x c e rfl) ho (I.freeC x c e)
  · obtain ⟨e, n, ne, nf, d⟩ := I.pin p hp
    have nch : p.1 ∉ ch := fun z => (hch p.1 z).2.2.2 p hp rfl
    exact ⟨keep p.1 p.2 ne nf nch e n, free p.1 p.2 nch e n, ne, nf, d⟩
/-- .. where the frame's own object is kept too -/
theorem Inv.un {t' : Nat} (I : Inv X pins σ H s) (u : Un X.fs [] H H' s.heap h') (hok : HOk X.prog X.w H' h') : Inv X pins σ H' { s with heap := h', toks := t' } := by
  obtain ⟨m, ⟨o, es, ep, ho, r⟩, _⟩ := id I.loc
  obtain ⟨sl, hL⟩ := u.any ho I.free (by simp)
  exact I.step (g' := s.gens) (d' := s.drawn) (ch := []) (fun _ z => nomatch z) (fun b o _ hb _ e n => u.keep b o e n hb (by simp)) (fun b o _ hb _ e n => u.slot b o e n hb (by simp)) (fun b o _ e n => u.free b o e n (by simp)) (fun b o _ e => u.there b o e (by simp)) u.tups u.frzs u.tbls (fun m' hm => by
    obtain ⟨o', es', ep', ho', r'⟩ := hm
    rw [ho] at ho'; cases ho'
    exact ⟨_, es', ep', hL, r'⟩) hok I.bare
/-- behind a call (or a comprehension's block): the slots of this frame may have changed too, the records at ch may have turned -/
theorem Inv.call {g' : Array GenState} {t' : Nat} {d' : Drawn} {ch : List Addr} (I : Inv X pins σ H s) (u : Un (frs X.stack) ch H H' s.heap h') (hok : HOk X.prog X.w H' h') (hg : AllBare g')
    (hch : ∀ b ∈ ch, (b ∈ X.ex ∨ X.s₀.heap.objs.size ≤ b) ∧ b ≠ X.env.locals ∧ (∀ x c, X.env.cells.lookup x = some c → c ≠ b) ∧ ∀ p ∈ X.pn ++ pins, p.1 ≠ b) :
    Inv X pins σ H' { s with heap := h', gens := g', drawn := d', toks := t' } := by
  obtain ⟨m, ⟨o, es, ep, ho, r⟩, _⟩ := id I.loc
  obtain ⟨sl, hL⟩ := u.any ho I.free fun z => (hch _ z).2.1 rfl
  exact I.step (ch := ch) hch (fun b o hL hb hc e n => u.keep b o e n (fun z => (List.mem_cons.mp (I.stkSub b z)).elim hL hb) hc) (fun b o _ _ hc e n => u.any e n hc) (fun b o hc e n => u.free b o e n hc) (fun b o hc e => u.there b o e hc) u.tups u.frzs u.tbls (fun m' hm => by
    obtain ⟨o', es', ep', ho', r'⟩ := hm
    rw [ho] at ho'; cases ho'
    exact ⟨_, es', ep', hL, r'⟩) hok hg
/-- an untracked record of ours (an iterator) has turned -/
theorem Inv.turned {t' : Nat} {it : Addr} (I : Inv X pins σ H s) (k : ∀ b o, b ≠ it → s.heap.get? b = some o → h'.get? b = some o) (hn : H it = none) (hL : it ≠ X.env.locals)
    (h1 : it ∈ X.ex ∨ X.s₀.heap.objs.size ≤ it) (h2 : ∀ x c, X.env.cells.lookup x = some c → c ≠ it) (h3 : ∀ p ∈ X.pn ++ pins, p.1 ≠ it) : Inv X pins σ H { s with heap := h', toks := t' } := by
  have nit : ∀ b u, H b = some u → b ≠ it := fun b u e z => by rw [z, hn] at e; cases e
  refine I.step (g' := s.gens) (d' := s.drawn) (ch := [it]) (fun b hb => ?_) (fun b o _ _ hc e _ => k b o (fun z => hc (by simp [z])) e) (fun b o _ _ hc e _ => ⟨o.slots, k b o (fun z => hc (by simp [z])) e⟩) (fun _ _ _ _ n => n)
    (fun b o hc e => ⟨o, k b o (fun z => hc (by simp [z])) e⟩) (fun _ _ e => e) (fun _ _ _ e => e) (fun b ps e => ⟨#[], by rw [e]; simp⟩) (fun m hm => ?_) (fun b u e => ?_) I.bare
  · have e : b = it := by simpa using hb
    subst e
    exact ⟨h1, hL, h2, h3⟩
  · obtain ⟨o, es, ep, ho, r⟩ := hm
    exact ⟨o, es, ep, k _ o (Ne.symm hL) ho, r⟩
  · refine (I.hok b u e).stay (fun c v hc q => k c v ?_ q) (fun _ q => q) fun _ _ q => q
    rcases hc with z | z
    · rw [z]; exact nit b u e
    · exact nit c _ z
theorem Inv.tok (I : Inv X pins σ H s) (t : Nat) : Inv X pins σ H { s with toks := t } := I.un (h' := s.heap) (t' := t) Un.refl I.hok
/-- all objects kept -/
theorem Inv.kept {t' : Nat} (I : Inv X pins σ H s) (k : ∀ b u, s.heap.get? b = some u → h'.get? b = some u) : Inv X pins σ H { s with heap := h', toks := t' } := I.un (Un.kept k) (I.hok.kept k)
/-- a new object laid and tracked -/
theorem Inv.laid {a : Addr} {o : HO} {t' : Nat} (I : Inv X pins σ H s) (k : ∀ b u, s.heap.get? b = some u → h'.get? b = some u) (hp : s.heap.objs.size ≤ a) (new : ObjOk X.prog X.w (upd H a o) h' a o) :
    Inv X pins σ (upd H a o) { s with heap := h', toks := t' } := I.un (Un.laid k hp (I.hok.fresh hp)) (I.hok.laid k hp new)
/-- an object written -/
theorem Inv.write {x e : Addr} {o : HO} {t' : Nat} (I : Inv X pins σ H s) (mu : Mut (H x)) (he : e = x ∨ H e = some (.own x)) (k : ∀ b u, b ≠ e → s.heap.get? b = some u → h'.get? b = some u) (heo : ∃ u, h'.get? e = some u)
    (new : ObjOk X.prog X.w (upd H x o) h' x o) : Inv X pins σ (upd H x o) { s with heap := h', toks := t' } := I.un (Un.write mu he k heo) (I.hok.write mu he k heo new)
theorem Inv.pins_of {pins' : List (Addr × Obj)} (I : Inv X pins σ H s) (h : ∀ p ∈ pins', s.heap.get? p.1 = some p.2 ∧ H p.1 = none ∧ p.1 ≠ X.env.locals ∧ p.1 ∉ X.fs ∧ ∀ v, p.2.data ≠ .cell v) : Inv X pins' σ H s :=
  ⟨I.ok, I.os, I.bare, I.base, I.loc, I.cell, I.free, I.freeC, fun p hp => (List.mem_append.mp hp).elim (fun z => I.pin p (List.mem_append_left _ z)) (h p), I.hok, I.len⟩

theorem nodup_ix {N : List Str} (hN : N.Nodup) {i j : Nat} {x : Str} (a : N[i]? = some x) (b : N[j]? = some x) : i = j := by
  obtain ⟨h1, e1⟩ := List.getElem?_eq_some_iff.mp a
  obtain ⟨h2, e2⟩ := List.getElem?_eq_some_iff.mp b
  exact (List.getElem_inj hN).mp (e1.trans e2.symm)

/-- a name is stored; what changed -/
theorem store_ok2 {M : Model} {A : Around} {E : Value → Shared → Prop} {i : Nat} {x : Str} {v : V} {u : Value} {Q : Unit → Shared → Prop} (I : Inv X pins σ H s) (hN : X.N.Nodup) (hi : X.N[i]? = some x) (hx : Loc X.env.scope x) (r : RelV v u)
    (h : ∀ s', Inv X pins (σ.set i (some v)) H s' → (∃ a, Heap.SameBut a s.heap s'.heap ∧ (a = X.env.locals ∨ X.env.cells.lookup x = some a)) → Q () s') (hf : X.fn x = true ∨ X.env.scope.names.lookup x = some .local := by first | exact .inl rfl | exact .inr rfl | assumption) : wpAny M A (storeName X.env x u) Q E s := by
  obtain ⟨m, hn, hl⟩ := id I.loc
  have hcls : (X.env.scope.kind == .class || (X.env.scope.kind == .module && X.env.locals != X.env.globals)) = false := by rw [I.ok.kind]; rfl
  have hiσ : i < σ.length := by rw [I.len]; exact (List.getElem?_eq_some_iff.mp hi).1
  have cne := I.cne
  have tracked : ∀ {a : Addr} {h' : Heap}, (∃ o, s.heap.get? a = some o ∧ H a = none) → Heap.SameBut a s.heap h' → HOk X.prog X.w H h' := fun {a h'} ha hs b ob e => by
    obtain ⟨_, _, hfree⟩ := ha
    refine (I.hok b ob e).stay (fun c w' hc q => (hs.2 c ?_).trans q) (fun _ q => q) fun _ _ q => q
    rintro rfl
    rcases hc with rfl | hc
    · rw [hfree] at e; cases e
    · rw [hfree] at hc; cases hc
  rcases hx with hk | hk
  · refine wpAny_storeName_local hk hn (fun h' hn' hs => ?_) hcls
    obtain ⟨oL, _, _, hoL, _⟩ := id hn
    refine h _ ⟨I.ok, I.os, I.bare, ⟨fun b o e n hb hx => ?_, fun b o e n hb hx => ?_, I.base.free, fun b o e hx => ?_, I.base.tups, I.base.frzs, I.base.tbls⟩, ⟨_, hn', fun j y v' e1 e2 e3 => ?_⟩, fun y c e => ?_, I.free, I.freeC, fun p hp => ?_, tracked ⟨oL, hoL, I.free⟩ hs, by simpa using I.len⟩ ⟨_, hs, .inl rfl⟩
    · exact (hs.2 b (Nat.ne_of_lt (Nat.lt_of_lt_of_le (Heap.lt_size e) I.ok.above))).trans (I.base.keep b o e n hb hx)
    · obtain ⟨sl, e1⟩ := I.base.slot b o e n hb hx
      exact ⟨sl, (hs.2 b (Nat.ne_of_lt (Nat.lt_of_lt_of_le (Heap.lt_size e) I.ok.above))).trans e1⟩
    · obtain ⟨o', e1⟩ := I.base.there b o e hx
      exact ⟨o', (hs.2 b (Nat.ne_of_lt (Nat.lt_of_lt_of_le (Heap.lt_size e) I.ok.above))).trans e1⟩
    · by_cases hj : j = i
      · subst hj
        rw [hi] at e1; cases e1
        rw [List.getElem?_set_self hiσ] at e2
        cases e2
        exact ⟨u, r, .inl ⟨hk, by simp⟩⟩
      · rw [List.getElem?_set_ne (Ne.symm hj)] at e2
        obtain ⟨u', r', q⟩ := hl j y v' e1 e2 e3
        refine ⟨u', r', ?_⟩
        rcases q with ⟨k, e⟩ | ⟨k, c, e, z⟩
        · refine .inl ⟨k, ?_⟩
          have : y ≠ x := fun e => hj (nodup_ix hN e1 (e ▸ hi))
          simp [this, e]
        · exact .inr ⟨k, c, e, z.sameBut hs (cne y c e)⟩
    · obtain ⟨w', z⟩ := I.cell y c e
      exact ⟨w', z.sameBut hs (cne y c e)⟩
    · obtain ⟨e, n, ne, nf, d⟩ := I.pin p hp
      exact ⟨(hs.2 p.1 ne).trans e, n, ne, nf, d⟩
  · have hfn : X.fn x = true := by
      rcases hf with z | z
      · exact z
      · rw [z] at hk; cases hk
    obtain ⟨c, hc⟩ := I.ok.has x (.inl hk)
    obtain ⟨w', z⟩ := I.cell x c hc
    refine wpAny_storeName_cell I.ok.kind hk hc z (fun h' hc' hs => ?_)
    obtain ⟨oc, hoc, hocd⟩ := id z
    refine h { s with heap := h' } ⟨I.ok, I.os, I.bare, ⟨fun b o e n hb hx => ?_, fun b o e n hb hx => ?_, I.base.free, fun b o e hx => ?_, I.base.tups, I.base.frzs, I.base.tbls⟩, ⟨m, hn.sameBut hs (Ne.symm (cne x c hc)), fun j y v' e1 e2 e3 => ?_⟩, fun y c' e => ?_, I.free, I.freeC, fun p hp => ?_, tracked ⟨oc, hoc, I.freeC x c hc⟩ hs, by simpa using I.len⟩ ⟨c, hs, .inr hc⟩
    · exact (hs.2 b (Nat.ne_of_lt (Nat.lt_of_lt_of_le (Heap.lt_size e) (I.ok.cab x c hfn hc)))).trans (I.base.keep b o e n hb hx)
    · obtain ⟨sl, e1⟩ := I.base.slot b o e n hb hx
      exact ⟨sl, (hs.2 b (Nat.ne_of_lt (Nat.lt_of_lt_of_le (Heap.lt_size e) (I.ok.cab x c hfn hc)))).trans e1⟩
    · obtain ⟨o', e1⟩ := I.base.there b o e hx
      exact ⟨o', (hs.2 b (Nat.ne_of_lt (Nat.lt_of_lt_of_le (Heap.lt_size e) (I.ok.cab x c hfn hc)))).trans e1⟩
    · by_cases hj : j = i
      · subst hj
        rw [hi] at e1; cases e1
        rw [List.getElem?_set_self hiσ] at e2
        cases e2
        exact ⟨u, r, .inr ⟨.inl hk, c, hc, hc'⟩⟩
      · rw [List.getElem?_set_ne (Ne.symm hj)] at e2
        obtain ⟨u', r', q⟩ := hl j y v' e1 e2 e3
        refine ⟨u', r', ?_⟩
        rcases q with q | ⟨k, c', e, z'⟩
        · exact .inl q
        · refine .inr ⟨k, c', e, z'.sameBut hs ?_⟩
          rintro rfl
          exact hj (nodup_ix hN e1 (I.ok.inj _ _ _ e hc ▸ hi))
    · by_cases hcc : c' = c
      · subst hcc; exact ⟨_, hc'⟩
      · obtain ⟨w2, z2⟩ := I.cell y c' e
        exact ⟨w2, z2.sameBut hs hcc⟩
    · obtain ⟨e, n, ne, nf, d⟩ := I.pin p hp
      refine ⟨(hs.2 p.1 ?_).trans e, n, ne, nf, d⟩
      intro q
      rw [q, hoc] at e
      have q' : oc = p.2 := Option.some.inj e
      exact d w' (by rw [← q']; exact hocd)
theorem store_ok {M : Model} {A : Around} {E : Value → Shared → Prop} {i : Nat} {x : Str} {v : V} {u : Value} {Q : Unit → Shared → Prop} (I : Inv X pins σ H s) (hN : X.N.Nodup) (hi : X.N[i]? = some x) (hx : Loc X.env.scope x) (r : RelV v u)
    (h : ∀ s', Inv X pins (σ.set i (some v)) H s' → Q () s') (hf : X.fn x = true ∨ X.env.scope.names.lookup x = some .local := by first | exact .inl rfl | exact .inr rfl | assumption) : wpAny M A (storeName X.env x u) Q E s :=
  store_ok2 I hN hi hx r (fun s' I' _ => h s' I') hf
/-- behind a call or a block, the state as it is -/
theorem Inv.call' {s' : Shared} {ch : List Addr} (I : Inv X pins σ H s) (ho : s'.os = s.os) (u : Un (frs X.stack) ch H H' s.heap s'.heap) (hok : HOk X.prog X.w H' s'.heap) (hg : AllBare s'.gens)
    (hch : ∀ b ∈ ch, (b ∈ X.ex ∨ X.s₀.heap.objs.size ≤ b) ∧ b ≠ X.env.locals ∧ (∀ x c, X.env.cells.lookup x = some c → c ≠ b) ∧ ∀ p ∈ X.pn ++ pins, p.1 ≠ b) : Inv X pins σ H' s' := by
  obtain ⟨h', g', d', t', o'⟩ := s'
  have e : o' = s.os := ho
  subst e
  exact I.call (g' := g') (t' := t') (d' := d') u hok hg hch
end

/-! ### the judgements -/
/-- an exception: its class, its own dict's address (where it has one), the abstract heap behind it -/
abbrev XK := Value → Option Addr → Hp → Prop
abbrev St := List (Option V)
abbrev VK := V → Hp → Prop
/-- an expression's reading; a test's; an argument list's -/
abbrev TE := St → Hp → VK → Prop
abbrev TT := St → Hp → (Bool → Hp → Prop) → Prop
abbrev TA := St → Hp → (List V → Hp → Prop) → Prop
/-- what is wanted behind a statement -/
structure Ends where
  nx : St → Hp → Prop
  rt : VK
  bk : St → Hp → Prop := fun _ _ => False
  ct : St → Hp → Prop := fun _ _ => False
abbrev TS := Ends → St → Hp → Prop

def EP (X : Cx) (pins : List (Addr × Obj)) (σ : St) (Q : VK) (u : Value) (s' : Shared) : Prop := ∃ v H', Inv X pins σ H' s' ∧ RelV v u ∧ Q v H'
def TP (X : Cx) (pins : List (Addr × Obj)) (σ : St) (Q : Bool → Hp → Prop) (b : Bool) (s' : Shared) : Prop := ∃ H', Inv X pins σ H' s' ∧ Q b H'
def AP (X : Cx) (pins : List (Addr × Obj)) (σ : St) (Q : List V → Hp → Prop) (us : List Value) (s' : Shared) : Prop := ∃ vs H', Inv X pins σ H' s' ∧ Vals vs us ∧ Q vs H'
def SP (X : Cx) (pins : List (Addr × Obj)) (D : Ends) (f : Flow) (s' : Shared) : Prop :=
  match f with
  | .next => ∃ σ' H', Inv X pins σ' H' s' ∧ D.nx σ' H'
  | .brk => ∃ σ' H', Inv X pins σ' H' s' ∧ D.bk σ' H'
  | .cont => ∃ σ' H', Inv X pins σ' H' s' ∧ D.ct σ' H'
  | .ret u => ∃ v σ' H', Inv X pins σ' H' s' ∧ RelV v u ∧ D.rt v H'

def PE (X : Cx) (e : Expr) (t : TE) : Prop :=
  ∀ (pins : List (Addr × Obj)) (s : Shared) (σ : St) (H : Hp) (Q : VK), Inv X pins σ H s → t σ H Q → wpAny (model X.prog X.w) X.A (eval e X.env) (EP X pins σ Q) X.xe s
def PT (X : Cx) (e : Expr) (t : TT) : Prop :=
  ∀ (pins : List (Addr × Obj)) (s : Shared) (σ : St) (H : Hp) (Q : Bool → Hp → Prop), Inv X pins σ H s → t σ H Q → wpAny (model X.prog X.w) X.A (isTrue e X.env (eval e X.env)) (TP X pins σ Q) X.xe s
/-- a test whatever its 'whole' is (and, or) -/
def PW (X : Cx) (e : Expr) (t : TT) : Prop :=
  ∀ (whole : Sem Value) (pins : List (Addr × Obj)) (s : Shared) (σ : St) (H : Hp) (Q : Bool → Hp → Prop), Inv X pins σ H s → t σ H Q → wpAny (model X.prog X.w) X.A (isTrue e X.env whole) (TP X pins σ Q) X.xe s
theorem PW.pt {X : Cx} {e : Expr} {t : TT} (h : PW X e t) : PT X e t := h _
/-- an argument list (no star), from the left -/
def PA (X : Cx) (es : List Expr) (t : TA) : Prop :=
  ∀ (pos : Pos) (pins : List (Addr × Obj)) (s : Shared) (σ : St) (H : Hp) (Q : List V → Hp → Prop), Inv X pins σ H s → t σ H Q → wpAny (model X.prog X.w) X.A (spliced (backTo pos (starEach es X.env))) (AP X pins σ Q) X.xe s
def PS (X : Cx) (st : Stmt) (t : TS) : Prop :=
  ∀ (pins : List (Addr × Obj)) (s : Shared) (σ : St) (H : Hp) (D : Ends), Inv X pins σ H s → t D σ H → wpAny (model X.prog X.w) X.A (exec st X.env) (SP X pins D) X.xe s
def PSs (X : Cx) (st : List Stmt) (t : TS) : Prop :=
  ∀ (pins : List (Addr × Obj)) (s : Shared) (σ : St) (H : Hp) (D : Ends), Inv X pins σ H s → t D σ H → wpAny (model X.prog X.w) X.A (execs st X.env) (SP X pins D) X.xe s
/-- weaken the end -/
theorem thn {α : Type} {t : Sem α} {Q Q' : α → Shared → Prop} {M : Model} {A : Around} {E : Value → Shared → Prop} {s : Shared} (h : wpAny M A t Q E s) (hQ : ∀ a s, Q a s → Q' a s) : wpAny M A t Q' E s := wpAny_mono h hQ fun _ _ x => x
end L2

namespace L2
open PySem PySem.Spec PyProof.Rows
section
variable {X : Cx}

/-! ### names and constants -/
def tVar (i : Nat) : TE := fun σ H Q => ∃ v, σ[i]? = some (some v) ∧ Q v H
def tC (v : V) : TE := fun _ H Q => Q v H
theorem pe_var {i : Nat} {x : Str} {pos : Pos} (hN : X.N[i]? = some x) (hv : Vis X.env.scope x) (hd : (x == ("__debug__" : Str)) = false := by decide) (hcd : (x == ("__classdict__" : Str)) = false := by decide) : PE X (.Name x pos) (tVar i) := by
  intro pins s σ H Q I h
  obtain ⟨v, e, h⟩ := h
  obtain ⟨m, hn, hl⟩ := I.loc
  obtain ⟨u, r, l⟩ := hl i x v hN e hv
  have fin : EP X pins σ Q u s := ⟨v, H, I, r, h⟩
  rcases l with ⟨hk, hm⟩ | ⟨hk, c, hc, hcell⟩
  · exact wpAny_Name (wpAny_loadName_local I.ok.kind hk hn hm fin) hd
  · rcases hk with hk | hk
    · exact wpAny_Name (wpAny_loadName_cell I.ok.kind hk hc hcell fin) hd
    · exact wpAny_Name (wpAny_loadName_free I.ok.kind hk hc hcell fin hcd) hd
theorem pe_int {i j pos} : PE X (.Constant (.int i) j pos) (tC (.int i)) := fun _ _ _ H _ I h => wpAny_Constant_int ⟨.int i, H, I.tok _, ⟨_, rfl⟩, h⟩
theorem pe_bl {b j pos} : PE X (.Constant (.bool b) j pos) (tC (.bl b)) := fun _ _ _ H _ I h => Constant_bool ⟨.bl b, H, I, rfl, h⟩
theorem pe_str {x j pos} : PE X (.Constant (.str x) j pos) (tC (.str x)) := fun _ _ _ H _ I h => Calls.Constant_str ⟨.str x, H, I.tok _, ⟨_, rfl⟩, h⟩

/-- a global name of the def -/
def Gl (X : Cx) (x : Str) : Prop := X.env.kindOf x = some .globalImplicit
theorem ld_glob {E : Value → Shared → Prop} {pins : List (Addr × Obj)} {s : Shared} {σ : St} {H : Hp} {x : Str} {u : Value} {pos : Pos} {Q : Value → Shared → Prop} (I : Inv X pins σ H s) (hg : Gl X x) (hm : X.mg x = some u) (h : Q u s)
    (hd : (x == ("__debug__" : Str)) = false := by decide) : wpAny (model X.prog X.w) X.A (eval (.Name x pos) X.env) Q E s :=
  Calls.Name_function_global I.ok.kind hg (Calls.loadGlobal_global (by rw [I.ok.glob]; exact I.mod.glob.keeps I.bk) hm h) hd
theorem ld_blt {E : Value → Shared → Prop} {pins : List (Addr × Obj)} {s : Shared} {σ : St} {H : Hp} {x : Str} {u : Value} {pos : Pos} {Q : Value → Shared → Prop} (I : Inv X pins σ H s) (hg : Gl X x) (hm : X.mg x = none) (hv : bootBuiltins x = some u) (h : Q u s)
    (hn : x ≠ "__name__" := by decide) (hd : (x == ("__debug__" : Str)) = false := by decide) : wpAny (model X.prog X.w) X.A (eval (.Name x pos) X.env) Q E s := by
  obtain ⟨mb, h1, h2⟩ := I.mod.blt
  exact Calls.Name_function_global I.ok.kind hg (Calls.loadGlobal_builtin (by rw [I.ok.glob]; exact I.mod.glob.keeps I.bk) hm (by rw [I.ok.blt]; exact h1.keeps I.bk) ((h2 x hn).trans hv) h) hd
/-- a module's constant, a class, a function, as a value -/
theorem pe_glob {x : Str} {v : V} {u : Value} {pos : Pos} (hg : Gl X x) (hm : X.mg x = some u) (r : RelV v u) (hd : (x == ("__debug__" : Str)) = false := by decide) : PE X (.Name x pos) (tC v) :=
  fun _ _ _ H _ I h => ld_glob I hg hm ⟨v, H, I, r, h⟩ hd
theorem pe_bltn {x : Str} {v : V} {u : Value} {pos : Pos} (hg : Gl X x) (hm : X.mg x = none) (hv : bootBuiltins x = some u) (r : RelV v u) (hn : x ≠ "__name__" := by decide) (hd : (x == ("__debug__" : Str)) = false := by decide) : PE X (.Name x pos) (tC v) :=
  fun _ _ _ H _ I h => ld_blt I hg hm hv ⟨v, H, I, r, h⟩ hn hd

/-! ### arithmetic -/
variable {a b : Expr} {ta tb : TE} {pos : Pos}
/-! ### comparisons -/
/-- a comparison as a value, as a test -/
def tB (t : TE) : TT := fun σ H Q => t σ H fun x H1 => ∃ c, x = .bl c ∧ Q c H1
/-- an expression whose value is a bool, as a test -/
theorem pt_val {e : Expr} {t : TE} (h : PE X e t) (he : ∀ whole, isTrue e X.env whole = (do let v ← whole; standAt e.pos; holding [v] (truthy v)) := by intro _; rfl) : PT X e (tB t) := by
  intro pins s σ H Q I hw
  refine isTrue_plain (thn (h pins s σ H _ I hw) fun v s1 ⟨x, H1, I1, r1, q1⟩ => ?_) (he _)
  obtain ⟨d, rfl, q⟩ := q1
  cases r1
  exact wpAny_truthy_bool ⟨H1, I1, q⟩

/-! ### and, or, not -/
variable {tA tB' : TT} {rest : List Expr}
def tAnd (t u : TT) : TT := fun σ H Q => t σ H fun c H1 => if c = true then u σ H1 Q else Q false H1
def tOr (t u : TT) : TT := fun σ H Q => t σ H fun c H1 => if c = true then Q true H1 else u σ H1 Q
def tNot (t : TT) : TT := fun σ H Q => t σ H fun c H1 => Q (!c) H1
theorem pw_and1 (ha : PT X a tA) : PW X (.BoolOp .And [a] pos) tA := by
  intro wh pins s σ H Q I h
  refine isTrue_and (thn (ha pins s σ H Q I h) fun c s1 e => ?_)
  cases c with
  | true => exact isTrue_and_nil e
  | false => exact e
theorem pw_or1 (ha : PT X a tA) : PW X (.BoolOp .Or [a] pos) tA := by
  intro wh pins s σ H Q I h
  refine isTrue_or (thn (ha pins s σ H Q I h) fun c s1 e => ?_)
  cases c with
  | false => exact isTrue_or_nil e
  | true => exact e
theorem pw_and (ha : PT X a tA) (hb : PW X (.BoolOp .And (b :: rest) pos) tB') : PW X (.BoolOp .And (a :: b :: rest) pos) (tAnd tA tB') := by
  intro wh pins s σ H Q I h
  refine isTrue_and (thn (ha pins s σ H _ I h) fun c s1 ⟨H1, I1, q1⟩ => ?_)
  cases c with
  | true => exact hb wh pins s1 σ H1 Q I1 q1
  | false => exact ⟨H1, I1, q1⟩
theorem pw_or (ha : PT X a tA) (hb : PW X (.BoolOp .Or (b :: rest) pos) tB') : PW X (.BoolOp .Or (a :: b :: rest) pos) (tOr tA tB') := by
  intro wh pins s σ H Q I h
  refine isTrue_or (thn (ha pins s σ H _ I h) fun c s1 ⟨H1, I1, q1⟩ => ?_)
  cases c with
  | true => exact ⟨H1, I1, q1⟩
  | false => exact hb wh pins s1 σ H1 Q I1 q1
theorem pt_not (ha : PT X a tA) : PT X (.UnaryOp .Not a pos) (tNot tA) := by
  intro pins s σ H Q I h
  exact isTrue_not (ha pins s σ H (fun c H1 => Q (!c) H1) I h)
end
end L2

namespace L2
open PySem PySem.Spec PyProof.Rows

/-! ### a list, a tuple that is read: tracked, frozen, or an object of the module -/
def SqL (K : PySem.W.Frag) (H : Hp) (a : Addr) (xs : List V) : Prop :=
  Rd H a (.lst xs) ∨
    ∃ (o : Obj) (its : Array Value) (n : Nat), K.lookup a = some o ∧ o.cls = .type "list" ∧ o.dict = none ∧ o.data = .seq its n ∧ its.size ≤ sizeLine ∧ Vals xs its.toList
def SqT (K : PySem.W.Frag) (H : Hp) (a : Addr) (xs : List V) : Prop :=
  Rd H a (.tup xs) ∨
    ∃ (o : Obj) (its : Array Value) (n : Nat), K.lookup a = some o ∧ o.cls = .type "tuple" ∧ o.data = .seq its n ∧ its.size ≤ sizeLine ∧ Vals xs its.toList
def absV : Value → Option V
  | .none => some .non
  | .bool b => some (.bl b)
  | .int i _ => some (.int i)
  | .str x _ => some (.str x)
  | .bytes b _ => some (.byt b)
  | .float b _ => some (.flt b)
  | .ref a => some (.ref a)
  | .type n => some (.ty n)
  | _ => none
theorem RelV.abs {x : V} {u : Value} (r : RelV x u) : absV u = some x := by
  cases x with
  | non => cases r; rfl
  | bl _ => cases r; rfl
  | int _ => obtain ⟨t, rfl⟩ := r; rfl
  | str _ => obtain ⟨t, rfl⟩ := r; rfl
  | byt _ => obtain ⟨t, rfl⟩ := r; rfl
  | flt _ => obtain ⟨t, rfl⟩ := r; rfl
  | ref _ => cases r; rfl
  | ty _ => cases r; rfl
theorem RelV.inj {x y : V} {u : Value} (r : RelV x u) (q : RelV y u) : x = y := Option.some.inj (r.abs.symm.trans q.abs)
theorem Vals.inj : ∀ {xs ys : List V} {us : List Value}, Vals xs us → Vals ys us → xs = ys
  | _, _, _, .nil, .nil => rfl
  | _, _, _, .cons r t, .cons r' t' => by rw [r.inj r', Vals.inj t t']
section
variable {X : Cx} {pins : List (Addr × Obj)} {σ : St} {H : Hp} {s : Shared} {a : Addr} {xs ys : List V}
theorem SqL.of {K : PySem.W.Frag} (h : H a = some (.lst xs)) : SqL K H a xs := .inl (.inl h)
theorem SqT.of {K : PySem.W.Frag} (h : H a = some (.tup xs)) : SqT K H a xs := .inl (.inl h)
theorem Inv.list (I : Inv X pins σ H s) (h : SqL X.K H a xs) : ∃ its : List Value, Vals xs its ∧ PlainL s.heap a its.toArray ∧ xs.length ≤ sizeLine := by
  rcases h with h | ⟨o, its, n, hk, hc, hd, hs, hz, r⟩
  · obtain ⟨z, its, n, r, e⟩ := h.ok I.hok
    exact ⟨its, r, ⟨_, n, e, rfl, rfl, rfl⟩, z⟩
  · refine ⟨its.toList, r, ⟨o, n, I.kIn a o hk, hc, hd, by simpa using hs⟩, ?_⟩
    have e := r.length
    simp only [Array.length_toList] at e
    omega
theorem Inv.tuple (I : Inv X pins σ H s) (h : SqT X.K H a xs) : ∃ its : List Value, Vals xs its ∧ IsTup s.heap a its.toArray ∧ xs.length ≤ sizeLine := by
  rcases h with h | ⟨o, its, n, hk, hc, hs, hz, r⟩
  · obtain ⟨z, its, r, p⟩ := h.ok I.hok
    exact ⟨its, r, p, z⟩
  · refine ⟨its.toList, r, ⟨o, I.kIn a o hk, hc, n, by simpa using hs⟩, ?_⟩
    have e := r.length
    simp only [Array.length_toList] at e
    omega
theorem Inv.list_inj (I : Inv X pins σ H s) (h : SqL X.K H a xs) (h' : SqL X.K H a ys) : xs = ys := by
  obtain ⟨its, r, ⟨o, n, e, _, _, d⟩, _⟩ := I.list h
  obtain ⟨its', r', ⟨o', n', e', _, _, d'⟩, _⟩ := I.list h'
  rw [e] at e'; cases e'
  rw [d] at d'
  injection d' with d1 _
  have : its = its' := by simpa using congrArg Array.toList d1
  subst this
  exact r.inj r'
end

/-! ### another wish about exceptions -/
abbrev Cx.wish (X : Cx) (E : Value → Shared → Prop) : Cx := { X with xe := E }
/-- no exception leaves -/
abbrev Cx.nox (X : Cx) : Cx := X.wish fun _ _ => False
theorem Cx.Ok.wish {X : Cx} (ok : X.Ok) (E : Value → Shared → Prop) : (X.wish E).Ok :=
  ⟨ok.mod, ok.kind, ok.glob, ok.blt, ok.above, ok.inj, ok.has, ok.cab, ok.hd, ok.frames, ok.stk, ok.exf, ok.bs, ok.bsz, ok.noex, ok.exfs, ok.funs, ok.frf⟩
theorem Cx.Ok.unwish {X : Cx} {E : Value → Shared → Prop} (ok : (X.wish E).Ok) : X.Ok :=
  ⟨ok.mod, ok.kind, ok.glob, ok.blt, ok.above, ok.inj, ok.has, ok.cab, ok.hd, ok.frames, ok.stk, ok.exf, ok.bs, ok.bsz, ok.noex, ok.exfs, ok.funs, ok.frf⟩
section
variable {X : Cx} {pins : List (Addr × Obj)} {σ : St} {H : Hp} {s : Shared} {E : Value → Shared → Prop}
theorem Inv.wish (I : Inv X pins σ H s) (E : Value → Shared → Prop) : Inv (X.wish E) pins σ H s := ⟨I.ok.wish E, I.os, I.bare, I.base, I.loc, I.cell, I.free, I.freeC, I.pin, I.hok, I.len⟩
theorem Inv.unwish (I : Inv (X.wish E) pins σ H s) : Inv X pins σ H s := ⟨I.ok.unwish, I.os, I.bare, I.base, I.loc, I.cell, I.free, I.freeC, I.pin, I.hok, I.len⟩
theorem SP.unwish {D : Ends} {f : Flow} {s' : Shared} (h : SP (X.wish E) pins D f s') : SP X pins D f s' := by
  cases f with
  | next => obtain ⟨σ', H', I, q⟩ := h; exact ⟨σ', H', I.unwish, q⟩
  | brk => obtain ⟨σ', H', I, q⟩ := h; exact ⟨σ', H', I.unwish, q⟩
  | cont => obtain ⟨σ', H', I, q⟩ := h; exact ⟨σ', H', I.unwish, q⟩
  | ret u => obtain ⟨v, σ', H', I, r, q⟩ := h; exact ⟨v, σ', H', I.unwish, r, q⟩
theorem PSs.nox {st : List Stmt} {t : TS} (h : PSs X.nox st t) : PSs X st t := fun pins s σ H D I hw =>
  wpAny_mono (h pins s σ H D (I.wish _) hw) (fun _ _ q => q.unwish) fun _ _ z => False.elim z
end

/-! ### blocks and small statements -/
section
variable {X : Cx} {st : Stmt} {rest : List Stmt} {t u : TS} {e : Expr} {te : TE} {pos : Pos}
def tNext : TS := fun D σ H => D.nx σ H
def tSeq (t u : TS) : TS := fun D σ H => t { D with nx := u D } σ H
theorem pss_nil : PSs X [] tNext := fun _ _ σ H _ I h => wpAny_execs_nil ⟨σ, H, I, h⟩
theorem pss_cons (h1 : PS X st t) (h2 : PSs X rest u) : PSs X (st :: rest) (tSeq t u) := by
  intro pins s σ H D I h
  refine wpAny_execs_cons (thn (h1 pins s σ H { D with nx := u D } I h) fun f s1 q => ?_)
  cases f with
  | next =>
    obtain ⟨σ', H', I', q⟩ := q
    exact h2 pins s1 σ' H' D I' q
  | ret v => exact q
  | brk => exact q
  | cont => exact q
theorem pss_one (h1 : PS X st t) : PSs X [st] t := by
  intro pins s σ H D I h
  refine wpAny_execs_cons (thn (h1 pins s σ H D I h) fun f s1 q => ?_)
  cases f with
  | next => exact wpAny_execs_nil q
  | ret v => exact q
  | brk => exact q
  | cont => exact q
/-- in a def's body nothing is shown -/
theorem Inv.quiet {pins : List (Addr × Obj)} {σ : St} {H : Hp} {s : Shared} (I : Inv X pins σ H s) : interactive X.env = false := by simp [interactive, I.ok.kind]
/-- an expression whose value is dropped -/
def tDrop (te : TE) : TS := fun D σ H => te σ H fun _ H1 => D.nx σ H1
theorem ps_expr (he : PE X e te) (hs : swapsWith e none pos.line X.env = pure false := by rfl) : PS X (.Expr e pos) (tDrop te) := by
  intro pins s σ H D I h
  exact wpAny_Expr_any (thn (he pins s σ H _ I h) fun v s1 ⟨x, H1, I1, r1, q1⟩ => ⟨σ, H1, I1, q1⟩) I.quiet hs
def tRet (te : TE) : TS := fun D σ H => te σ H D.rt
theorem ps_ret (he : PE X e te) : PS X (.Return (some e) pos) (tRet te) := by
  intro pins s σ H D I h
  exact wpAny_Return_some (thn (he pins s σ H _ I h) fun v s1 ⟨x, H1, I1, r1, q1⟩ => ⟨x, σ, H1, I1, r1, q1⟩)
def tIfS (c : TT) (t u : TS) : TS := fun D σ H => c σ H fun b H1 => if b = true then t D σ H1 else u D σ H1
theorem ps_if {c : Expr} {a b : List Stmt} {tc : TT} (hc : PT X c tc) (ha : PSs X a t) (hb : PSs X b u) : PS X (.If c a b pos) (tIfS tc t u) := by
  intro pins s σ H D I h
  refine wpAny_If (thn (hc pins s σ H _ I h) fun d s1 ⟨H1, I1, q1⟩ => ?_)
  cases d with
  | true => exact ha pins s1 σ H1 D I1 q1
  | false => exact hb pins s1 σ H1 D I1 q1
end

/-! ### targets -/
abbrev TG := V → St → Hp → (St → Hp → Prop) → Prop
abbrev TGs := List V → St → Hp → (St → Hp → Prop) → Prop
def PG (X : Cx) (target : Expr) (t : TG) : Prop :=
  ∀ (pins : List (Addr × Obj)) (s : Shared) (σ : St) (H : Hp) (v : V) (u : Value) (Q : St → Hp → Prop), Inv X pins σ H s → RelV v u → t v σ H Q →
    wpAny (model X.prog X.w) X.A (assign target X.env u) (fun _ s' => ∃ σ' H', Inv X pins σ' H' s' ∧ Q σ' H') X.xe s
/-- several targets, one after another -/
def PGs (X : Cx) (ts : List Expr) (t : TGs) : Prop :=
  ∀ (pins : List (Addr × Obj)) (s : Shared) (σ : St) (H : Hp) (vs : List V) (us : List Value) (Q : St → Hp → Prop), Inv X pins σ H s → Vals vs us → t vs σ H Q →
    wpAny (model X.prog X.w) X.A (assignInOrder ((assignEach ts X.env).map (·.2)) us) (fun _ s' => ∃ σ' H', Inv X pins σ' H' s' ∧ Q σ' H') X.xe s
section
variable {X : Cx} {pos : Pos}
def gName (i : Nat) : TG := fun v σ H Q => Q (σ.set i (some v)) H
theorem pg_name {i : Nat} {x : Str} (hN : X.N.Nodup) (hi : X.N[i]? = some x) (hx : Loc X.env.scope x) (hf : X.fn x = true ∨ X.env.scope.names.lookup x = some .local := by first | exact .inl rfl | exact .inr rfl | assumption) : PG X (.Name x pos) (gName i) := by
  intro pins s σ H v u Q I r h
  exact wpAny_assign_Name (store_ok I hN hi hx r (fun s' I' => ⟨_, H, I', h⟩) hf)
/-- target = value -/
def tAsg (te : TE) (g : TG) : TS := fun D σ H => te σ H fun x H1 => g x σ H1 D.nx
/-- name = value -/
theorem ps_set {i : Nat} {x : Str} {e : Expr} {te : TE} {pos' : Pos} (hN : X.N.Nodup) (hi : X.N[i]? = some x) (hx : Loc X.env.scope x) (he : PE X e te) (hs : swapsWith e (some (.Name x pos')) pos.line X.env = pure false := by rfl) (hf : X.fn x = true ∨ X.env.scope.names.lookup x = some .local := by first | exact .inl rfl | exact .inr rfl | assumption) :
    PS X (.Assign [.Name x pos'] e pos) (tAsg te (gName i)) := by
  intro pins s σ H D I h
  refine wpAny_Assign_Name (thn (he pins s σ H _ I h) fun v s1 ⟨y, H1, I1, r1, q1⟩ => ?_) hs
  exact store_ok I1 hN hi hx r1 (fun s2 I2 => ⟨_, H1, I2, q1⟩) hf
end

/-! ### while -/

/-! ### what a loop or a comprehension walks -/
/-- at turn i: it yields x (the heap may grow), or it stops -/
structure It where
  go : Nat → Hp → Prop
  yld : Nat → Hp → V → Hp → Prop
  stop : Nat → Hp → Prop
/-- the iterator's own objects may turn: they are not the frame's, not pinned, younger than the entry (or a comprehension's own) -/
def FpOk (X : Cx) (pins : List (Addr × Obj)) (H : Hp) (b : Addr) : Prop :=
  H b = none ∧ b ≠ X.env.locals ∧ b ∉ X.fs ∧ (b ∈ X.ex ∨ X.s₀.heap.objs.size ≤ b) ∧ (∀ x c, X.env.cells.lookup x = some c → c ≠ b) ∧ ∀ p ∈ X.pn ++ pins, p.1 ≠ b
theorem Inv.fpOk {X : Cx} {pins : List (Addr × Obj)} {σ : St} {H H' : Hp} {s : Shared} {b : Addr} (I : Inv X pins σ H s) (hb : s.heap.objs.size ≤ b) (hn : H' b = none) : FpOk X pins H' b := by
  refine ⟨hn, Nat.ne_of_gt (Nat.lt_of_lt_of_le I.lt hb), I.nofs hb, .inr (Nat.le_trans I.sz hb), fun x c e z => ?_, fun p hp z => ?_⟩
  · obtain ⟨v, q⟩ := I.cell x c e
    exact absurd (Nat.lt_of_lt_of_le q.lt (by rw [z]; exact hb)) (Nat.lt_irrefl _)
  · exact absurd (Nat.lt_of_lt_of_le (Heap.lt_size (I.pin p hp).1) (by rw [z]; exact hb)) (Nat.lt_irrefl _)
structure Turn (P : Program) (w : World) (K : PySem.W.Frag) (tg : Expr) (J : It) (fp : List Addr) (it : Addr) (tn : Nat → Heap → Prop) : Prop where
  mem : it ∈ fp
  obj : ∀ i h, tn i h → ∀ b ∈ fp, ∃ o, h.get? b = some o ∧ ∀ v, o.data ≠ .cell v
  keep : ∀ i h h', tn i h → (∀ b ∈ fp, ∀ o, h.get? b = some o → h'.get? b = some o) → tn i h'
  item : ∀ (X : Cx), X.prog = P → X.w = w → X.K = K → X.calm = true → ∀ (i : Nat) (pins : List (Addr × Obj)) (s : Shared) (σ : St) (H : Hp) (E : Value → Shared → Prop), Inv X pins σ H s → (∀ b ∈ fp, FpOk X pins H b) → tn i s.heap → J.go i H →
    wpAny (model P w) X.A (pyNext (.ref it)) (fun r s1 => ∃ u, r = some u ∧
      wpAny (model P w) X.A (letOwnedTupleGo tg (.ref it) u) (fun _ s2 => ∃ x H', Inv X pins σ H' s2 ∧ RelV x u ∧ J.yld i H x H' ∧ tn (i + 1) s2.heap ∧ ∀ b ∈ fp, H' b = none) E s1) E s
  done : ∀ (X : Cx), X.prog = P → X.w = w → X.K = K → X.calm = true → ∀ (i : Nat) (pins : List (Addr × Obj)) (s : Shared) (σ : St) (H : Hp) (E : Value → Shared → Prop), Inv X pins σ H s → (∀ b ∈ fp, FpOk X pins H b) → tn i s.heap → J.stop i H →
    wpAny (model P w) X.A (pyNext (.ref it)) (fun r s1 => r = none ∧ Inv X pins σ H s1) E s
  self : ∀ (A : Around) (i : Nat) (s : Shared) (Q : Value → Shared → Prop) (E : Value → Shared → Prop), tn i s.heap → Q (.ref it) s → wpAny (model P w) A (pyIter (.ref it)) Q E s
abbrev TI := St → Hp → (It → Hp → Prop) → Prop
/-- an iterator has come -/
def PIE (X : Cx) (pins : List (Addr × Obj)) (σ : St) (tg : Expr) (R : It → Hp → Prop) (itv : Value) (s2 : Shared) : Prop :=
  ∃ (it : Addr) (fp : List Addr) (tn : Nat → Heap → Prop) (J : It) (H' : Hp), itv = .ref it ∧ Inv X pins σ H' s2 ∧ Turn X.prog X.w X.K tg J fp it tn ∧ tn 0 s2.heap ∧ (∀ b ∈ fp, FpOk X pins H' b) ∧ R J H'
def PI (X : Cx) (tg iter : Expr) (wi : TI) : Prop :=
  ∀ (pins : List (Addr × Obj)) (s : Shared) (σ : St) (H : Hp) (R : It → Hp → Prop), Inv X pins σ H s → wi σ H R →
    wpAny (model X.prog X.w) X.A (eval iter X.env) (fun v s1 => wpAny (model X.prog X.w) X.A (pyIter v) (PIE X pins σ tg R) X.xe s1) X.xe s

/-- the step ahead of the store is nothing for an iterator that keeps no tuple -/
theorem go_of {M : Model} {A : Around} {E : Value → Shared → Prop} {s : Shared} {tg : Expr} {it : Addr} {u : Value} {o : Obj} {n : String} {vs : Array Value} {Q : Unit → Shared → Prop} (ho : s.heap.get? it = some o) (hc : o.cls = .type n) (hd : o.data = .fields vs)
    (hn : ["enumerate", "zip", "dict_itemiterator", "dict_reverseitemiterator", "odict_iterator", "itertools.zip_longest", "itertools.pairwise"].contains n = false) (hQ : Q () s) : wpAny M A (letOwnedTupleGo tg (.ref it) u) Q E s := by
  unfold letOwnedTupleGo
  cases tg <;> first
    | exact wpAny_pure hQ
    | (cases u <;> first
        | exact wpAny_pure hQ
        | (refine wpAny_bind (wpAny_load ho ?_)
           rw [hc, hd]
           show wpAny M A (if (["enumerate", "zip", "dict_itemiterator", "dict_reverseitemiterator", "odict_iterator", "itertools.zip_longest", "itertools.pairwise"].contains n && vs[0]? == some (rawInt _)) = true then _ else _) Q E s
           rw [if_neg (by intro h; rw [hn, Bool.false_and] at h; cases h)]
           exact wpAny_pure hQ))

/-- the list at a, as it stands at each turn (a loop may append to it) -/
def Itl (K : PySem.W.Frag) (a : Addr) : It :=
  ⟨fun i H => ∃ xs x, SqL K H a xs ∧ xs[i]? = some x, fun i H x H' => H' = H ∧ ∀ xs, SqL K H a xs → xs[i]? = some x, fun i H => ∃ xs, SqL K H a xs ∧ xs.length ≤ i⟩
/-- lo, lo + 1, .. (n of them) -/
def Itr (lo : Int) (n : Nat) : It := ⟨fun i _ => i < n, fun i H x H' => H' = H ∧ x = .int (lo + i), fun i _ => n ≤ i⟩
theorem turn_list {P : Program} {w : World} {K : PySem.W.Frag} {tg : Expr} (a it : Addr) : Turn P w K tg (Itl K a) [it] it (fun i h => h.IsListIter it a i) where
  mem := by simp
  obj := fun i h st b hb => by
    have e : b = it := by simpa using hb
    subst e
    obtain ⟨o, e, c, d⟩ := st
    exact ⟨o, e, fun v z => by rw [d] at z; cases z⟩
  keep := fun i h h' st k => st.at fun o e => k it (by simp) o e
  item := by
    intro X hP hw hK hc i pins s σ H E I hf st hg
    subst hP hw hK
    obtain ⟨xs, x, hq, hx⟩ := hg
    obtain ⟨its, rv, p, hz⟩ := I.list hq
    obtain ⟨u, hu, ru⟩ := rv.get hx
    obtain ⟨f0, f1, f2, f3, f4, f5⟩ := hf it (by simp)
    refine wpAny_pyNext_list_item st p.isList (x := u) (by simpa using hu) fun h' st' sb => ?_
    have I1 : Inv X pins σ H { s with heap := h' } := I.turned (t' := s.toks) (fun b o hb e => (sb.2 b hb).trans e) f0 f1 f3 f4 f5
    obtain ⟨o, e, c, d⟩ := id st'
    exact ⟨u, rfl, go_of (s := { s with heap := h' }) e c d (by decide) ⟨x, H, I1, ru, ⟨rfl, fun ys hy => by rw [I.list_inj hy hq]; exact hx⟩, st', fun b hb => (hf b hb).1⟩⟩
  done := by
    intro X hP hw hK hc i pins s σ H E I hf st hg
    subst hP hw hK
    obtain ⟨xs, hq, hx⟩ := hg
    obtain ⟨its, rv, p, hz⟩ := I.list hq
    obtain ⟨f0, f1, f2, f3, f4, f5⟩ := hf it (by simp)
    have hl := rv.length
    exact wpAny_pyNext_list_end (I.ok.hd hc) st p.isList (by simp; omega) fun h' eb => ⟨rfl, I.turned (t' := s.toks) (fun b o hb e => eb b o hb e) f0 f1 f3 f4 f5⟩
  self := fun _ _ _ _ _ st h => wpAny_pyIter_listiter st h
theorem turn_range {P : Program} {w : World} {K : PySem.W.Frag} {tg : Expr} (it : Addr) (lo : Int) (n : Nat) : Turn P w K tg (Itr lo n) [it] it (fun i h => IsRangeIter h it (lo + (i : Nat) * 1) ((n : Int) - (i : Nat)) 1) where
  mem := by simp
  obj := fun i h st b hb => by
    have e : b = it := by simpa using hb
    subst e
    exact ⟨_, st, fun v z => by
      have z' : Data.fields _ = Data.cell v := z
      cases z'⟩
  keep := fun i h h' st k => k it (by simp) _ st
  item := by
    intro X hP hw hK hc i pins s σ H E I hf st hg
    subst hP hw hK
    obtain ⟨f0, f1, f2, f3, f4, f5⟩ := hf it (by simp)
    have W := Walks.range (prog := X.prog) (w := X.w) (I.ok.hd hc) it lo 1 n
    refine W.item i s _ _ hg st fun v h' tk hv st' kk => ?_
    obtain ⟨t, rfl⟩ := hv
    have I1 : Inv X pins σ H { s with heap := h', toks := tk } := I.turned (fun b o hb e => kk b o (by simpa using hb) e) f0 f1 f3 f4 f5
    refine ⟨_, rfl, go_of (s := { s with heap := h', toks := tk }) (n := "range_iterator") st' rfl rfl (by decide) ⟨.int (lo + i), H, I1, ⟨t, ?_⟩, ⟨rfl, rfl⟩, st', fun b hb => (hf b hb).1⟩⟩
    rw [Int.mul_one]
  done := by
    intro X hP hw hK hc i pins s σ H E I hf st hg
    subst hP hw hK
    obtain ⟨f0, f1, f2, f3, f4, f5⟩ := hf it (by simp)
    exact wpAny_pyNext_range_end (I.ok.hd hc) st (by have : n ≤ i := hg; omega) fun h' eb => ⟨rfl, I.turned (t' := s.toks) (fun b o hb e => eb b o hb e) f0 f1 f3 f4 f5⟩
  self := fun _ _ _ _ _ st h => wpAny_pyIter_rangeiter st h
end L2

namespace L2
open PySem PySem.Spec PyProof.Rows
section
variable {X : Cx} {tg : Expr}
def iList (K : PySem.W.Frag) (tl : TE) : TI := fun σ H R => tl σ H fun x H1 => ∃ a, x = .ref a ∧ (∃ xs, SqL K H1 a xs) ∧ R (Itl K a) H1
theorem pi_list {l : Expr} {tl : TE} (hl : PE X l tl) : PI X tg l (iList X.K tl) := by
  intro pins s σ H R I h
  refine thn (hl pins s σ H _ I h) fun v s1 ⟨x, H1, I1, r1, q1⟩ => ?_
  obtain ⟨a, e, ⟨xs, hq⟩, q⟩ := q1
  subst e
  cases r1
  obtain ⟨its, rv, p, hz⟩ := I1.list hq
  refine wpAny_pyIter_list p.isList ?_
  refine ⟨s1.heap.objs.size, [s1.heap.objs.size], _, _, H1, rfl, I1.kept (t' := s1.toks) fun b o e => Heap.get?_push_of_some _ e, turn_list a _, ⟨_, Heap.get?_push_size _ rfl, rfl, rfl⟩, fun b hb => ?_, q⟩
  have e : b = s1.heap.objs.size := by simpa using hb
  subst e
  exact I1.fpOk (Nat.le_refl _) (I1.hok.fresh (Nat.le_refl _))
/-- a range object just made, walked -/
theorem range_it {pins : List (Addr × Obj)} {σ : St} {H : Hp} {s : Shared} {R : It → Hp → Prop} {E : Value → Shared → Prop} {lo hi : Int} {t u v : Tok} {tk : Nat} (I : Inv X pins σ H s) (h1 : -(2 ^ 62) ≤ lo) (h2 : lo < 2 ^ 62) (h3 : -(2 ^ 62) ≤ hi) (h4 : hi < 2 ^ 62)
    (q : R (Itr lo (hi - lo).toNat) H) : wpAny (model X.prog X.w) X.A (pyIter (.ref s.heap.objs.size)) (PIE X pins σ tg R) E { s with heap := s.heap.push { cls := .type "range", data := .fields #[.int lo t, .int hi u, .int 1 v] }, toks := tk } := by
  refine wpAny_pyIter_range (IsRange.new ..) (small_one h1 h2 h3 h4) ?_
  have I1 : Inv X pins σ H { s with heap := s.heap.push { cls := .type "range", data := .fields #[.int lo t, .int hi u, .int 1 v] }, toks := tk } := I.kept fun b o e => Heap.get?_push_of_some _ e
  refine ⟨(s.heap.push { cls := .type "range", data := .fields #[.int lo t, .int hi u, .int 1 v] }).objs.size, [(s.heap.push { cls := .type "range", data := .fields #[.int lo t, .int hi u, .int 1 v] }).objs.size], _, _, H, rfl,
    I1.kept (t' := tk) fun b o e => Heap.get?_push_of_some _ e, turn_range _ lo (hi - lo).toNat, ?_, fun b hb => ?_, q⟩
  · have e1 : lo + ((0 : Nat) : Int) * 1 = lo := by simp
    have e2 : (((hi - lo).toNat : Nat) : Int) - ((0 : Nat) : Int) = Builtin.Range.rangeSize lo hi 1 := by rw [rangeSize_one]; split <;> omega
    show IsRangeIter _ _ (lo + ((0 : Nat) : Int) * 1) ((((hi - lo).toNat : Nat) : Int) - ((0 : Nat) : Int)) 1
    rw [e1, e2]
    exact Heap.get?_push_size _ rfl
  · have e : b = (s.heap.push { cls := .type "range", data := .fields #[.int lo t, .int hi u, .int 1 v] }).objs.size := by simpa using hb
    subst e
    exact I1.fpOk (Nat.le_refl _) (I1.hok.fresh (Nat.le_refl _))
def iRng1 (ta : TA) : TI := fun σ H R => ta σ H fun vs H1 => ∃ j : Int, vs = [.int j] ∧ -(2 ^ 62) ≤ j ∧ j < 2 ^ 62 ∧ R (Itr 0 j.toNat) H1
def iRng2 (ta : TA) : TI := fun σ H R => ta σ H fun vs H1 => ∃ i j : Int, vs = [.int i, .int j] ∧ (-(2 ^ 62) ≤ i ∧ i < 2 ^ 62 ∧ -(2 ^ 62) ≤ j ∧ j < 2 ^ 62) ∧ R (Itr i (j - i).toNat) H1
theorem pi_range1 {a : Expr} {ta : TA} {p pos : Pos} (hg : Gl X "range") (hm : X.mg "range" = none) (ha : PA X [a] ta) (hs : starEach [a] X.env = [(false, eval a X.env)] := by rfl) : PI X tg (.Call (.Name "range" p) [a] [] pos) (iRng1 ta) := by
  intro pins s σ H R I h
  refine Call_ (ld_blt I hg hm boot_range (PyProof.Rows.callWith_type1 (thn (ha pos pins s σ H _ I h) fun us s1 ⟨vs, H1, I1, r1, q1⟩ => ?_) hs rfl))
  obtain ⟨j, e, q1, q2, q⟩ := q1
  subst e
  cases r1 with
  | cons r rr =>
    cases rr
    obtain ⟨t, rfl⟩ := r
    exact call_range_1 (range_it I1 (by omega) (by omega) q1 q2 (by simpa using q))
theorem pi_range2 {a b : Expr} {ta : TA} {p pos : Pos} (hg : Gl X "range") (hm : X.mg "range" = none) (ha : PA X [a, b] ta) (hs : starEach [a, b] X.env = [(false, eval a X.env), (false, eval b X.env)] := by rfl) (hs2 : starEach [b] X.env = [(false, eval b X.env)] := by rfl) :
    PI X tg (.Call (.Name "range" p) [a, b] [] pos) (iRng2 ta) := by
  intro pins s σ H R I h
  refine Call_ (ld_blt I hg hm boot_range (PyProof.Rows.callWith_type1 (thn (ha pos pins s σ H _ I h) fun us s1 ⟨vs, H1, I1, r1, q1⟩ => ?_) (by rw [hs, hs2]) (by rw [hs2]; rfl)))
  obtain ⟨i, j, e, ⟨q1, q2, q3, q4⟩, q⟩ := q1
  subst e
  cases r1 with
  | cons r rr =>
    cases rr with
    | cons r' rr =>
      cases rr
      obtain ⟨t, rfl⟩ := r
      obtain ⟨t', rfl⟩ := r'
      exact call_range_2 (range_it I1 q1 q2 q3 q4 q)

/-! ### for -/
/-- W: the invariant by the turn and a measure; N: what the body is to reach -/
def tFor (wi : TI) (g : TG) (tb : TS) : TS := fun D σ H => wi σ H fun J H1 => ∃ W : Nat → Nat → St → Hp → Prop, (∃ m, W 0 m σ H1) ∧ ∀ i m σ H, W i m σ H →
  (J.stop i H ∧ D.nx σ H) ∨ (J.go i H ∧ ∃ N : St → Hp → Prop, (∀ σ' H', N σ' H' → ∃ m', m' < m ∧ W (i + 1) m' σ' H') ∧ ∀ x H', J.yld i H x H' → g x σ H' fun σ2 H2 => tb { D with nx := N, ct := N, bk := D.nx } σ2 H2)
/-- the records at fp as they stand -/
def pinsAt (fp : List Addr) (h : Heap) : List (Addr × Obj) := fp.filterMap fun b => (h.get? b).map fun o => (b, o)
theorem mem_pinsAt {fp : List Addr} {h : Heap} {b : Addr} {o : Obj} (hb : b ∈ fp) (e : h.get? b = some o) : (b, o) ∈ pinsAt fp h := List.mem_filterMap.mpr ⟨b, hb, by rw [e]; rfl⟩
theorem of_pinsAt {fp : List Addr} {h : Heap} {p : Addr × Obj} (hp : p ∈ pinsAt fp h) : p.1 ∈ fp ∧ h.get? p.1 = some p.2 := by
  obtain ⟨b, hb, e⟩ := List.mem_filterMap.mp hp
  cases q : h.get? b with
  | none => rw [q] at e; cases e
  | some o =>
    rw [q] at e
    have e' : (b, o) = p := Option.some.inj e
    subst e'
    exact ⟨hb, q⟩
theorem Inv.pinned {pins : List (Addr × Obj)} {σ : St} {H : Hp} {s : Shared} {fp : List Addr} (I : Inv X pins σ H s) (hf : ∀ b ∈ fp, FpOk X pins H b) (ho : ∀ b ∈ fp, ∃ o, s.heap.get? b = some o ∧ ∀ v, o.data ≠ .cell v) : Inv X (pins ++ pinsAt fp s.heap) σ H s :=
  I.pins_of fun p hp => (List.mem_append.mp hp).elim (fun z => I.pin p (List.mem_append_right _ z)) fun z => by
    obtain ⟨hb, e⟩ := of_pinsAt z
    obtain ⟨f0, f1, f2, _⟩ := hf p.1 hb
    obtain ⟨o, e', d⟩ := ho p.1 hb
    rw [e] at e'; cases e'
    exact ⟨e, f0, f1, f2, d⟩
theorem Inv.unpinned {pins pl : List (Addr × Obj)} {σ : St} {H : Hp} {s : Shared} (I : Inv X (pins ++ pl) σ H s) : Inv X pins σ H s := I.pins_of fun p hp => I.pin p (List.mem_append_right _ (List.mem_append_left _ hp))
theorem ps_for {iter : Expr} {body : List Stmt} {wi : TI} {g : TG} {tb : TS} {pos : Pos} (hp : PassesOwn (model X.prog X.w) X.A X.env X.xe) (hc : X.calm = true) (hi : PI X tg iter wi) (hg : PG X tg g) (hb : PSs X body tb)
    (hs : ∀ x, foldedSetIterable iter X.env x = pure x := by intro _; rfl) : PS X (.For tg iter body [] pos) (tFor wi g tb) := by
  intro pins s σ H D I h
  refine wpAny_For (thn (hi pins s σ H _ I h) fun v s1 h1 => thn h1 fun itv s2 h2 => ?_) hs
  obtain ⟨it, fp, tn, J, H2, e, I2, T, st2, f2, W, ⟨m0, w0⟩, turn⟩ := h2
  subst e
  -- what stays true of the iterator's objects through the loop
  have stat : ∀ {H' : Hp}, (∀ b ∈ fp, H' b = none) → ∀ b ∈ fp, FpOk X pins H' b := fun hn b hb => ⟨hn b hb, (f2 b hb).2⟩
  refine codeAny_forLoop_any (fun n s' => ∃ i σ' H', Inv X pins σ' H' s' ∧ tn i s'.heap ∧ (∀ b ∈ fp, H' b = none) ∧ W i n σ' H') ?_ m0 ⟨0, σ, H2, I2, st2, fun b hb => (f2 b hb).1, w0⟩
  rintro n s3 ⟨i, σ3, H3, I3, st3, fr3, w3⟩
  rcases turn i n σ3 H3 w3 with ⟨stop, qn⟩ | ⟨go, N, hN, step⟩
  · refine wpAny_passesOwn hp (thn (T.done X rfl rfl rfl hc i pins s3 σ3 H3 X.xe I3 (stat fr3) st3 stop) fun r s4 ⟨hr, I4⟩ => ?_)
    subst hr
    exact wpAny_execs_nil ⟨σ3, H3, I4, qn⟩
  · refine wpAny_passesOwn hp (thn (T.item X rfl rfl rfl hc i pins s3 σ3 H3 X.xe I3 (stat fr3) st3 go) fun r s4 ⟨u, hr, h4⟩ => ?_)
    subst hr
    refine wpAny_passesOwn hp (thn h4 fun _ s5 ⟨x, H5, I5, r5, y5, st5, fr5⟩ => ?_)
    have I5' := I5.pinned (stat fr5) (T.obj _ _ st5)
    refine wpAny_passesOwn hp (thn (hg _ s5 σ3 H5 x u _ I5' r5 (step x H5 y5)) fun _ s6 ⟨σ6, H6, I6, q6⟩ => ?_)
    refine wpAny_passesOwn hp (thn (hb _ s6 σ6 H6 _ I6 q6) fun f s7 q7 => ?_)
    have again : ∀ {σ7 : St} {H7 : Hp}, Inv X (pins ++ pinsAt fp s5.heap) σ7 H7 s7 → N σ7 H7 → ∃ m, m < n ∧ ∃ i σ' H', Inv X pins σ' H' s7 ∧ tn i s7.heap ∧ (∀ b ∈ fp, H' b = none) ∧ W i m σ' H' := fun {σ7 H7} I7 n7 => by
      obtain ⟨m', hm, w7⟩ := hN σ7 H7 n7
      refine ⟨m', hm, i + 1, σ7, H7, I7.unpinned, T.keep _ _ _ st5 fun b hb o e => (I7.pin (b, o) (List.mem_append_right _ (List.mem_append_right _ (mem_pinsAt hb e)))).1, fun b hb => ?_, w7⟩
      obtain ⟨o, e, d⟩ := T.obj _ _ st5 b hb
      exact (I7.pin (b, o) (List.mem_append_right _ (List.mem_append_right _ (mem_pinsAt hb e)))).2.1
    cases f with
    | next => obtain ⟨σ7, H7, I7, n7⟩ := q7; exact again I7 n7
    | cont => obtain ⟨σ7, H7, I7, n7⟩ := q7; exact again I7 n7
    | brk => obtain ⟨σ7, H7, I7, q7⟩ := q7; exact ⟨σ7, H7, I7.unpinned, q7⟩
    | ret v => obtain ⟨x7, σ7, H7, I7, r7, q7⟩ := q7; exact ⟨x7, σ7, H7, I7.unpinned, r7, q7⟩
end

/-! ### the forms one uses -/
/-- over a list that the body leaves as it is -/
theorem for_list {K : PySem.W.Frag} {a : Addr} {xs : List V} {g : TG} {tb : TS} {D : Ends} {σ : St} {H : Hp} (Pv : Nat → St → Hp → Prop) (h0 : Pv 0 σ H) (hl : ∀ i σ H, i ≤ xs.length → Pv i σ H → SqL K H a xs)
    (hs : ∀ i x σ H, xs[i]? = some x → Pv i σ H → g x σ H fun σ2 H2 => tb { D with nx := Pv (i + 1), ct := Pv (i + 1), bk := D.nx } σ2 H2) (hd : ∀ σ H, Pv xs.length σ H → D.nx σ H) :
    ∃ W : Nat → Nat → St → Hp → Prop, (∃ m, W 0 m σ H) ∧ ∀ i m σ H, W i m σ H →
      ((Itl K a).stop i H ∧ D.nx σ H) ∨ ((Itl K a).go i H ∧ ∃ N : St → Hp → Prop, (∀ σ' H', N σ' H' → ∃ m', m' < m ∧ W (i + 1) m' σ' H') ∧ ∀ x H', (Itl K a).yld i H x H' → g x σ H' fun σ2 H2 => tb { D with nx := N, ct := N, bk := D.nx } σ2 H2) := by
  refine ⟨fun i m σ H => m = xs.length - i ∧ i ≤ xs.length ∧ Pv i σ H, ⟨xs.length, by simp, Nat.zero_le _, h0⟩, ?_⟩
  rintro i m σ H ⟨rfl, hi, p⟩
  have q := hl i σ H hi p
  by_cases hlt : i < xs.length
  · refine .inr ⟨⟨xs, xs[i], q, by simp [hlt]⟩, Pv (i + 1), fun σ' H' p' => ⟨xs.length - (i + 1), by omega, rfl, hlt, p'⟩, fun x H' y => ?_⟩
    obtain ⟨e, y⟩ := y
    subst e
    exact hs i x σ _ (y xs q) p
  · have e : i = xs.length := by omega
    subst e
    exact .inl ⟨⟨xs, q, Nat.le_refl _⟩, hd σ H p⟩
end L2

namespace L2
open PySem PySem.Spec PyProof.Rows

abbrev R2 := V → V → Hp → VK → Prop
/-- a two-place operation on values: f is binaryOp op, inplaceOp op or compareOp op -/
def OpR (X : Cx) (f : Value → Value → Sem Value) (r : R2) : Prop :=
  ∀ (pins : List (Addr × Obj)) (s : Shared) (σ : St) (H : Hp) (x y : V) (v u : Value) (Q : VK), Inv X pins σ H s → RelV x v → RelV y u → r x y H Q →
    wpAny (model X.prog X.w) X.A (f v u) (EP X pins σ Q) X.xe s
/-- a call of a value that is known (a builtin, a type) with values -/
def CallR (X : Cx) (f : Value) (r : List V → Hp → VK → Prop) : Prop :=
  ∀ (pins : List (Addr × Obj)) (s : Shared) (σ : St) (H : Hp) (xs : List V) (us : List Value) (Q : VK), Inv X pins σ H s → Vals xs us → r xs H Q →
    wpAny (model X.prog X.w) X.A (call f us) (EP X pins σ Q) X.xe s
def tOp (r : R2) (ta tb : TE) : TE := fun σ H Q => ta σ H fun x H1 => tb σ H1 fun y H2 => r x y H2 Q
/-- ints in, under C, and a value out -/
def rI (C : Int → Int → Prop) (g : Int → Int → V) : R2 := fun x y H Q => ∃ i j, x = .int i ∧ y = .int j ∧ C i j ∧ Q (g i j) H
def rI0 (g : Int → Int → V) : R2 := fun x y H Q => ∃ i j, x = .int i ∧ y = .int j ∧ Q (g i j) H
section
variable {X : Cx} {a b c : Expr} {ta tb tc : TE} {pos : Pos}

theorem binT (ha : PE X a ta) (hb : PE X b tb) {pins : List (Addr × Obj)} {s : Shared} {σ : St} {H : Hp} {R : V → V → Hp → Prop} (I : Inv X pins σ H s)
    (h : ta σ H fun x H1 => tb σ H1 fun y H2 => R x y H2) {Q : Value → Shared → Prop} {f : Value → Value → Sem Value}
    (hf : ∀ v u s2 x y H2, Inv X pins σ H2 s2 → RelV x v → RelV y u → R x y H2 → wpAny (model X.prog X.w) X.A (f v u) Q X.xe s2) :
    wpAny (model X.prog X.w) X.A (eval a X.env) (fun v s₁ => wpAny (model X.prog X.w) X.A (eval b X.env) (fun u s₂ => wpAny (model X.prog X.w) X.A (f v u) Q X.xe s₂) X.xe s₁) X.xe s := by
  refine thn (ha pins s σ H _ I h) fun v s1 ⟨x, H1, I1, r1, q1⟩ => ?_
  refine thn (hb pins s1 σ H1 _ I1 q1) fun u s2 ⟨y, H2, I2, r2, q2⟩ => ?_
  exact hf v u s2 x y H2 I2 r1 r2 q2

theorem pe_op {op : Operator} {r : R2} (ho : OpR X (binaryOp op) r) (ha : PE X a ta) (hb : PE X b tb) : PE X (.BinOp a op b pos) (tOp r ta tb) := by
  intro pins s σ H Q I h
  exact wpAny_BinOp (binT ha hb I h fun v u s2 x y H2 I2 rx ry q => ho pins s2 σ H2 x y v u Q I2 rx ry q)
/-! ### ints -/
theorem opI {f : Value → Value → Sem Value} {C : Int → Int → Prop} {g : Int → Int → Int}
    (rule : ∀ (i j : Int) (t u : Tok) (s : Shared) (Q : Value → Shared → Prop) (E : Value → Shared → Prop), C i j → Q (.int (g i j) s.toks) { s with toks := s.toks + 1 } → wpAny (model X.prog X.w) X.A (f (.int i t) (.int j u)) Q E s) :
    OpR X f (rI C fun i j => .int (g i j)) := by
  intro pins s σ H x y v u Q I rx ry h
  obtain ⟨i, j, rfl, rfl, hc, q⟩ := h
  obtain ⟨t, rfl⟩ := rx
  obtain ⟨t', rfl⟩ := ry
  exact rule i j t t' s _ _ hc ⟨.int (g i j), H, I.tok _, ⟨_, rfl⟩, q⟩
theorem opI0 {f : Value → Value → Sem Value} {g : Int → Int → Int}
    (rule : ∀ (i j : Int) (t u : Tok) (s : Shared) (Q : Value → Shared → Prop) (E : Value → Shared → Prop), Q (.int (g i j) s.toks) { s with toks := s.toks + 1 } → wpAny (model X.prog X.w) X.A (f (.int i t) (.int j u)) Q E s) :
    OpR X f (rI0 fun i j => .int (g i j)) := by
  intro pins s σ H x y v u Q I rx ry h
  obtain ⟨i, j, rfl, rfl, q⟩ := h
  obtain ⟨t, rfl⟩ := rx
  obtain ⟨t', rfl⟩ := ry
  exact rule i j t t' s _ _ ⟨.int (g i j), H, I.tok _, ⟨_, rfl⟩, q⟩
theorem opB0 {f : Value → Value → Sem Value} {g : Int → Int → Bool}
    (rule : ∀ (i j : Int) (t u : Tok) (s : Shared) (Q : Value → Shared → Prop) (E : Value → Shared → Prop), Q (.bool (g i j)) s → wpAny (model X.prog X.w) X.A (f (.int i t) (.int j u)) Q E s) :
    OpR X f (rI0 fun i j => .bl (g i j)) := by
  intro pins s σ H x y v u Q I rx ry h
  obtain ⟨i, j, rfl, rfl, q⟩ := h
  obtain ⟨t, rfl⟩ := rx
  obtain ⟨t', rfl⟩ := ry
  exact rule i j t t' s _ _ ⟨.bl (g i j), H, I, rfl, q⟩

def CDiv (i j : Int) : Prop := 0 < j ∧ j < 1073741824
def CPow (i j : Int) : Prop := 0 ≤ j ∧ j ≤ 1000000 ∧ i.natAbs < 2 ^ 64
theorem op_add : OpR X (binaryOp .Add) (rI0 fun i j => .int (i + j)) := opI0 fun _ _ _ _ _ _ _ q => add_int q
/-- // by a positive divisor -/
theorem op_fdiv : OpR X (binaryOp .FloorDiv) (rI CDiv fun i j => .int (i / j)) := opI fun i j _ _ _ _ _ hc q => by
  have h1 : (0 : Int) < j := hc.1
  have h2 : j < 1073741824 := hc.2
  exact floordiv_int (by omega) (by rw [Int.fdiv_eq_ediv_of_nonneg i (by omega)]; exact q) (.inl (PyProof.noPylong_small (by omega)))
/-- % by a positive divisor of any size -/
theorem op_mod : OpR X (binaryOp .Mod) (rI (fun _ j => 0 < j) fun i j => .int (i % j)) := opI fun i j _ _ _ _ _ hc q => by
  have h1 : (0 : Int) < j := hc
  exact mod_int' (by omega) (by rw [Int.fmod_eq_emod_of_nonneg i (by omega)]; exact q)
theorem op_pow : OpR X (binaryOp .Pow) (rI CPow fun i j => .int (i ^ j.toNat)) := opI fun _ _ _ _ _ _ _ hc q => pow_int_small hc.1 hc.2.1 hc.2.2 q
/-! ### bools among ints: n += (a < b) -/
end

/-! ### comparisons -/
/-- the scalars that == tells apart as data does -/
def scal : V → V → Bool
  | .non, .non => true | .non, .int _ => true | .int _, .non => true | .non, .bl _ => true | .bl _, .non => true | .non, .str _ => true | .str _, .non => true
  | .int _, .int _ => true | .bl _, .bl _ => true | .str _, .str _ => true | .byt _, .byt _ => true
  | .int _, .str _ => true | .str _, .int _ => true | .bl _, .str _ => true | .str _, .bl _ => true
  | _, _ => false
def rEq : R2 := fun x y H Q => scal x y = true ∧ Q (.bl (decide (x = y))) H
def rNe : R2 := fun x y H Q => scal x y = true ∧ Q (.bl (!decide (x = y))) H

theorem dec_int {i j : Int} : decide (V.int i = V.int j) = (i == j) := by
  rw [Bool.eq_iff_iff]
  simp
theorem dec_bl {i j : Bool} : decide (V.bl i = V.bl j) = (i == j) := by
  rw [Bool.eq_iff_iff]
  simp
theorem dec_str {i j : Str} : decide (V.str i = V.str j) = (i == j) := by
  rw [Bool.eq_iff_iff]
  simp
theorem dec_byt {i j : Array UInt8} : decide (V.byt i = V.byt j) = (i.toList == j.toList) := by
  rw [Bool.eq_iff_iff]
  cases i
  cases j
  simp

section
variable {X : Cx} {a b c : Expr} {ta tb tc : TE} {pos : Pos}
theorem fin_bl {pins : List (Addr × Obj)} {σ : St} {H : Hp} {s : Shared} {Q : VK} {k k' : Bool} (I : Inv X pins σ H s) (q : Q (.bl k) H) (e : k = k') : EP X pins σ Q (.bool k') s := by
  subst e
  exact ⟨.bl k, H, I, rfl, q⟩
theorem op_eq : OpR X (compareOp .Eq) rEq := by
  intro pins s σ H x y v u Q I rx ry h
  obtain ⟨hs, q⟩ := h
  cases x with
  | non =>
    cases rx
    cases y with
    | non => cases ry; exact PySem.EqNone.eq_none_none (fin_bl I q (by simp))
    | bl j => cases ry; exact PySem.EqNone.eq_none_bool (fin_bl I q (by simp))
    | int j => obtain ⟨t', rfl⟩ := ry; exact PySem.EqNone.eq_none_int (fin_bl I q (by simp))
    | str j => obtain ⟨t', rfl⟩ := ry; exact PySem.EqNone.eq_none_str (fin_bl I q (by simp))
    | _ => exact absurd (show false = true from hs) Bool.false_ne_true
  | bl i =>
    cases rx
    cases y with
    | non => cases ry; exact PySem.EqNone.eq_bool_none (fin_bl I q (by simp))
    | bl j => cases ry; exact eq_bool (fin_bl I q dec_bl)
    | str j => obtain ⟨t', rfl⟩ := ry; exact PySem.EqMixed.eq_bool_str (fin_bl I q (by simp))
    | _ => exact absurd (show false = true from hs) Bool.false_ne_true
  | int i =>
    obtain ⟨t, rfl⟩ := rx
    cases y with
    | non => cases ry; exact PySem.EqNone.eq_int_none (fin_bl I q (by simp))
    | int j => obtain ⟨t', rfl⟩ := ry; exact eq_int (fin_bl I q dec_int)
    | str j => obtain ⟨t', rfl⟩ := ry; exact PySem.EqMixed.eq_int_str (fin_bl I q (by simp))
    | _ => exact absurd (show false = true from hs) Bool.false_ne_true
  | str i =>
    obtain ⟨t, rfl⟩ := rx
    cases y with
    | non => cases ry; exact PySem.EqNone.eq_str_none (fin_bl I q (by simp))
    | bl j => cases ry; exact PySem.EqMixed.eq_str_bool (fin_bl I q (by simp))
    | int j => obtain ⟨t', rfl⟩ := ry; exact PySem.EqMixed.eq_str_int (fin_bl I q (by simp))
    | str j => obtain ⟨t', rfl⟩ := ry; exact eq_str (fin_bl I q dec_str)
    | _ => exact absurd (show false = true from hs) Bool.false_ne_true
  | byt i =>
    obtain ⟨t, rfl⟩ := rx
    cases y with
    | byt j => obtain ⟨t', rfl⟩ := ry; exact PySem.W.eq_bytes (fin_bl I q dec_byt)
    | _ => exact absurd (show false = true from hs) Bool.false_ne_true
  | _ => cases y <;> exact absurd (show false = true from hs) Bool.false_ne_true
theorem op_ne : OpR X (compareOp .NotEq) rNe := by
  intro pins s σ H x y v u Q I rx ry h
  obtain ⟨hs, q⟩ := h
  cases x with
  | non =>
    cases rx
    cases y with
    | non => cases ry; exact PySem.EqNone.ne_none_none (fin_bl I q (by simp))
    | bl j => cases ry; exact PySem.EqNone.ne_none_bool (fin_bl I q (by simp))
    | int j => obtain ⟨t', rfl⟩ := ry; exact PySem.EqNone.ne_none_int (fin_bl I q (by simp))
    | str j => obtain ⟨t', rfl⟩ := ry; exact PySem.EqNone.ne_none_str (fin_bl I q (by simp))
    | _ => exact absurd (show false = true from hs) Bool.false_ne_true
  | bl i =>
    cases rx
    cases y with
    | non => cases ry; exact PySem.EqNone.ne_bool_none (fin_bl I q (by simp))
    | bl j => cases ry; exact ne_bool (fin_bl I q (congrArg not dec_bl))
    | str j => obtain ⟨t', rfl⟩ := ry; exact PySem.EqMixed.ne_bool_str (fin_bl I q (by simp))
    | _ => exact absurd (show false = true from hs) Bool.false_ne_true
  | int i =>
    obtain ⟨t, rfl⟩ := rx
    cases y with
    | non => cases ry; exact PySem.EqNone.ne_int_none (fin_bl I q (by simp))
    | int j => obtain ⟨t', rfl⟩ := ry; exact ne_int (fin_bl I q (congrArg not dec_int))
    | str j => obtain ⟨t', rfl⟩ := ry; exact PySem.EqMixed.ne_int_str (fin_bl I q (by simp))
    | _ => exact absurd (show false = true from hs) Bool.false_ne_true
  | str i =>
    obtain ⟨t, rfl⟩ := rx
    cases y with
    | non => cases ry; exact PySem.EqNone.ne_str_none (fin_bl I q (by simp))
    | bl j => cases ry; exact PySem.EqMixed.ne_str_bool (fin_bl I q (by simp))
    | int j => obtain ⟨t', rfl⟩ := ry; exact PySem.EqMixed.ne_str_int (fin_bl I q (by simp))
    | str j => obtain ⟨t', rfl⟩ := ry; exact ne_str (fin_bl I q (congrArg not dec_str))
    | _ => exact absurd (show false = true from hs) Bool.false_ne_true
  | byt i =>
    obtain ⟨t, rfl⟩ := rx
    cases y with
    | byt j => obtain ⟨t', rfl⟩ := ry; exact PySem.W.ne_bytes (fin_bl I q (congrArg not dec_byt))
    | _ => exact absurd (show false = true from hs) Bool.false_ne_true
  | _ => cases y <;> exact absurd (show false = true from hs) Bool.false_ne_true

theorem op_lt : OpR X (compareOp .Lt) (rI0 fun i j => .bl (decide (i < j))) := opB0 fun _ _ _ _ _ _ _ q => lt_int q
theorem op_le : OpR X (compareOp .LtE) (rI0 fun i j => .bl (decide (i ≤ j))) := opB0 fun _ _ _ _ _ _ _ q => le_int q
/-- the one string within the other -/
theorem op_in_str : OpR X (compareOp .In) (fun x y H Q => ∃ i j, x = .str i ∧ y = .str j ∧ Q (.bl (!(Builtin.Str.occurrences j i 0 j.length 1).isEmpty)) H) := by
  intro pins s σ H x y v u Q I rx ry h
  obtain ⟨i, j, rfl, rfl, q⟩ := h
  obtain ⟨t, rfl⟩ := rx
  obtain ⟨t', rfl⟩ := ry
  exact in_str (fin_bl I q rfl)

theorem nomark (b : Expr) {op : CmpOp} (h : op ≠ .In := by decide) (h2 : op ≠ .NotIn := by decide) : behindInMarks op b = false := by
  have e1 : (op == CmpOp.In) = false := by cases op <;> first | rfl | exact absurd rfl h
  have e2 : (op == CmpOp.NotIn) = false := by cases op <;> first | rfl | exact absurd rfl h2
  cases b <;> simp [behindInMarks, e1, e2]
/-- a comparison as a value; hm: nomark b, or (for in, not in) by with_unfolding_all rfl -/
theorem pe_cmpR {op : CmpOp} {r : R2} (ho : OpR X (compareOp op) r) (ha : PE X a ta) (hb : PE X b tb) (hm : behindInMarks op b = false) : PE X (.Compare a [op] [b] pos) (tOp r ta tb) := by
  intro pins s σ H Q I h
  exact wpAny_Compare1 (binT ha hb I h fun v u s2 x y H2 I2 rx ry q => ho pins s2 σ H2 x y v u Q I2 rx ry q) hm
/-- a reading of a value as a test -/
def tTest (t : TE) : TT := fun σ H Q => t σ H fun x H' => ∃ k, x = .bl k ∧ Q k H'
theorem pt_cmpR {op : CmpOp} {r : R2} (ho : OpR X (compareOp op) r) (ha : PE X a ta) (hb : PE X b tb) (hm : behindInMarks op b = false) : PT X (.Compare a [op] [b] pos) (tTest (tOp r ta tb)) := by
  intro pins s σ H Q I h
  refine wpAny_isTrue_Compare1 (thn (ha pins s σ H _ I h) fun v s1 ⟨x, H1, I1, r1, q1⟩ => thn (hb pins s1 σ H1 _ I1 q1) fun u s2 ⟨y, H2, I2, r2, q2⟩ =>
    thn (ho pins s2 σ H2 x y v u _ I2 r1 r2 q2) fun c s3 ⟨z, H3, I3, r3, k, e, q3⟩ => ?_) hm
  subst e
  cases r3
  exact wpAny_truthy_bool ⟨H3, I3, q3⟩
/-- a op1 b op2 c -/
def tChain (r r' : R2) (ta tb tc : TE) : TE := fun σ H Q => ta σ H fun x H1 => tb σ H1 fun y H2 => r x y H2 fun z H3 => ∃ k, z = .bl k ∧
  (if k = true then tc σ H3 fun w' H4 => r' y w' H4 Q else Q (.bl false) H3)
theorem pt_chain {op op' : CmpOp} {r r' : R2} (ho : OpR X (compareOp op) r) (ho' : OpR X (compareOp op') r') (ha : PE X a ta) (hb : PE X b tb) (hc : PE X c tc)
    (hm : lastMarks [op, op'] [b, c] = false := by with_unfolding_all rfl) : PT X (.Compare a [op, op'] [b, c] pos) (tTest (tChain r r' ta tb tc)) := by
  intro pins s σ H Q I h
  refine isTrue_chain (thn (ha pins s σ H _ I h) fun v s1 ⟨x, H1, I1, r1, q1⟩ => test_link (thn (hb pins s1 σ H1 _ I1 q1) fun u s2 ⟨y, H2, I2, r2, q2⟩ =>
    thn (ho pins s2 σ H2 x y v u _ I2 r1 r2 q2) fun d s3 ⟨z, H3, I3, r3, k, e, q3⟩ => ?_)) hm
  subst e
  cases r3
  refine wpAny_truthy_bool ?_
  cases k with
  | false =>
    obtain ⟨k', e', q'⟩ := q3
    cases e'
    exact ite_ff ⟨H3, I3, q'⟩
  | true =>
    refine ite_tt (test_last (thn (hc pins s3 σ H3 _ I3 q3) fun w' s4 ⟨z', H4, I4, r4, q4⟩ => thn (ho' pins s4 σ H4 y z' u w' _ I4 r2 r4 q4) fun d' s5 ⟨z2, H5, I5, r5, k2, e2, q5⟩ => ?_))
    subst e2
    cases r5
    exact wpAny_truthy_bool ⟨H5, I5, q5⟩

/-! ### truth -/
theorem line63 : (sizeLine : Nat) < 2 ^ 63 := by rw [sizeLine_eq]; decide
/-! ### strs and bytes -/
theorem op_add_str : OpR X (binaryOp .Add) (fun x y H Q => ∃ i j, x = .str i ∧ y = .str j ∧ i.length + j.length ≤ sizeLine ∧ Q (.str (i ++ j)) H) := by
  intro pins s σ H x y v u Q I rx ry h
  obtain ⟨i, j, rfl, rfl, hz, q⟩ := h
  obtain ⟨t, rfl⟩ := rx
  obtain ⟨t', rfl⟩ := ry
  exact add_str (fun t' tk => ⟨.str (i ++ j), H, I.tok _, ⟨_, rfl⟩, q⟩) hz
/-! ### scalar builtins, by CallR -/
theorem vals1 {x : V} {us : List Value} (r : Vals [x] us) : ∃ u, us = [u] ∧ RelV x u := by
  cases r with
  | cons r1 r2 => cases r2; exact ⟨_, rfl, r1⟩
theorem call_str_int : CallR X (.type "str") (fun xs H Q => ∃ i, xs = [.int i] ∧ i.natAbs.log2 < 1920 ∧ Q (.str (toString i)) H) := by
  intro pins s σ H xs us Q I r h
  obtain ⟨i, rfl, hz, q⟩ := h
  obtain ⟨u, rfl, t, rfl⟩ := vals1 r
  exact PySem.P.str_of_int hz ⟨.str _, H, I.tok _, ⟨_, rfl⟩, q⟩
end
end L2

namespace L2
open PySem PySem.Spec PyProof.Rows

/-! ### an instance, its attributes a map -/
theorem lookIn_ns {h : Heap} {dx : Addr} {mA : Str → Option Value} (n : h.Ns1 dx mA) : ∃ od, h.get? dx = some od ∧ ∀ name, PySem.W.lookIn name od = some (mA name) := by
  obtain ⟨o, es, ep, ho, hd, hk, _, hm⟩ := n
  refine ⟨o, ho, fun name => ?_⟩
  have e := hm name
  unfold nsFind findBy at e
  rw [← Array.find?_toList] at e
  unfold PySem.W.lookIn
  rw [hd]
  dsimp only
  split
  · rename_i y q
    rw [q] at e
    exact congrArg some e
  · rename_i q
    rw [q] at e
    have a : es.toList.any (·.refKey) = false := by
      rw [List.any_eq_false]
      intro y hy
      obtain ⟨z, t, hkey⟩ := hk y (Array.mem_toList_iff.mp hy)
      simp [DictEntry.refKey, hkey]
    have a' : ¬ es.toList.any (·.refKey) = true := by rw [a]; exact Bool.false_ne_true
    rw [if_neg a']
    exact congrArg some e


/-! ### the attributes as a list of pairs -/

/-! ### what of the text a class must have -/

/-! ### readings and rules -/

/-! ### isinstance -/
end L2

namespace L2
open PySem PySem.Spec PyProof.Rows

/-! ### room -/
structure Room (k : Nat) (A : Around) : Prop where
  hd : A.handled = none
  dp : A.depth + 3 * k + 5 < recursionLimit
  un : A.units + 16 * k + 200 < cLine
theorem Room.mono {j k : Nat} {A : Around} (r : Room k A) (h : j ≤ k) : Room j A := ⟨r.hd, by have := r.dp; omega, by have := r.un; omega⟩
theorem Room.deeper {k : Nat} {A : Around} (r : Room (k + 1) A) (env : Env) : Room k (A.deeper env) :=
  ⟨r.hd, by have := r.dp; show A.depth + 1 + 3 * k + 5 < _; omega, by have := r.un; show A.units + 3 + 16 * k + 200 < _; omega⟩
theorem Room.depth {k : Nat} {A : Around} (r : Room k A) : A.depth < recursionLimit := by have := r.dp; omega
theorem Room.units {k : Nat} {A : Around} (r : Room k A) : A.units + 64 < cLine := by have := r.un; omega
/-! ### argument lists and displays -/
def tNil : TA := fun _ H Q => Q [] H
def tCons (ta : TE) (tr : TA) : TA := fun σ H Q => ta σ H fun x H1 => tr σ H1 fun xs H2 => Q (x :: xs) H2
section
variable {X : Cx} {e : Expr} {es : List Expr} {te : TE} {t : TA} {pos : Pos}
theorem pa_nil : PA X [] tNil := fun _ _ _ _ H Q I h => Calls.spliced_nil ⟨[], H, I, .nil, h⟩
theorem pa_cons (ha : PE X e te) (hr : PA X es t) (hs : starEach (e :: es) X.env = (false, eval e X.env) :: starEach es X.env := by rfl) : PA X (e :: es) (tCons te t) := by
  intro pos pins s σ H Q I h
  rw [hs]
  show wpAny _ _ (spliced ((false, eval e X.env) :: backTo pos (starEach es X.env))) _ _ s
  refine Calls.spliced_cons (thn (ha pins s σ H _ I h) fun u s1 ⟨x, H1, I1, r1, q1⟩ => ?_)
  exact thn (hr pos pins s1 σ H1 _ I1 q1) fun us s2 ⟨xs, H2, I2, r2, q2⟩ => ⟨x :: xs, H2, I2, .cons r1 r2, q2⟩

/-- a tuple, a list of written items -/
def tTup (t : TA) : TE := fun σ H Q => t σ H fun xs H1 => xs.length ≤ sizeLine ∧ ∀ p, H1 p = none → Q (.ref p) (upd H1 p (.tup xs))
def tLst (t : TA) : TE := fun σ H Q => t σ H fun xs H1 => xs.length ≤ sizeLine ∧ ∀ p, H1 p = none → Q (.ref p) (upd H1 p (.lst xs))
theorem pe_tup {x1} (h : PA X es t) : PE X (.Tuple es x1 pos) (tTup t) := by
  intro pins s σ H Q I hq
  refine wpAny_Tuple_spliced (thn (h pos pins s σ H _ I hq) fun us s1 ⟨xs, H1, I1, r, z, q⟩ => ⟨by rw [← r.length]; exact z, ?_⟩)
  have hf : H1 s1.heap.objs.size = none := I1.hok.fresh (Nat.le_refl _)
  refine ⟨.ref s1.heap.objs.size, upd H1 s1.heap.objs.size (.tup xs), I1.laid (t' := s1.toks) (fun b u e => Heap.get?_push_of_some _ e) (Nat.le_refl _) ?_, rfl, q _ hf⟩
  exact ⟨z, us, r, ⟨_, Heap.get?_push_size _ rfl, rfl, _, rfl⟩⟩
theorem pe_lst (h : PA X es t) : PE X (.List es pos) (tLst t) := by
  intro pins s σ H Q I hq
  refine wpAny_List_spliced (thn (h pos pins s σ H _ I hq) fun us s1 ⟨xs, H1, I1, r, z, q⟩ => ⟨by rw [← r.length]; exact z, ?_⟩)
  have hf : H1 s1.heap.objs.size = none := I1.hok.fresh (Nat.le_refl _)
  refine ⟨.ref s1.heap.objs.size, upd H1 s1.heap.objs.size (.lst xs), I1.laid (t' := s1.toks) (fun b u e => Heap.get?_push_of_some _ e) (Nat.le_refl _) ?_, rfl, q _ hf⟩
  exact ⟨z, us, 0, r, Heap.get?_push_size _ rfl⟩
end

/-! ### what a def promises -/
/-- a def's promise: the bound arguments in the parameters' order, the heap, the wanted end, the wanted exception -/
abbrev Sp := List V → Hp → VK → XK → Prop
/-- how an exception lies behind a call (file 08 gives it): the callers' frames, abstract heap and state ahead of the call, the wish, the exception, the state -/
abbrev CXT := List Env → Hp → Shared → XK → Value → Shared → Prop

/-- the state at a call -/
structure Env0 (P : Program) (w : World) (K : PySem.W.Frag) (mg : Str → Option Value) (base : Heap) (A : Around) (outer : List Env) (s : Shared) (H : Hp) : Prop where
  frames : A.frames = some outer
  mod : Mod K mg base
  bs : ∀ b o, base.get? b = some o → s.heap.get? b = some o ∧ H b = none
  bsz : base.objs.size ≤ s.heap.objs.size
  funs : s.heap.FunFrames base outer
  frf : ∀ b ∈ frs outer, H b = none
  hok : HOk P w H s.heap
  bare : AllBare s.gens
/-- a call's end -/
def CE (outer : List Env) (P : Program) (w : World) (H : Hp) (s : Shared) (Q : VK) (u : Value) (s' : Shared) : Prop :=
  ∃ v H', s'.os = s.os ∧ AllBare s'.gens ∧ Un (frs outer) [] H H' s.heap s'.heap ∧ HOk P w H' s'.heap ∧ RelV v u ∧ Q v H'
def CR (CX : CXT) (outer : List Env) (P : Program) (w : World) (H : Hp) (s : Shared) (Q : VK) (E : XK) (r : Result) (s' : Shared) : Prop :=
  match r with
  | .ok (.ret u) => CE outer P w H s Q u s'
  | .ok _ => False
  | .error e => CX outer H s E e s'
structure FnOk (P : Program) (w : World) (K : PySem.W.Frag) (mg : Str → Option Value) (base : Heap) (CX : CXT) (k : Nat) (f : Addr) (fd : FuncData) (ps : List Str) (sp : Sp) : Prop where
  len : ∀ vs H Q E, sp vs H Q E → vs.length = ps.length
  run : ∀ (A : Around) (outer : List Env) (s : Shared) (H : Hp) (args : Args) (us : List Value) (vs : List V) (Q : VK) (E : XK), Room k A → Env0 P w K mg base A outer s H → BindsTo s fd args (ps.zip us) → Vals vs us → sp vs H Q E →
    codeAny (model P w) A (.call (.ref f) args) (CR CX outer P w H s Q E) s
section
variable {X : Cx} {pins : List (Addr × Obj)} {σ : St} {H : Hp} {s s' : Shared}
/-- from a body: what a callee wants -/
theorem Inv.env0 (I : Inv X pins σ H s) : Env0 X.prog X.w X.K X.mg X.base X.A X.stack s H :=
  ⟨I.ok.frames, I.ok.mod, I.bs, Nat.le_trans I.ok.bsz I.sz, I.stack, I.stkFree, I.hok, I.bare⟩
/-- behind a call -/
theorem Inv.after {Q : VK} {u : Value} (I : Inv X pins σ H s) (h : CE X.stack X.prog X.w H s Q u s') : EP X pins σ Q u s' := by
  obtain ⟨v, H', os, bare, un, hok, r, q⟩ := h
  obtain ⟨hh, g, d, t, os'⟩ := s'
  obtain rfl : os' = s.os := os
  exact ⟨v, H', I.call (h' := hh) (g' := g) (d' := d) (t' := t) (ch := []) un hok bare (fun b z => absurd z (by simp)), r, q⟩
end

/-! ### calls -/
/-- f(..): the written arguments, then the defaults dvs; E: what is wanted of an exception -/
def tCall (sp : Sp) (dvs : List V) (E : XK) (t : TA) : TE := fun σ H Q => t σ H fun vs H1 => sp (vs ++ dvs) H1 Q E
/-- how the parameters are bound: us the positional arguments, kw the keywords' values by name, ds the defaults that fill up -/
def Binds (K : PySem.W.Frag) (fd : FuncData) (ps : List Str) (ds : List Value) : Prop :=
  ∀ (s : Shared) (us : List Value), K.In s.heap → (us ++ ds).length = ps.length → BindsTo s fd ⟨us, []⟩ (ps.zip (us ++ ds))
/-- every parameter is given -/
theorem Binds.all {K : PySem.W.Frag} {fd : FuncData} {ps : List Str} (h : ∀ us : List Value, us.length = ps.length → bindArgs fd ⟨us, []⟩ = pure (ps.zip us)) : Binds K fd ps [] := fun s us _ hl => by
  rw [List.append_nil] at hl ⊢
  exact .of_eq (h us hl)

/-- an exception of a callee reaches what this body wants of exceptions -/
def Passes (CX : CXT) (X : Cx) (E : XK) : Prop := ∀ (pins : List (Addr × Obj)) (σ : St) (H : Hp) (s : Shared) (e : Value) (s' : Shared), Inv X pins σ H s → CX X.stack H s E e s' → X.xe e s'

section
variable {X : Cx} {CX : CXT} {k : Nat} {f C : Addr} {fd : FuncData} {ps : List Str} {sp : Sp} {dvs : List V} {ds : List Value} {E : XK} {x m : Str} {p pos apos : Pos} {e o : Expr} {es : List Expr} {ta : TE} {t : TA}

/-- the callee runs -/
theorem run_fn {pins : List (Addr × Obj)} {σ : St} {H : Hp} {s : Shared} {Q : VK} {us : List Value} {vs : List V} (F : FnOk X.prog X.w X.K X.mg X.base CX k f fd ps sp) (hr : Room k X.A) (hb : Binds X.K fd ps ds) (hd : Vals dvs ds) (hx : Passes CX X E)
    (I : Inv X pins σ H s) (r : Vals vs us) (h : sp (vs ++ dvs) H Q E) : wpAny (model X.prog X.w) X.A (call (.ref f) us) (EP X pins σ Q) X.xe s := by
  have r2 : Vals (vs ++ dvs) (us ++ ds) := r.append hd
  have hl : (us ++ ds).length = ps.length := by rw [← r2.length]; exact F.len _ _ _ _ h
  refine wpAny_call (codeAny_mono (F.run X.A X.stack s H ⟨us, []⟩ (us ++ ds) (vs ++ dvs) Q E hr I.env0 (hb s us I.kIn hl) r2 h) fun r s' hq => ?_)
  cases r with
  | error e => exact hx pins σ H s e s' I hq
  | ok fl =>
    cases fl with
    | ret u => exact I.after hq
    | next => exact False.elim hq
    | brk => exact False.elim hq
    | cont => exact False.elim hq

theorem pe_call (F : FnOk X.prog X.w X.K X.mg X.base CX k f fd ps sp) (hr : Room k X.A) (hg : Gl X x) (hm : X.mg x = some (.ref f)) (hk : PySem.W.keepIn X.K (.ref f) = true) (hb : Binds X.K fd ps ds) (hd : Vals dvs ds) (hx : Passes CX X E)
    (ha : PA X (e :: es) t) (hdb : (x == ("__debug__" : Str)) = false := by decide) (he : starEach (e :: es) X.env = (false, eval e X.env) :: starEach es X.env := by rfl) (hpl : (backTo pos (starEach es X.env)).any (·.1) = false := by rfl) :
    PE X (.Call (.Name x p) (e :: es) [] pos) (tCall sp dvs E t) := by
  intro pins s σ H Q I h
  refine wpAny_Call_Name_kw (ld_glob I hg hm ?_ hdb)
  refine PySem.W.callWith_K (h₀ := X.base) I.ok.mod.kin hk (thn (ha pos pins s σ H _ I h) fun us s1 ⟨vs, H1, I1, r, q⟩ => ⟨I1.kIn, ?_⟩) he hpl
  exact run_fn F hr hb hd hx I1 r q
end

/-! ### keywords -/

/-! ### a def's body keeps its promise -/
/-- names: the parameters first -/
structure FnScope (N P : List Str) (sc : Scope) : Prop where
  kind : sc.kind = .function
  co : sc.isCoroutine = false
  gen : sc.isGenerator = false
  nd : N.Nodup
  pre : N.take P.length = P
  par : ∀ x ∈ P, sc.names.lookup x = some .local ∨ sc.names.lookup x = some .cell
  nofree : ∀ y ∈ sc.names, y.2 ≠ .free

theorem bindL_out {kindOf : Str → Option NameKind} {x : Str} : ∀ {binds : List (Str × Value)} {m : Str → Option Value}, (∀ v, (x, v) ∉ binds) → bindL kindOf binds m x = m x
  | [], _, _ => rfl
  | (n, v) :: r, m, h => by
    unfold bindL
    rw [bindL_out fun w hw => h w (List.mem_cons_of_mem _ hw)]
    split
    · have : x ≠ n := by rintro rfl; exact h v List.mem_cons_self
      simp [this]
    · rfl
theorem bindC_out {kindOf : Str → Option NameKind} {x : Str} : ∀ {binds : List (Str × Value)} {m : Str → Option Value}, (∀ v, (x, v) ∉ binds) → bindC kindOf binds m x = m x
  | [], _, _ => rfl
  | (n, v) :: r, m, h => by
    unfold bindC
    rw [bindC_out fun w hw => h w (List.mem_cons_of_mem _ hw)]
    split
    · rfl
    · have : x ≠ n := by rintro rfl; exact h v List.mem_cons_self
      simp [this]
theorem bindL_get {kindOf : Str → Option NameKind} {x : Str} {v : Value} : ∀ {P : List Str} {vs : List Value} {i : Nat} {m : Str → Option Value}, P.Nodup → P[i]? = some x → vs[i]? = some v → kindOf x = some .local →
    bindL kindOf (P.zip vs) m x = some v
  | [], _, _, _, _, h, _, _ => by simp at h
  | _ :: _, [], _, _, _, _, h, _ => by simp at h
  | p :: P, w :: vs, 0, m, nd, h1, h2, hk => by
    simp at h1 h2; subst h1; subst h2
    show bindL kindOf ((p, w) :: P.zip vs) m p = _
    unfold bindL
    rw [bindL_out fun v hv => (List.nodup_cons.mp nd).1 (List.of_mem_zip hv).1, if_pos hk]
    simp
  | p :: P, w :: vs, i + 1, m, nd, h1, h2, hk => by
    show bindL kindOf ((p, w) :: P.zip vs) m x = _
    unfold bindL
    exact bindL_get (i := i) (List.nodup_cons.mp nd).2 (by simpa using h1) (by simpa using h2) hk
theorem bindC_get {kindOf : Str → Option NameKind} {x : Str} {v : Value} : ∀ {P : List Str} {vs : List Value} {i : Nat} {m : Str → Option Value}, P.Nodup → P[i]? = some x → vs[i]? = some v → kindOf x ≠ some .local →
    bindC kindOf (P.zip vs) m x = some v
  | [], _, _, _, _, h, _, _ => by simp at h
  | _ :: _, [], _, _, _, _, h, _ => by simp at h
  | p :: P, w :: vs, 0, m, nd, h1, h2, hk => by
    simp at h1 h2; subst h1; subst h2
    show bindC kindOf ((p, w) :: P.zip vs) m p = _
    unfold bindC
    rw [bindC_out fun v hv => (List.nodup_cons.mp nd).1 (List.of_mem_zip hv).1, if_neg hk]
    simp
  | p :: P, w :: vs, i + 1, m, nd, h1, h2, hk => by
    show bindC kindOf ((p, w) :: P.zip vs) m x = _
    unfold bindC
    exact bindC_get (i := i) (List.nodup_cons.mp nd).2 (by simpa using h1) (by simpa using h2) hk

/-- the names' values at the entry -/
def start (N : List Str) (vs : List V) : St := vs.map some ++ List.replicate (N.length - vs.length) none

/-- the context of a def's body, at its entry; an exception leaves the frame, then lies as CX says -/
def cxOf (CX : CXT) (P : Program) (w : World) (K : PySem.W.Frag) (mg : Str → Option Value) (base : Heap) (N : List Str) (qual : Str) (scope : Scope) (f : Addr) (cd : Value) (A : Around) (outer : List Env) (s : Shared) (H : Hp) (E : XK) : Cx where
  prog := P
  w := w
  K := K
  mg := mg
  base := base
  A := A.deeper (envOfC qual scope s.heap.objs.size f cd)
  N := N
  s₀ := s
  H₀ := H
  env := envOfC qual scope s.heap.objs.size f cd
  outer := outer
  stack := envOfC qual scope s.heap.objs.size f cd :: outer
  ex := []
  calm := true
  fn := fun _ => true
  pn := []
  xe := fun e s' => wpAny (model P w) (A.deeper (envOfC qual scope s.heap.objs.size f cd)) (leaving (envOfC qual scope s.heap.objs.size f cd) e) (fun _ s'' => CX outer H s E e s'') (fun e' s'' => CX outer H s E e' s'') s'

theorem cell_has {sc : Scope} {n : Nat} {x : Str} (h : sc.names.lookup x = some .cell) : ∃ c, (cellsFrom n sc.names []).lookup x = some c := by
  have q := PySem.W.cellsFrom_some sc.names n [] (.inl h)
  exact Option.isSome_iff_exists.mp q

theorem inv_start {CX : CXT} {P : Program} {w : World} {K : PySem.W.Frag} {mg : Str → Option Value} {base : Heap} {N ps : List Str} {qual : Str} {scope : Scope} {f : Addr} {cd : Value} {A : Around} {outer : List Env} {s s1 : Shared} {H : Hp} {E : XK} {us : List Value} {vs : List V}
    (S : FnScope N ps scope) (hd : A.handled = none) (e0 : Env0 P w K mg base A outer s H) (hl : vs.length = ps.length) (r : Vals vs us)
    (x : InCallC s s.heap.objs.size (bindL (envOfC qual scope s.heap.objs.size f cd).kindOf (ps.zip us) fun _ => none) (cellsFrom (s.heap.objs.size + 1) scope.names []) (bindC (envOfC qual scope s.heap.objs.size f cd).kindOf (ps.zip us) fun _ => none) s1) :
    Inv (cxOf CX P w K mg base N qual scope f cd A outer s H E) [] (start N vs) H s1 := by
  have hpl : ps.length ≤ N.length := by have := congrArg List.length S.pre; rw [List.length_take] at this; omega
  obtain ⟨h1, tk, rfl, hk⟩ := x.done
  have noA : ∀ b : Addr, b ∉ (cxOf CX P w K mg base N qual scope f cd A outer s H E).ex := fun b z => absurd (show b ∈ ([] : List Addr) from z) (by simp)
  refine ⟨⟨e0.mod, S.kind, rfl, rfl, Nat.le_refl _, fun y z c h1 h2 => ?_, fun y hy => ?_, fun y c _ h => ?_, fun _ => hd, Around.frames_deeper e0.frames, .inr ⟨rfl, rfl⟩, fun b z => absurd z (noA b), e0.bs, e0.bsz, fun b _ _ => noA b, fun b z => absurd z (noA b), e0.funs, e0.frf⟩,
    rfl, e0.bare, Un.kept hk, ⟨_, x.toInCall.ns, fun i y v h1 h2 h3 => ?_⟩, fun y c h => ⟨_, x.cell y c h⟩, e0.hok.fresh (Nat.le_refl _), fun y c h => ?_, fun p hp => absurd (show p ∈ ([] : List (Addr × Obj)) from hp) (by simp), e0.hok.kept hk, ?_⟩
  · exact name_of_addr x.apart (PySem.mem_of_lookup h1) (PySem.mem_of_lookup h2)
  · have hy : scope.names.lookup y = some .cell ∨ scope.names.lookup y = some .free := hy
    rcases hy with hy | hy
    · exact cell_has hy
    · exact absurd rfl (S.nofree _ (PySem.mem_of_lookup hy))
  · exact Nat.le_of_lt (x.above y c (PySem.mem_of_lookup h))
  · have hi : i < vs.length := by
      unfold start at h2
      by_cases hi : i < vs.length
      · exact hi
      · rw [List.getElem?_append_right (by simpa using hi)] at h2
        rw [List.getElem?_replicate] at h2
        split at h2 <;> cases h2
    have ha : vs[i]? = some v := by
      unfold start at h2
      rw [List.getElem?_append_left (by simpa using hi), List.getElem?_map] at h2
      cases e : vs[i]? with
      | none => rw [e] at h2; cases h2
      | some a => rw [e] at h2; cases h2; rfl
    obtain ⟨u, hu, rv⟩ := r.get ha
    have hp : ps[i]? = some y := by
      rw [← S.pre, List.getElem?_take_of_lt (by omega)]; exact h1
    have ndP : ps.Nodup := by rw [← S.pre]; exact S.nd.sublist (List.take_sublist _ _)
    refine ⟨u, rv, ?_⟩
    rcases S.par y (List.mem_of_getElem? hp) with k | k
    · exact .inl ⟨k, bindL_get ndP hp hu k⟩
    · obtain ⟨c, e⟩ := cell_has (n := s.heap.objs.size + 1) k
      refine .inr ⟨.inl k, c, e, ?_⟩
      have q := x.cell y c e
      rw [bindC_get ndP hp hu (by show scope.names.lookup y ≠ _; rw [k]; decide)] at q
      exact q
  · exact e0.hok.fresh (Nat.le_of_lt (x.above y c (PySem.mem_of_lookup h)))
  · unfold start
    show _ = N.length
    rw [List.length_append, List.length_map, List.length_replicate]
    omega

/-- THE RULE: a def (or a method) of the text, by its body. The body's reading t is chosen for each entry; it is run at the parameters' values -/
theorem fn_of {CX : CXT} {P : Program} {w : World} {K : PySem.W.Frag} {mg : Str → Option Value} {base : Heap} {k : Nat} {f : Addr} {name qual : Str} {params : Arguments} {body : List Stmt} {scope : Scope} {dV kV doc pm cdv ct oc : Value} {an od : Option Addr}
    {osl : Array (Option Value)} {N ps : List Str} {sp : Sp} (lk : K.lookup f = some ⟨oc, od, .func (PySem.W.fnOf name qual params body scope dV kV doc pm an cdv ct), osl⟩) (hcd : PySem.W.codeIn K cdv qual = true) (S : FnScope N ps scope)
    (len : ∀ vs H Q E, sp vs H Q E → vs.length = ps.length)
    (hbody : ∀ (A : Around) (outer : List Env) (s : Shared) (H : Hp) (vs : List V) (Q : VK) (E : XK), Room k (A.deeper (envOfC qual scope s.heap.objs.size f cdv)) → sp vs H Q E →
      ∃ t, PSs (cxOf CX P w K mg base N qual scope f cdv A outer s H E) body t ∧ t { nx := fun _ H' => Q .non H', rt := Q } (start N vs) H) :
    FnOk P w K mg base CX (k + 1) f (PySem.W.fnOf name qual params body scope dV kV doc pm an cdv ct) ps sp := by
  refine ⟨len, fun A outer s H args us vs Q E hr e0 hb r hsp => ?_⟩
  have hl := len _ _ _ _ hsp
  have KX : K.In s.heap := e0.mod.kin.keeps fun b o e => (e0.bs b o e).1
  have lim : s.heap.NoLimit := e0.mod.nolimit.keeps fun b o e => (e0.bs b o e).1
  have hkind : ∀ y ∈ ps.zip us, scope.names.lookup y.1 = some .local ∨ (scope.names.lookup y.1 = some .cell ∧ ((cellsFrom (s.heap.objs.size + 1) scope.names []).lookup y.1).isSome = true) := fun ⟨n, v⟩ hy => by
    rcases S.par n (List.of_mem_zip hy).1 with q | q
    · exact .inl q
    · exact .inr ⟨q, PySem.W.cellsFrom_some _ _ _ (.inl q)⟩
  refine codeAny_call_function hr.depth (KX _ _ lk) rfl S.co S.gen rfl (PySem.W.codeRec_of KX hcd) (hb _ _ _ _ ?_)
  refine wpAny_newFunctionEnv_cells S.kind hkind fun env he s1 x => ?_
  subst he
  refine ⟨lim.keeps x.toInCall.keep, codeAny_func ?_⟩
  obtain ⟨t, ht, hq⟩ := hbody A outer s H vs Q E (hr.deeper _) hsp
  have I : Inv (cxOf CX P w K mg base N qual scope f cdv A outer s H E) [] (start N vs) H s1 := inv_start S hr.hd e0 hl r x
  refine wpAny_mono (ht [] s1 (start N vs) H _ I hq) (fun fl s' hs => ?_) fun e s' hs => hs
  have fin : ∀ {σ' : St} {H' : Hp} {v : V} {u : Value}, Inv (cxOf CX P w K mg base N qual scope f cdv A outer s H E) [] σ' H' s' → RelV v u → Q v H' → CE outer P w H s Q u s' :=
    fun {σ' H' v u} J rv q => ⟨v, H', J.os, J.bare, J.base, J.hok, rv, q⟩
  cases fl with
  | ret u =>
    obtain ⟨v, σ', H', J, rv, q⟩ := hs
    exact fin J rv q
  | next =>
    obtain ⟨σ', H', J, q⟩ := hs
    exact fin (v := V.non) (u := Value.none) J rfl q
  | brk =>
    obtain ⟨_, _, _, q⟩ := hs
    exact False.elim q
  | cont =>
    obtain ⟨_, _, _, q⟩ := hs
    exact False.elim q
end L2

namespace L2
open PySem PySem.Spec PyProof.Rows
section
variable {X : Cx} {x : Str} {p pos : Pos} {e : Expr} {es : List Expr} {t : TA} {id T : String} {r : List V → Hp → VK → Prop}

def tCB (r : List V → Hp → VK → Prop) (t : TA) : TE := fun σ H Q => t σ H fun vs H1 => r vs H1 Q
/-- f(e, ..), f a built-in function -/
theorem pe_callB (hc : CallR X (.builtin id) r) (hg : Gl X x) (hm : X.mg x = none) (hv : bootBuiltins x = some (.builtin id)) (ha : PA X (e :: es) t) (hn : x ≠ "__name__" := by decide) (hdb : (x == ("__debug__" : Str)) = false := by decide)
    (he : starEach (e :: es) X.env = (false, eval e X.env) :: starEach es X.env := by rfl) (hpl : (backTo pos (starEach es X.env)).any (·.1) = false := by rfl) : PE X (.Call (.Name x p) (e :: es) [] pos) (tCB r t) := by
  intro pins s σ H Q I h
  refine wpAny_Call_Name_kw (ld_blt I hg hm hv ?_ hn hdb)
  exact PyProof.Rows.callWith_builtin1 (thn (ha pos pins s σ H _ I h) fun us s1 ⟨vs, H1, I1, r1, q1⟩ => hc pins s1 σ H1 vs us Q I1 r1 q1) he hpl
/-- T(e, ..), T a built-in type -/
theorem pe_callTy (hc : CallR X (.type T) r) (hg : Gl X x) (hm : X.mg x = none) (hv : bootBuiltins x = some (.type T)) (ha : PA X (e :: es) t) (hn : x ≠ "__name__" := by decide) (hdb : (x == ("__debug__" : Str)) = false := by decide)
    (he : starEach (e :: es) X.env = (false, eval e X.env) :: starEach es X.env := by rfl) (hpl : (backTo pos (starEach es X.env)).any (·.1) = false := by rfl) : PE X (.Call (.Name x p) (e :: es) [] pos) (tCB r t) := by
  intro pins s σ H Q I h
  refine wpAny_Call_Name_kw (ld_blt I hg hm hv ?_ hn hdb)
  exact PyProof.Rows.callWith_type1 (thn (ha pos pins s σ H _ I h) fun us s1 ⟨vs, H1, I1, r1, q1⟩ => hc pins s1 σ H1 vs us Q I1 r1 q1) he hpl
end
end L2

namespace HT
open PySem PyProof.Rows

section
open PySem.SeqAt
open PySem.AutoSeq1 (wpAny_loadPart')
open PySem.MeetsSeq PySem.MeetsSeq2 PySem.MeetsSeq3

end

section
variable {prog : Program} {w : World} {A : Around} {E : Value → Shared → Prop} {s : Shared}

/-! ### t[a:b], not the whole -/
/-- a slice's bound as a place among n (d where it is left out) -/
def sIx (n d : Nat) : Option Int → Nat
  | none => d
  | some v => if v < 0 then (v + (n : Int)).toNat else min v.toNat n
theorem sIx_nat (n d k : Nat) : sIx n d (some (k : Int)) = min k n := by
  show (if (k : Int) < 0 then ((k : Int) + (n : Int)).toNat else min (k : Int).toNat n) = min k n
  rw [if_neg (by omega), Int.toNat_natCast]
end
end HT

namespace L2
open PySem PySem.Spec PyProof.Rows

/-! ### the parts of a slice -/
abbrev TO := St → Hp → (Option Int → Hp → Prop) → Prop
/-- a slice's part (left out, or an int) -/
def PO (X : Cx) (e : Option Expr) (t : TO) : Prop :=
  ∀ (pins : List (Addr × Obj)) (s : Shared) (σ : St) (H : Hp) (Q : Option Int → Hp → Prop), Inv X pins σ H s → t σ H Q →
    wpAny (model X.prog X.w) X.A (evalPart e X.env) (fun u s' => ∃ o H', Inv X pins σ H' s' ∧ IsPart u o ∧ Q o H') X.xe s
def tNoPart : TO := fun _ H Q => Q none H
def tPart (t : TE) : TO := fun σ H Q => t σ H fun x H1 => ∃ i, x = .int i ∧ Q (some i) H1

section
variable {X : Cx} {e : Expr} {te : TE} {lo hi : Option Expr} {tl th : TO} {pos p2 : Pos}

theorem po_none : PO X none tNoPart := by
  intro pins s σ H Q I h
  rw [evalPart_none]
  exact wpAny_pure ⟨none, H, I, .none, h⟩
theorem po_some (h : PE X e te) : PO X (some e) (tPart te) := by
  intro pins s σ H Q I hw
  rw [evalPart_some]
  refine thn (h pins s σ H _ I hw) fun u s1 ⟨x, H1, I1, r1, q1⟩ => ?_
  obtain ⟨i, rfl, q⟩ := q1
  obtain ⟨t, rfl⟩ := r1
  exact ⟨some i, H1, I1, .int i t, q⟩

/-- what a slice of a value is, by values: the slice object stands at sl -/
def SlR (X : Cx) (r : V → Option Int → Option Int → Hp → VK → Prop) : Prop :=
  ∀ (pins : List (Addr × Obj)) (s : Shared) (σ : St) (H : Hp) (x : V) (v vl vu : Value) (lo hi : Option Int) (sl : Addr) (Q : VK), Inv X pins σ H s → RelV x v → s.heap.IsSliceOf sl vl vu .none → IsPart vl lo → IsPart vu hi → r x lo hi H Q →
    ∃ T id, typeLookup (.type T) "__getitem__" = pure (some (.builtin id)) ∧ s.TypeIs v T ∧ wpAny (model X.prog X.w) X.A (getItem v (.ref sl)) (EP X pins σ Q) X.xe s
def tSl (r : V → Option Int → Option Int → Hp → VK → Prop) (te : TE) (tl th : TO) : TE := fun σ H Q => te σ H fun x H1 => tl σ H1 fun l H2 => th σ H2 fun u H3 => r x l u H3 Q
/-- a[lo:hi], any a -/
theorem pe_slice {r : V → Option Int → Option Int → Hp → VK → Prop} (hr : SlR X r) (he : PE X e te) (hl : PO X lo tl) (hu : PO X hi th) : PE X (.Subscript e (.Slice lo hi none p2) pos) (tSl r te tl th) := by
  intro pins s σ H Q I h
  refine Subscript_ (thn (he pins s σ H _ I h) fun v s1 ⟨x, H1, I1, r1, q1⟩ => ?_)
  refine wpAny_Slice (thn (hl pins s1 σ H1 _ I1 q1) fun vl s2 ⟨l, H2, I2, pl, q2⟩ => thn (hu pins s2 σ H2 _ I2 q2) fun vu s3 ⟨u, H3, I3, pu, q3⟩ => ?_)
  rw [evalPart_none]
  refine wpAny_pure ?_
  have I4 : Inv X pins σ H3 { s3 with heap := s3.heap.push { cls := .type "slice", data := .fields #[vl, vu, .none] } } := I3.kept (t' := s3.toks) fun b ob q => Heap.get?_push_of_some _ q
  obtain ⟨T, id, hT, ht, hg⟩ := hr pins { s3 with heap := s3.heap.push { cls := .type "slice", data := .fields #[vl, vu, .none] } } σ H3 x v vl vu l u s3.heap.objs.size Q I4 r1 (Heap.IsSliceOf.new ..) pl pu q3
  show wpAny (model X.prog X.w) X.A (subscriptTail e (.Slice lo hi none p2) v (.ref s3.heap.objs.size)) (EP X pins σ Q) X.xe { s3 with heap := s3.heap.push { cls := .type "slice", data := .fields #[vl, vu, .none] } }
  exact tail_any (ops := [.ref s3.heap.objs.size, v]) ht hT hg (by with_unfolding_all rfl)

/-- the items of xs[lo:hi] -/
def cutV (xs : List V) (lo hi : Option Int) : List V := (xs.drop (HT.sIx xs.length 0 lo)).take (HT.sIx xs.length xs.length hi - HT.sIx xs.length 0 lo)
theorem cutV_length (xs : List V) (lo hi : Option Int) : (cutV xs lo hi).length ≤ xs.length := by
  unfold cutV
  rw [List.length_take, List.length_drop]
  omega
/-! ### t < u, t + u -/
end
end L2

namespace L2
open PySem PySem.Spec PyProof.Rows

/-! ### places -/
/-- the place that an index of any sign means -/
def ixN (n : Nat) (i : Int) : Option Nat := if 0 ≤ i then (if i < n then some i.toNat else none) else if -(n : Int) ≤ i then some (i + n).toNat else none
def atI {α : Type} (xs : List α) (i : Int) : Option α := (ixN xs.length i).bind fun j => xs[j]?
theorem ixN_seq {n : Nat} {i : Int} {j : Nat} (h : ixN n i = some j) : seqIndex? i n = some j ∧ j < n ∧ -(n : Int) ≤ i ∧ i < n := by
  unfold ixN at h
  by_cases h0 : 0 ≤ i
  · rw [if_pos h0] at h
    by_cases h1 : i < n
    · rw [if_pos h1] at h
      have e : i.toNat = j := Option.some.inj h
      exact ⟨by rw [seqIndex_of h0 h1, e], by omega, by omega, h1⟩
    · rw [if_neg h1] at h; cases h
  · rw [if_neg h0] at h
    by_cases h1 : -(n : Int) ≤ i
    · rw [if_pos h1] at h
      have e : (i + n).toNat = j := Option.some.inj h
      exact ⟨by rw [seqIndex_neg (by omega) h1, e], by omega, h1, by omega⟩
    · rw [if_neg h1] at h; cases h
theorem atI_get {α : Type} {xs : List α} {i : Int} {v : α} (h : atI xs i = some v) : ∃ j, seqIndex? i xs.length = some j ∧ xs[j]? = some v ∧ j < xs.length ∧ -(xs.length : Int) ≤ i ∧ i < xs.length := by
  unfold atI at h
  cases e : ixN xs.length i with
  | none => rw [e] at h; cases h
  | some j =>
    rw [e] at h
    obtain ⟨h1, h2, h3, h4⟩ := ixN_seq e
    exact ⟨j, h1, h, h2, h3, h4⟩
theorem atI_nat {α : Type} {xs : List α} {j : Nat} {v : α} (h : xs[j]? = some v) : atI xs (j : Int) = some v := by
  have hj : j < xs.length := (List.getElem?_eq_some_iff.mp h).1
  have e : ixN xs.length (j : Int) = some j := by
    unfold ixN
    rw [if_pos (by omega), if_pos (by omega)]; simp
  unfold atI; rw [e]; exact h
/-! ### what may be subscripted -/
/-- what stands as an index of a plain subscript -/
def PlainIx (b : Expr) : Prop := ∀ o i, subscripted b false o i = operate [o, i] (getItem o i)
/-- a subscript by values -/
def IxR (X : Cx) (r : R2) : Prop :=
  ∀ (value slice : Expr) (pins : List (Addr × Obj)) (s : Shared) (σ : St) (H : Hp) (x y : V) (v u : Value) (Q : VK), Inv X pins σ H s → RelV x v → RelV y u → r x y H Q →
    subscripted slice false v u = operate [v, u] (getItem v u) → wpAny (model X.prog X.w) X.A (subscriptTail value slice v u) (EP X pins σ Q) X.xe s
/-- a call of a builtin's method by values: the receiver, the arguments -/
def MtR (X : Cx) (id : String) (r : V → List V → Hp → VK → Prop) : Prop :=
  ∀ (pins : List (Addr × Obj)) (s : Shared) (σ : St) (H : Hp) (x : V) (xs : List V) (v : Value) (us : List Value) (Q : VK), Inv X pins σ H s → RelV x v → Vals xs us → r x xs H Q →
    wpAny (model X.prog X.w) X.A (call (.builtin id) (v :: us)) (EP X pins σ Q) X.xe s
section
variable {X : Cx} {a b : Expr} {ta tb : TE} {pos : Pos}
/-- a[b] -/
theorem pe_ix {r : R2} (hr : IxR X r) (ha : PE X a ta) (hb : PE X b tb) (hs : PlainIx b) : PE X (.Subscript a b pos) (tOp r ta tb) := by
  intro pins s σ H Q I h
  exact Subscript_ (binT ha hb I h fun v u s2 x y H2 I2 rx ry q => hr a b pins s2 σ H2 x y v u Q I2 rx ry q (hs _ _))

def rIxL (K : PySem.W.Frag) : R2 := fun x y H Q => ∃ p xs i v, x = .ref p ∧ y = .int i ∧ SqL K H p xs ∧ atI xs i = some v ∧ Q v H
def rIxT (K : PySem.W.Frag) : R2 := fun x y H Q => ∃ p xs i v, x = .ref p ∧ y = .int i ∧ SqT K H p xs ∧ atI xs i = some v ∧ Q v H
def rIxS : R2 := fun x y H Q => ∃ z i c, x = .str z ∧ y = .int i ∧ z.length ≤ sizeLine ∧ atI z.cps.toList i = some c ∧ Q (.str ⟨#[c]⟩) H
theorem ix_list : IxR X (rIxL X.K) := by
  intro value slice pins s σ H x y v u Q I rx ry h hs
  obtain ⟨p, xs, i, z, rfl, rfl, hq, he, q⟩ := h
  cases rx
  obtain ⟨t, rfl⟩ := ry
  obtain ⟨its, r, pl, hz⟩ := I.list hq
  obtain ⟨j, h1, h2, h3, h4, h5⟩ := atI_get he
  obtain ⟨w, ew, rw'⟩ := r.get h2
  have hl := r.length
  have hn := line63
  have fin : EP X pins σ Q w s := ⟨z, H, I, rw', q⟩
  by_cases h0 : 0 ≤ i
  · have hj : i.toNat = j := by
      rw [seqIndex_of h0 h5] at h1
      exact Option.some.inj h1
    exact item_listR pl.isList h0 (by omega) (by rw [hj]; simpa using ew) fin hs
  · have hj : (i + (its.toArray.size : Int)).toNat = j := by
      rw [seqIndex_neg (by omega) h4] at h1
      rw [List.size_toArray, ← hl]
      exact Option.some.inj h1
    exact subscriptTail_builtinR (x := w) pl.isList.typeIs slot_list_getitem.lookup
      (wpAny_getItem_list_neg (Q := fun r s' => r = w ∧ EP X pins σ Q r s') pl.isList (by omega) (by rw [List.size_toArray] <;> omega) (by omega) (by rw [hj]; simpa using ew) ⟨rfl, fin⟩) hs
theorem ix_tup : IxR X (rIxT X.K) := by
  intro value slice pins s σ H x y v u Q I rx ry h hs
  obtain ⟨p, xs, i, z, rfl, rfl, hq, he, q⟩ := h
  cases rx
  obtain ⟨t, rfl⟩ := ry
  obtain ⟨its, r, pl, hz⟩ := I.tuple hq
  obtain ⟨j, h1, h2, h3, h4, h5⟩ := atI_get he
  obtain ⟨w, ew, rw'⟩ := r.get h2
  have hl := r.length
  have hn := line63
  have fin : EP X pins σ Q w s := ⟨z, H, I, rw', q⟩
  exact subscriptTail_builtinR (x := w) pl.typeIs slot_tuple_getitem.lookup
    (getItem_tuple (j := j) (Q := fun r s' => r = w ∧ EP X pins σ Q r s') pl (by omega) (by omega) (by rw [List.size_toArray, ← hl]; exact h1) (by simpa using ew) ⟨rfl, fin⟩) hs
theorem ix_str : IxR X rIxS := by
  intro value slice pins s σ H x y v u Q I rx ry h hs
  obtain ⟨z, i, c, rfl, rfl, hz, he, q⟩ := h
  obtain ⟨t, rfl⟩ := rx
  obtain ⟨t', rfl⟩ := ry
  obtain ⟨j, h1, h2, h3, h4, h5⟩ := atI_get he
  have hl : z.cps.toList.length = z.length := by simp [Str.length]
  rw [hl] at h1 h4 h5
  have hn := line63
  exact tail_any (typeIs_str s z t) slot_str_getitem.lookup (getItem_str (c := c) (by
    have e1 : decide (i < -(2 ^ 63 : Int)) = false := decide_eq_false (by omega)
    have e2 : decide (i ≥ 2 ^ 63) = false := decide_eq_false (by omega)
    rw [e1, e2, Bool.or_false]) (by rw [h1]; simpa using h2) ⟨.str ⟨#[c]⟩, H, I.tok _, ⟨_, rfl⟩, q⟩) hs
/-! ### xs[i] = v, any sign -/
/-! ### slices -/
theorem slice_bounds (lo hi : Option Int) (n : Nat) : (sliceBounds lo hi none n).1 = ((HT.sIx n 0 lo : Nat) : Int) ∧ (sliceBounds lo hi none n).2.1 = ((HT.sIx n n hi : Nat) : Int) ∧ (sliceBounds lo hi none n).2.2 = 1 := by
  refine ⟨?_, ?_, rfl⟩
  · cases lo with
    | none => simp [sliceBounds, HT.sIx]
    | some i =>
      simp only [sliceBounds, HT.sIx, Option.getD_none, show (1 : Int) > 0 by decide, if_true]
      by_cases h : i < 0
      · simp only [h, if_true] <;> omega
      · simp only [h, if_false] <;> omega
  · cases hi with
    | none => simp [sliceBounds, HT.sIx]
    | some i =>
      simp only [sliceBounds, HT.sIx, Option.getD_none, show (1 : Int) > 0 by decide, if_true]
      by_cases h : i < 0
      · simp only [h, if_true] <;> omega
      · simp only [h, if_false] <;> omega
theorem slicePick_cut (its : List Value) (lo hi : Option Int) : slicePick its.toArray lo hi none = ((its.drop (HT.sIx its.length 0 lo)).take (HT.sIx its.length its.length hi - HT.sIx its.length 0 lo)).toArray := by
  obtain ⟨h1, h2, h3⟩ := slice_bounds lo hi its.toArray.size
  unfold slicePick
  rw [h1, h2, h3]
  simp only [sliceRange_one, pick_run, List.size_toArray] <;> rfl
/-- xs[lo:hi] of a list: a new list -/
def rSlL (K : PySem.W.Frag) : V → Option Int → Option Int → Hp → VK → Prop := fun x lo hi H Q => ∃ a xs, x = .ref a ∧ SqL K H a xs ∧ ∀ p, H p = none → Q (.ref p) (upd H p (.lst (cutV xs lo hi)))
theorem sl_list : SlR X (rSlL X.K) := by
  intro pins s σ H x v vl vu lo hi sl Q I rx hs pl pu h
  obtain ⟨a, xs, rfl, hx, q⟩ := h
  cases rx
  obtain ⟨its, r, ht, hz⟩ := I.list hx
  have hlen := r.length
  refine ⟨"list", _, slot_list_getitem.lookup, ht.isList.typeIs, ?_⟩
  refine wpAny_getItem_list_slice ht.isList hs pl pu .none (by simp) ?_ (by rw [List.size_toArray] <;> omega)
  rw [slicePick_cut, ← hlen]
  refine ⟨.ref s.heap.objs.size, _, I.laid (t' := s.toks) (o := .lst (cutV xs lo hi)) (fun b ob q => Heap.get?_push_of_some _ q) (Nat.le_refl _) ?_, rfl, q _ (I.hok.fresh (Nat.le_refl _))⟩
  exact ⟨Nat.le_trans (cutV_length xs lo hi) hz, _, 0, (r.drop (HT.sIx xs.length 0 lo)).take (HT.sIx xs.length xs.length hi - HT.sIx xs.length 0 lo), Heap.get?_push_size _ rfl⟩

/-! ### in, not in: flat items -/
def flatV : V → Bool
  | .non => true
  | .bl _ => true
  | .int _ => true
  | .str _ => true
  | _ => false
/-- == of flat values -/
def eqV : V → V → Bool
  | .non, .non => true
  | .bl a, .bl b => a == b
  | .bl a, .int b => (if a then 1 else 0) == b
  | .int a, .bl b => a == (if b then 1 else 0)
  | .int a, .int b => a == b
  | .str a, .str b => a == b
  | _, _ => false
theorem eqAt_V {A : Around} {s : Shared} {y x : V} {u v : Value} (ry : RelV y u) (rx : RelV x v) (fy : flatV y = true) (fx : flatV x = true) : SeqAt.EqAt A s u v (eqV y x) := by
  cases y with
  | non =>
    cases ry
    cases x with
    | non => cases rx; exact SeqAt.EqAt.same _
    | bl b => cases rx; exact SeqAt.EqAt.none_bool b
    | int b => obtain ⟨t, rfl⟩ := rx; exact SeqAt.EqAt.none_int b t
    | str b => obtain ⟨t, rfl⟩ := rx; exact SeqAt.EqAt.none_str b t
    | _ => exact absurd (show false = true from fx) Bool.false_ne_true
  | bl a =>
    cases ry
    cases x with
    | non => cases rx; exact SeqAt.EqAt.bool_none a
    | bl b => cases rx; exact SeqAt.EqAt.bool_bool a b
    | int b => obtain ⟨t, rfl⟩ := rx; exact SeqAt.EqAt.bool_int a b t
    | str b => obtain ⟨t, rfl⟩ := rx; exact SeqAt.EqAt.bool_str a b t
    | _ => exact absurd (show false = true from fx) Bool.false_ne_true
  | int a =>
    obtain ⟨t', rfl⟩ := ry
    cases x with
    | non => cases rx; exact SeqAt.EqAt.int_none a t'
    | bl b => cases rx; exact SeqAt.EqAt.int_bool a t' b
    | int b => obtain ⟨t, rfl⟩ := rx; exact SeqAt.EqAt.int_int a t' b t
    | str b => obtain ⟨t, rfl⟩ := rx; exact SeqAt.EqAt.int_str a t' b t
    | _ => exact absurd (show false = true from fx) Bool.false_ne_true
  | str a =>
    obtain ⟨t', rfl⟩ := ry
    cases x with
    | non => cases rx; exact SeqAt.EqAt.str_none a t'
    | bl b => cases rx; exact SeqAt.EqAt.str_bool a t' b
    | int b => obtain ⟨t, rfl⟩ := rx; exact SeqAt.EqAt.str_int a t' b t
    | str b => obtain ⟨t, rfl⟩ := rx; exact SeqAt.EqAt.str_str a t' b t
    | _ => exact absurd (show false = true from fx) Bool.false_ne_true
  | _ => exact absurd (show false = true from fy) Bool.false_ne_true
/-- the items' answers, read off the values (a value's own answer does not lean on its token) -/
def eqU (x : V) (u : Value) : Bool := match u with
  | .none => eqV .non x
  | .bool b => eqV (.bl b) x
  | .int i _ => eqV (.int i) x
  | .str z _ => eqV (.str z) x
  | _ => false
theorem eqU_of {x y : V} {u : Value} (r : RelV y u) (f : flatV y = true) : eqU x u = eqV y x := by
  cases y with
  | non => cases r; rfl
  | bl b => cases r; rfl
  | int i => obtain ⟨t, rfl⟩ := r; rfl
  | str z => obtain ⟨t, rfl⟩ := r; rfl
  | _ => exact absurd (show false = true from f) Bool.false_ne_true
theorem any_eqU {x : V} : ∀ {xs : List V} {us : List Value}, Vals xs us → xs.all flatV = true → us.any (eqU x) = xs.any fun y => eqV y x
  | _, _, .nil, _ => rfl
  | y :: xs, u :: us, .cons r t, f => by
    rw [List.all_cons, Bool.and_eq_true] at f
    rw [List.any_cons, List.any_cons, eqU_of r f.1, any_eqU t f.2]
theorem mem_eqAt {A : Around} {s : Shared} {x : V} {v : Value} (rx : RelV x v) (fx : flatV x = true) : ∀ {xs : List V} {us : List Value}, Vals xs us → xs.all flatV = true → ∀ u ∈ us, SeqAt.EqAt A s u v (eqU x u)
  | _, _, .nil, _ => fun u hu => by cases hu
  | y :: xs, u :: us, .cons r t, f => fun u' hu => by
    rw [List.all_cons, Bool.and_eq_true] at f
    rcases List.mem_cons.mp hu with rfl | hu
    · rw [eqU_of r f.1]; exact eqAt_V r rx f.1 fx
    · exact mem_eqAt rx fx t f.2 u' hu
def inV (x : V) (xs : List V) : Bool := xs.any fun y => eqV y x
/-- x in a list or tuple of flat items -/
def rIn (K : PySem.W.Frag) (neg : Bool) : R2 := fun x y H Q => ∃ p xs, y = .ref p ∧ (SqL K H p xs ∨ SqT K H p xs) ∧ flatV x = true ∧ xs.all flatV = true ∧ Q (.bl (if neg then !inV x xs else inV x xs)) H
theorem op_in_seq : OpR X (compareOp .In) (rIn X.K false) := by
  intro pins s σ H x y v u Q I rx ry h
  obtain ⟨p, xs, rfl, hq, fx, fs, q⟩ := h
  cases ry
  rcases hq with hq | hq
  · obtain ⟨its, r, pl, hz⟩ := I.list hq
    refine SeqAt.in_listAt (eqU x) pl.isList (fun w hw => mem_eqAt rx fx r fs w (by simpa using hw)) ⟨.bl _, H, I, rfl, ?_⟩
    rw [show its.toArray.any (eqU x) = its.any (eqU x) by simp, any_eqU r fs]
    exact q
  · obtain ⟨its, r, pl, hz⟩ := I.tuple hq
    refine SeqAt.in_tupleAt (eqU x) pl (fun w hw => mem_eqAt rx fx r fs w (by simpa using hw)) ⟨.bl _, H, I, rfl, ?_⟩
    rw [show its.toArray.any (eqU x) = its.any (eqU x) by simp, any_eqU r fs]
    exact q
/-! ### len, list(x), tuple(x) of any list or tuple that is read -/
theorem call_len_seq : CallR X (.builtin "len") (fun xs H Q => ∃ p ys, xs = [.ref p] ∧ (SqL X.K H p ys ∨ SqT X.K H p ys) ∧ Q (.int ys.length) H) := by
  intro pins s σ H xs us Q I r h
  obtain ⟨p, ys, rfl, hq, q⟩ := h
  obtain ⟨u, rfl, rx⟩ := vals1 r
  cases rx
  have hn := line63
  rcases hq with hq | hq
  · obtain ⟨its, r', pl, hz⟩ := I.list hq
    have hlen := r'.length
    exact Calls.call_len_list pl.isList (by simp only [List.size_toArray] <;> omega) ⟨.int ys.length, H, I.tok _, ⟨s.toks + 1, by rw [List.size_toArray, hlen]⟩, q⟩
  · obtain ⟨its, r', pl, hz⟩ := I.tuple hq
    have hlen := r'.length
    exact len_tuple pl (by simp only [List.size_toArray] <;> omega) ⟨.int ys.length, H, I.tok _, ⟨s.toks + 1, by rw [List.size_toArray, hlen]⟩, q⟩
theorem call_len_str : CallR X (.builtin "len") (fun xs H Q => ∃ z, xs = [.str z] ∧ z.length ≤ sizeLine ∧ Q (.int z.length) H) := by
  intro pins s σ H xs us Q I r h
  obtain ⟨z, rfl, hz, q⟩ := h
  obtain ⟨u, rfl, t, rfl⟩ := vals1 r
  have hn := line63
  exact len_str (by omega) ⟨.int z.length, H, I.tok _, ⟨_, rfl⟩, q⟩
theorem call_tuple_of : CallR X (.type "tuple") (fun xs H Q => ∃ p ys, xs = [.ref p] ∧ ((SqL X.K H p ys ∧ ∀ l, H l = none → Q (.ref l) (upd H l (.tup ys))) ∨ (SqT X.K H p ys ∧ Q (.ref p) H))) := by
  intro pins s σ H xs us Q I r h
  obtain ⟨p, ys, rfl, h⟩ := h
  obtain ⟨u, rfl, rx⟩ := vals1 r
  cases rx
  rcases h with ⟨hq, q⟩ | ⟨hq, q⟩
  · obtain ⟨its, r', pl, hz⟩ := I.list hq
    have hlen := r'.length
    refine call_tuple_list pl.isList (fun h' kp => ?_) (by simp only [List.size_toArray] <;> omega)
    have I1 : Inv X pins σ H { s with heap := h' } := I.kept (t' := s.toks) kp
    have I2 : Inv X pins σ (upd H h'.objs.size (.tup ys)) { s with heap := h'.push { cls := .type "tuple", data := .seq its.toArray } } :=
      I1.laid (t' := s.toks) (fun b o e => Heap.get?_push_of_some _ e) (Nat.le_refl _) (show ObjOk X.prog X.w _ _ _ (.tup ys) from ⟨hz, its, r', IsTup.new _ _⟩)
    exact ⟨.ref h'.objs.size, _, I2, rfl, q _ (I1.hok.fresh (Nat.le_refl _))⟩
  · obtain ⟨its, r', pl, hz⟩ := I.tuple hq
    exact call_tuple_same pl ⟨.ref p, H, I, rfl, q⟩

/-! ### the call of a builtin's method: o.m(..) -/
/-- the value is of that builtin type -/
def tyV (K : PySem.W.Frag) (T : String) (x : V) (H : Hp) : Prop := match x with
  | .str _ => T = "str"
  | .int _ => T = "int"
  | .ref p => (T = "list" ∧ ∃ xs, SqL K H p xs) ∨ (T = "tuple" ∧ ∃ o, K.lookup p = some o ∧ o.cls = .type "tuple" ∧ o.dict = none) ∨
      (T = "dict" ∧ ((∃ kvs, H p = some (.dK kvs)) ∨ ∃ kvs, H p = some (.dT kvs))) ∨ (T = "set" ∧ ∃ S n, H p = some (.set S n))
  | _ => False
theorem tyV_is {pins : List (Addr × Obj)} {σ : St} {H : Hp} {s : Shared} {T : String} {x : V} {v : Value} (I : Inv X pins σ H s) (r : RelV x v) (ty : tyV X.K T x H) :
    s.TypeIs v T ∧ ∀ a, v = .ref a → ∃ ob, s.heap.get? a = some ob ∧ ob.dict = none := by
  cases x with
  | str z =>
    obtain ⟨t, rfl⟩ := r
    cases (show T = "str" from ty)
    exact ⟨typeIs_str s z t, fun _ e => nomatch e⟩
  | int i =>
    obtain ⟨t, rfl⟩ := r
    cases (show T = "int" from ty)
    exact ⟨typeIs_int s i t, fun _ e => nomatch e⟩
  | ref p =>
    cases r
    rcases ty with ⟨rfl, xs, hq⟩ | ⟨rfl, o, hk, hc, hd⟩ | ⟨rfl, hk⟩ | ⟨rfl, S, n, hk⟩
    · obtain ⟨its, _, pl, _⟩ := I.list hq
      refine ⟨pl.isList.typeIs, fun a e => ?_⟩
      cases e
      obtain ⟨o, n, e, c, hd, _⟩ := pl
      exact ⟨o, e, hd⟩
    · refine ⟨⟨o, I.kIn p o hk, hc⟩, fun a e => ?_⟩
      cases e
      exact ⟨o, I.kIn _ o hk, hd⟩
    · have z : ∃ o, s.heap.get? p = some o ∧ o.ExactDict := by
        rcases hk with ⟨kvs, hk⟩ | ⟨kvs, hk⟩
        · obtain ⟨_, _, _, _, o, _, _, e, ex, _⟩ := I.hok p _ hk
          exact ⟨o, e, ex⟩
        · obtain ⟨_, _, _, _, o, _, _, e, ex, _⟩ := I.hok p _ hk
          exact ⟨o, e, ex⟩
      obtain ⟨o, e, ex⟩ := z
      refine ⟨⟨o, e, ex.1⟩, fun a e2 => ?_⟩
      cases e2
      exact ⟨o, e, ex.2.1⟩
    · obtain ⟨o, _, _, _, e, ex, _⟩ := I.hok p _ hk
      refine ⟨⟨o, e, ex.1⟩, fun a e2 => ?_⟩
      cases e2
      exact ⟨o, e, ex.2.1⟩
  | _ => exact False.elim ty
def tBM (K : PySem.W.Frag) (T : String) (r : V → List V → Hp → VK → Prop) (to : TE) (t : TA) : TE := fun σ H Q => to σ H fun x H1 => tyV K T x H1 ∧ t σ H1 fun xs H2 => r x xs H2 Q
variable {o e : Expr} {es : List Expr} {to : TE} {t : TA} {name : Str} {apos cpos : Pos} {T id : String} {r : V → List V → Hp → VK → Prop}
theorem pe_bm (pa : PlainAttrs T) (slot : Slot T name id) (hty : typeOf (.builtin id) = pure (.type "method_descriptor")) (hm : MtR X id r) (ho : PE X o to) (ha : PA X (e :: es) t)
    (hbase : attributeBase o name X.env (eval o X.env) = eval o X.env := by rfl)
    (hfew : ((backTo cpos (starEach (e :: es) X.env)).all (fun x => !x.1) && (backToKw cpos (keywordEach [] X.env)).all (fun x => x.1.isSome)
      && decide ((e :: es).length + ([] : List Keyword).length + (if ([] : List Keyword).isEmpty then 0 else 1) < 30)) = true := by rfl)
    (hline : (apos.endLine == cpos.line) = true := by rfl) (hs : starEach (e :: es) X.env = (false, eval e X.env) :: starEach es X.env := by rfl) (hplain : (backTo cpos (starEach es X.env)).any (·.1) = false := by rfl) :
    PE X (.Call (.Attribute o name apos) (e :: es) [] cpos) (tBM X.K T r to t) := by
  intro pins s σ H Q I h
  refine wpAny_Call_method_late hbase hfew hline rfl (thn (ho pins s σ H _ I h) fun v s1 ⟨x, H1, I1, r1, ty, q1⟩ => ?_)
  obtain ⟨h1, h2⟩ := tyV_is I1 r1 ty
  refine ⟨T, id, pa, slot, hty, h1, h2, ?_⟩
  have hA := ha cpos pins s1 σ H1 _ I1 q1
  rw [hs] at hA ⊢
  refine Calls.callWith_builtin (by show (false || (backTo cpos (starEach es X.env)).any (·.1)) = false; rw [hplain] <;> rfl) (Calls.evalArgs_plain ?_)
  exact thn hA fun us s2 ⟨vs, H2, I2, r2, q2⟩ => hm pins s2 σ H2 x vs v us Q I2 r1 r2 q2
/- xs.append(e), list.index on a module's tuple .. are MtR facts of 06m -/
end
end L2

namespace L2
open PySem PySem.Spec PyProof.Rows

def MtM (X : Cx) (id : String) (r : V → List V → Hp → VK → Prop) : Prop :=
  ∀ (pins : List (Addr × Obj)) (s : Shared) (σ : St) (H : Hp) (x : V) (xs : List V) (v : Value) (us : List Value) (Q : VK), Inv X pins σ H s → RelV x v → Vals xs us → r x xs H Q →
    wpAny (model X.prog X.w) X.A (call (.builtin id) (v :: us)) (EP X pins σ Q) X.xe s

/-! ### lists of values -/
theorem Vals.one : ∀ {x : V} {us : List Value}, Vals [x] us → ∃ u, us = [u] ∧ RelV x u
  | _, _, .cons r .nil => ⟨_, rfl, r⟩
theorem Vals.two : ∀ {x y : V} {us : List Value}, Vals [x, y] us → ∃ u v, us = [u, v] ∧ RelV x u ∧ RelV y v
  | _, _, _, .cons r (.cons q .nil) => ⟨_, _, rfl, r, q⟩
theorem Vals.zero : ∀ {us : List Value}, Vals [] us → us = []
  | _, .nil => rfl
section
variable {X : Cx} {pins : List (Addr × Obj)} {σ : St} {H : Hp} {s : Shared} {l b : Addr} {xs ys zs : List V}

/-! ### the two steps: a tracked list is rewritten, a new list is laid -/
theorem Inv.lset {its its' : List Value} {n : Nat} {f : Array Value → Array Value} {t' : Nat} (I : Inv X pins σ H s) (hH : H l = some (.lst xs))
    (e : s.heap.get? l = some { cls := .type "list", data := .seq its.toArray n }) (hf : f its.toArray = its'.toArray) (hv : Vals ys its') (hz : ys.length ≤ sizeLine) :
    Inv X pins σ (upd H l (.lst ys)) { s with heap := s.heap.update l (Obj.mapSeq f), toks := t' } := by
  have q := PySem.IsL.update e f
  rw [hf] at q
  refine I.write (x := l) (e := l) (by rw [hH]; exact trivial) (.inl rfl) (fun b' u hb hu => (Heap.get?_update_other s.heap (Obj.mapSeq f) (Ne.symm hb)).trans hu) ⟨_, q⟩ ?_
  exact ⟨hz, its', _, hv, q⟩
theorem Inv.lnew {its : List Value} {t' : Nat} (I : Inv X pins σ H s) (hv : Vals ys its) (hz : ys.length ≤ sizeLine) :
    Inv X pins σ (upd H s.heap.objs.size (.lst ys)) { s with heap := s.heap.push { cls := .type "list", data := .seq its.toArray }, toks := t' } :=
  I.laid (fun _ _ q => Heap.get?_push_of_some _ q) (Nat.le_refl _) ⟨hz, its, 0, hv, Heap.get?_push_size _ rfl⟩
theorem Inv.fresh (I : Inv X pins σ H s) : H s.heap.objs.size = none := I.hok.fresh (Nat.le_refl _)
theorem Inv.lstM (I : Inv X pins σ H s) (hH : H l = some (.lst xs)) : xs.length ≤ sizeLine ∧ ∃ (its : List Value) (n : Nat), Vals xs its ∧ xs.length = its.length ∧ s.heap.get? l = some { cls := .type "list", data := .seq its.toArray n } := by
  obtain ⟨z, its, n, r, e⟩ := I.hok l _ hH
  exact ⟨z, its, n, r, r.length, e⟩

end

section
variable {X : Cx}

/-! ### methods -/
def rAppend : V → List V → Hp → VK → Prop := fun x vs H Q => ∃ l xs y, x = .ref l ∧ vs = [y] ∧ H l = some (.lst xs) ∧ xs.length < sizeLine ∧ Q .non (upd H l (.lst (xs ++ [y])))
theorem mt_append : MtM X "list.append" rAppend := by
  intro pins s σ H x vs v us Q I rx rv h
  obtain ⟨l, xs, y, rfl, rfl, hH, hz, q⟩ := h
  cases rx
  obtain ⟨u, rfl, ru⟩ := rv.one
  obtain ⟨z, its, n, r, hl, e⟩ := I.lstM hH
  refine call_meets F.slot_list_append ⟨_, e, rfl⟩ F.entry_list_append (F.args_list_append_2 _ _) (PySem.list_append l its.toArray n u (by rw [List.size_toArray]; omega)) ⟨e, ?_⟩
  refine ⟨.non, _, I.lset (its' := its ++ [u]) hH e (by simp) (r.append (.cons ru .nil)) ?_, rfl, q⟩
  rw [List.length_append, List.length_singleton]
  omega

/-! ### list + list, list += list, list * int -/
def rCat : R2 := fun x y H Q => ∃ l b xs zs, x = .ref l ∧ y = .ref b ∧ H l = some (.lst xs) ∧ H b = some (.lst zs) ∧ xs.length + zs.length ≤ sizeLine ∧ ∀ p, H p = none → Q (.ref p) (upd H p (.lst (xs ++ zs)))
theorem op_cat : OpR X (binaryOp .Add) rCat := by
  intro pins s σ H x y v u Q I rx ry h
  obtain ⟨l, b, xs, zs, rfl, rfl, hH, hB, hz, q⟩ := h
  cases rx
  cases ry
  obtain ⟨z, its, n, r, hl, e⟩ := I.lstM hH
  obtain ⟨z2, its2, n2, r2, hl2, e2⟩ := I.lstM hB
  refine PySem.P.add_list e e2 ?_ (by rw [List.size_toArray, List.size_toArray]; omega)
  have ea : its.toArray ++ its2.toArray = (its ++ its2).toArray := by simp
  rw [ea]
  exact ⟨.ref _, _, I.lnew (t' := s.toks) (r.append r2) (by rw [List.length_append]; omega), rfl, q _ I.fresh⟩
/-! ### del xs[i] -/
end

/-! ### xs[a:b] = ys -/

end L2

namespace L2
open PySem PySem.Spec PyProof.Rows

/-! ### lists of pairs as tables -/


/-! ### a tracked dict, its keys ints and texts or tuples of these -/




/-! ### readings and rules -/


/-! ### displays -/

/-! ### methods -/


/-! ### dict(d): a copy -/


end L2

namespace Att
open PySem PySem.W PySem.Calls PyProof.Rows

/-! ### the script -/
theorem ints_of_wellAll {P : Params} {h : Heap} : ∀ (ns : List Int) (vs : List Value), WellAll P h vs (ns.map WData.int) → IntsAre vs ns := by
  intro ns
  induction ns with
  | nil =>
    intro vs w
    rw [List.map_nil] at w
    cases w
    exact .nil
  | cons n ns ih =>
    intro vs w
    rw [List.map_cons] at w
    cases w with
    | cons a b =>
      cases a
      exact .cons _ _ (ih _ b)

theorem script_of {l : OpenLaw} {n : Nat} (hn : l.most = some n) {P : Params} {h : Heap} {args : List WData} {vals : List Value}
    (hpre : l.row.toRowW.claim.pre args = true) (hwl : WellAll P h vals args) :
    ∃ a vs ns, vals = [Value.ref a] ∧ args = [WData.list (ns.map WData.int)] ∧ h.get? a = some { cls := .type "list", data := .seq vs.toArray } ∧ IntsAre vs ns ∧ ns.length ≤ n := by
  have hsh : WShape.hasAll [] args [.list .int] = true := (pre_splitW hpre).1
  have hc : l.pre.holds [] { args := args } = true := (pre_splitW hpre).2
  obtain ⟨d, r, rfl, h1, h2⟩ := hasAllW_cons hsh
  obtain rfl := hasAllW_nil h2
  obtain ⟨xs, rfl, h3⟩ := hasW_list h1
  obtain ⟨ns, rfl⟩ := items_int h3
  have hlen : ns.length ≤ n := by
    unfold OpenLaw.pre at hc
    have h4 : (WTm.not (.lt (.lit (.int (n : Int))) (.len (.arg 0)))).holds [] { args := [.list (ns.map .int)] } = true := by
      have h4 := (holds_andW hc).1
      rw [hn] at h4
      exact h4
    have h5 := condW_of h4 (w_not (w_lt w_lit (w_len_list (w_arg rfl))))
    rw [List.length_map] at h5
    refine Nat.le_of_not_lt fun q => ?_
    have q' : (n : Int) < ((ns.length : Nat) : Int) := by omega
    first
      | (rw [decide_eq_true q'] at h5; exact absurd h5 (by decide))
      | (simp at h5; omega)
  cases hwl with
  | cons w1 w2 =>
    cases w2
    cases w1 with
    | list ho hall => exact ⟨_, _, ns, rfl, rfl, ho, ints_of_wellAll ns _ hall, hlen⟩

theorem post_true (l : OpenLaw) (args : List WData) : l.row.toRowW.claim.post args (.bool true) args = true :=
  postW_of (r := l.row.toRowW) (X := (true == true))
    (show WShape.has [] (.bool true) .bool = true by first | rfl | decide | simp [WShape.has, WShape.arms, WShape.armsAll])
    (show (WTm.eq .res (.lit (.bool true))).value [] { args := args, res := some (.bool true), after := args } = some (.bool (true == true)) from w_eq_bool (w_res rfl) w_lit) rfl

/-! ### the attachment: holds_open's last premise (the goal 'hc' behind k_head) from a wpAny of the law's body -/
/-- the same from a codeAny of the CALL (for a layer whose function contracts speak of calls) -/
theorem attach_call {l : OpenLaw} {n : Nat} {q : Program} {loose : List Str} {XP : (Str → Option Value) → Heap → Prop} {YP : World → Heap → Prop} {d : DefRec}
    (hn : l.most = some n) (hdf : d.params.defaults = [])
    (call : ∀ (w : World) (s₀ s₁ : Shared) (mg mb : Str → Option Value) (fa : Addr) (o : Obj) (pm cd doc : Value) (a : Addr) (vs : List Value) (ns : List Int),
      Ground q loose [] XP w s₀ mg mb s₁.heap → YP w s₁.heap →
      s₁.heap.get? fa = some o → o.data = .func (docDef d.name d.params d.body d.scope pm cd doc) → s₁.heap.CodeRec cd d.name → mg d.name = some (.ref fa) →
      s₁.heap.get? a = some { cls := .type "list", data := .seq vs.toArray } → IntsAre vs ns → ns.length ≤ n → s₁.gens = #[] →
      codeAny (model l.prog w) callerA (.call (.ref fa) ⟨[.ref a], []⟩) (fun r s' => r = .ok (.ret (.bool true)) ∧ OldK s₁.heap s'.heap ∧ s'.os = s₁.os ∧ AllBare s'.gens) s₁) :
    WalkO q loose XP YP l.row.toRowW d [] (fun f vs => PySem.call f vs) := by
  intro w s₀ s₁ mg mb G Y fa o pm cd doc dV kV ho hd hcd hD hmg hg args vals as hpre hlay hrd hwl hlo
  obtain rfl : dV = .none := Dflts.none hD hdf
  obtain rfl : kV = .none := Dflts.noKw hD
  obtain ⟨a, vs, ns, rfl, rfl, hobj, hints, hlen⟩ := script_of hn hpre hwl
  refine enter_call (codeAny_mono (call w s₀ s₁ mg mb fa o pm cd doc a vs ns G Y ho (fd_plain hd) hcd hmg hobj hints hlen hg) fun r s' hq => ?_)
  obtain ⟨rfl, h2, h3, h4⟩ := hq
  exact ⟨.inl ⟨.bool true, .bool true, [], rfl, fun _ => rfl, .bool true, post_true l _, fun _ => ⟨List.Pairwise.nil, fun _ hm => (nomatch hm)⟩⟩, h2, h3, h4⟩

/-! ### rules over ANY heap (no ledger) from facts about the written part K: the library's own take a ledger (News) for what they write -/
end Att

namespace L2
open PySem PySem.Spec PyProof.Rows

theorem vals_ints : ∀ {vs : List Value} {ns : List Int}, IntsAre vs ns → Vals (ns.map V.int) vs
  | _, _, .nil => .nil
  | _, _, .cons n t h => .cons ⟨t, rfl⟩ (vals_ints h)

/-- nothing is tracked but the script, known to the object (or it is an object of the module) -/
def Only (H : Hp) : Prop := ∀ b, H b = none ∨ ∃ o xs, H b = some (.frz o (.lst xs))

/-- THE HEAD: the law's promise, at the heap behind the top. F, the promise of the law's def, may use that base is part of the heap (so K.In base, base.Ns mainGlobals mg stand in Mod) -/
theorem law_call {P : Program} {w : World} {K : PySem.W.Frag} {mg mb : Str → Option Value} {CX : CXT} {k : Nat} {fa a : Addr} {fd : FuncData} {x : Str} {sp : Sp} {s₁ : Shared} {vs : List Value} {ns : List Int}
    (KX : K.In s₁.heap) (hns : s₁.heap.Ns mainGlobals mg) (hb : s₁.heap.Ns builtinsNs mb) (hbb : ∀ x : Str, x ≠ "__name__" → mb x = bootBuiltins x) (hlim : s₁.heap.NoLimit) (hg : s₁.gens = #[])
    (ha : s₁.heap.get? a = some { cls := .type "list", data := .seq vs.toArray }) (hi : IntsAre vs ns) (hl : ns.length ≤ sizeLine) (hr : Room k callerA)
    (F : ∀ base : Heap, K.In base → base.Ns mainGlobals mg → FnOk P w K mg base CX k fa fd [x] sp) (hbind : ∀ (s : Shared) (u : Value), BindsTo s fd ⟨[u], []⟩ [(x, u)])
    (hsp : ∀ H : Hp, Only H → SqL K H a (ns.map V.int) → sp [.ref a] H (fun v _ => v = .bl true) fun _ _ _ => False)
    (hCX : ∀ H e s', CX [] H s₁ (fun _ _ _ => False) e s' → False) :
    codeAny (model P w) callerA (.call (.ref fa) ⟨[.ref a], []⟩) (fun r s' => r = .ok (.ret (.bool true)) ∧ OldK s₁.heap s'.heap ∧ s'.os = s₁.os ∧ AllBare s'.gens) s₁ := by
  have rv := vals_ints hi
  have lenV := hi.length
  -- from an abstract heap in which nothing but the script may be tracked
  have core : ∀ H : Hp, Only H → SqL K H a (ns.map V.int) → HOk P w H s₁.heap → (∀ b, H b ≠ none → b = a) → (H a ≠ none → K.lookup a = none) →
      codeAny (model P w) callerA (.call (.ref fa) ⟨[.ref a], []⟩) (fun r s' => r = .ok (.ret (.bool true)) ∧ OldK s₁.heap s'.heap ∧ s'.os = s₁.os ∧ AllBare s'.gens) s₁ := by
    intro H hO hS hok hA hK
    have base_of : ∀ {b : Addr} {o : Obj}, s₁.heap.get? b = some o → H b = none → (hidT s₁.heap H).get? b = some o := fun e n => hidT_get e n
    have noA : ∀ {b : Addr} {o : Obj} {es : Array DictEntry} {ep : Nat}, s₁.heap.get? b = some o → o.data = .dict es ep → H b = none := fun {b o es ep} e d => by
      cases q : H b with
      | none => rfl
      | some u =>
        have e' : b = a := hA b (by rw [q]; simp)
        subst e'
        rw [ha] at e; cases e
        have d' : Data.seq vs.toArray _ = Data.dict es ep := d
        cases d'
    have nsK : ∀ {b : Addr} {m : Str → Option Value}, s₁.heap.Ns b m → (hidT s₁.heap H).Ns b m := fun {b m} ⟨o, es, ep, e, d, r⟩ => ⟨o, es, ep, base_of e (noA e d), d, r⟩
    have hKb : K.In (hidT s₁.heap H) := fun b o e => base_of (KX b o e) (by
      cases q : H b with
      | none => rfl
      | some u =>
        have e' : b = a := hA b (by rw [q]; simp)
        subst e'
        rw [hK (by rw [q]; simp)] at e; cases e)
    have hM : Mod K mg (hidT s₁.heap H) := ⟨hKb, nsK hns, ⟨mb, nsK hb, hbb⟩, let ⟨mc, h1, h2⟩ := hlim; ⟨mc, nsK h1, h2⟩⟩
    have e0 : Env0 P w K mg (hidT s₁.heap H) callerA [] s₁ H := ⟨rfl, hM, fun b o e => of_hidT e, Nat.le_of_eq (hidT_size _ _), trivial, fun b hb => absurd (show b ∈ ([] : List Addr) from hb) (by simp), hok, .of_eq hg⟩
    refine codeAny_mono ((F _ hKb (nsK hns)).run callerA [] s₁ H ⟨[.ref a], []⟩ [.ref a] [.ref a] _ _ hr e0 (hbind s₁ (.ref a)) (.cons rfl .nil) (hsp H hO hS)) fun r s' h => ?_
    cases r with
    | error e => exact (hCX H e s' h).elim
    | ok fl =>
      cases fl with
      | next => exact False.elim h
      | brk => exact False.elim h
      | cont => exact False.elim h
      | ret u =>
        obtain ⟨v, H', os, bare, un, hok', r', q⟩ := h
        have q' : v = .bl true := q
        subst q'
        obtain rfl : u = Value.bool true := r'
        refine ⟨rfl, OldK.of_keep fun b o e => ?_, os, bare⟩
        cases q : H b with
        | none => exact un.keep b o e q (by intro z; exact absurd (show b ∈ ([] : List Addr) from z) (by simp)) (by simp)
        | some u =>
          rcases hO b with z | ⟨ob, xs, z⟩
          · rw [q] at z; cases z
          · have z2 := un.frzs b ob _ z
            obtain ⟨e1, _⟩ := hok b _ z
            obtain ⟨e2, _⟩ := hok' b _ z2
            rw [e] at e1; cases e1
            exact e2
  cases hk : K.lookup a with
  | some o =>
    -- the script is one of the module's own objects
    have e := KX a o hk
    rw [ha] at e
    cases e
    refine core (fun _ => none) (fun _ => .inl rfl) (.inr ⟨_, vs.toArray, _, hk, rfl, rfl, rfl, by rw [List.size_toArray, lenV]; exact hl, by simpa using rv⟩) (fun b u z => by have z' : (none : Option HO) = some u := z; cases z') (fun b z => absurd rfl z) fun z => absurd rfl z
  | none =>
    refine core (fun b => if b = a then some (.frz { cls := .type "list", data := .seq vs.toArray } (.lst (ns.map V.int))) else none) (fun b => ?_) (.inl (.inr ⟨{ cls := .type "list", data := .seq vs.toArray }, if_pos rfl⟩)) (fun b u z => ?_) (fun b z => ?_) fun _ => hk
    · by_cases hb : b = a
      · exact .inr ⟨_, _, if_pos hb⟩
      · exact .inl (if_neg hb)
    · by_cases hb : b = a
      · have z' := (if_pos hb).symm.trans z
        cases z'
        subst hb
        exact ⟨ha, by rw [List.length_map]; exact hl, vs, _, rv, ha⟩
      · have z' := (if_neg hb).symm.trans z
        cases z'
    · by_cases hb : b = a
      · exact hb
      · exact absurd (if_neg hb) z
end L2

namespace L2
open PySem PySem.Spec PyProof.Rows

/-- the goal that k_head leaves (case hc), from the law's promise. F gives the function object fd (K's own) once, then the promise over every base -/
theorem walk_of {l : PySem.W.OpenLaw} {n k : Nat} {q : Program} {loose : List Str} {XP : (Str → Option Value) → Heap → Prop} {YP : World → Heap → Prop} {d : DefRec} {K : Params → PySem.W.Frag} {CX : World → CXT} {sp : World → Sp} {x : Str}
    (hn : l.most = some n) (hn2 : n ≤ sizeLine) (hdf : d.params.defaults = []) (hr : Room k callerA)
    (hY : ∀ (w : World) (h : Heap), YP w h → (K w.params).In h)
    (F : ∀ (w : World) (mg : Str → Option Value) (fa : Addr) (h : Heap), (K w.params).In h → h.Ns mainGlobals mg → mg d.name = some (.ref fa) →
      ∃ fd : FuncData, (∀ (s : Shared) (u : Value), BindsTo s fd ⟨[u], []⟩ [(x, u)]) ∧
        ∀ base : Heap, (K w.params).In base → base.Ns mainGlobals mg → FnOk l.prog w (K w.params) mg base (CX w) k fa fd [x] (sp w))
    (hsp : ∀ (w : World) (H : Hp) (a : Addr) (ns : List Int), ns.length ≤ n → Only H → SqL (K w.params) H a (ns.map V.int) → sp w [.ref a] H (fun v _ => v = .bl true) fun _ _ _ => False)
    (hCX : ∀ (w : World) (H : Hp) (s : Shared) (e : Value) (s' : Shared), CX w [] H s (fun _ _ _ => False) e s' → False) :
    PySem.W.WalkO q loose XP YP l.row.toRowW d [] (fun f vs => PySem.call f vs) := by
  refine Att.attach_call hn hdf fun w s₀ s₁ mg mb fa o pm cd doc a vs ns G Y ho hd hcd hmg hobj hints hlen hg => ?_
  have KX := hY w _ Y
  obtain ⟨fd, hb, hF⟩ := F w mg fa _ KX G.T.g hmg
  exact law_call KX G.T.g G.T.b G.T.builtins G.T.nolimit hg hobj hints (Nat.le_trans hlen hn2) hr hF hb (fun H hO hS => hsp w H a ns hlen hO hS) fun H e s' => hCX w H s₁ e s'
end L2

/- THE LAST THEOREM (shape; LID, My.* are yours):
   My.Adr: a structure of the addresses that your layer names (classes, functions); My.Txt K t: a structure (Prop) of the equations over K;
   My.txt_mk : {K} {implicit addresses ..} (e1 : nsIn K mainGlobals "law" = some (some (.ref f))) (e2 : K.lookup f = some ⟨oc, od, .func (fnOf "law" "law" params body scope dV kV doc pm an cdv ct), sl⟩) (e3 : codeIn K cdv "law" = true) .. : ∃ t, My.Txt K t

set_option maxRecDepth 100000 in
set_option maxHeartbeats 0 in
theorem PySem.Challenge.cw_LID_holds : PySem.Challenge.rw_LID.Holds := by
  w_on; o_law; k_head; (case hw => w_witness2)
  k_fill
  refine L2.walk_of (l := PySem.Challenge.rw_LID) (n := 63) (k := 40) (x := "script") (CX := fun w => ..) (sp := fun _ => My.sp_law) rfl (by decide) rfl ⟨rfl, by decide, by decide⟩ (fun w h Y => PySem.W.kIn_of Y) ?F ?S ?C
  case F =>
    intro w mg fa h KX G hmg
    have T : ∃ t, My.Txt (L2.KOf KX) t := by
      dsimp only [L2.KOf]                          -- K must stand as «<heap const> w.params» for k_is
      refine' My.txt_mk ?e1 ?e2 ?e3 ..
      (case e1 => PySem.W.k_is)                    -- in the order: a name -> its address -> its object -> its parts
      (case e2 => PySem.W.k_is)
      ..
    obtain ⟨t, T⟩ := T
    have e0 := hmg.symm.trans (PySem.W.mg_of KX G T.law)
    cases e0                                       -- fa is the law's own address
    exact ⟨_, fun s u => .of_eq rfl, fun base kb nb => My.law_fn T kb nb⟩     -- if «.of_eq rfl» comes too early: refine' ⟨_, ?b, fun base kb nb => My.law_fn T kb nb⟩; exact fun s u => .of_eq rfl
  case S => exact fun w H a ns hl hO hS => ..
  case C => exact ..
(the tactic k_is has no namespace: write k_is) -/

/-! SHORT WORDS over the layer: a def of the text, its body, what a loop and a test want. -/
namespace L2
open PySem PySem.Spec PyProof.Rows

/-! ### the text by places -/
def defArgs (s : Stmt) : Arguments := match s with
  | .FunctionDef _ a _ _ _ _ _ _ _ _ => a
  | _ => { posonlyargs := [], args := [], vararg := none, kwonlyargs := [], kw_defaults := [], kwarg := none, defaults := [] }
def defBody (s : Stmt) : List Stmt := match s with
  | .FunctionDef _ _ b _ _ _ _ _ _ _ => b
  | _ => []
def defScope (s : Stmt) : Scope := match s with
  | .FunctionDef _ _ _ _ _ _ sc _ _ _ => sc
  | _ => { kind := .function, names := [], isGenerator := false, isCoroutine := false }

/-! ### no exception leaves a def -/
abbrev CX0 : CXT := fun _ _ _ _ _ _ => False
abbrev E0 : XK := fun _ _ _ => False
theorem pass0 {X : Cx} : Passes CX0 X E0 := fun _ _ _ _ _ _ _ h => h.elim

/-! ### a def (or method) of the text as it stands behind the top -/
structure Fun (K : PySem.W.Frag) (x qual : Str) (st : Stmt) (f : Addr) (fd : FuncData) : Prop where
  ex : ∃ (oc : Value) (od : Option Addr) (kV doc pm : Value) (an : Option Addr) (cdv ct : Value) (osl : Array (Option Value)),
    fd = PySem.W.fnOf x qual (defArgs st) (defBody st) (defScope st) .none kV doc pm an cdv ct ∧ K.lookup f = some ⟨oc, od, .func fd, osl⟩ ∧ PySem.W.codeIn K cdv qual = true
  kp : PySem.W.keepIn K (.ref f) = true
section
variable {P : Program} {w : World} {K : PySem.W.Frag} {mg : Str → Option Value} {base : Heap}
/-- THE RULE for a def: its body as a term of rules, and the reading of that term -/
theorem Fun.ok {x qual : Str} {st : Stmt} {f : Addr} {fd : FuncData} {N ps : List Str} {k : Nat} {sp : Sp} (F : Fun K x qual st f fd) (S : FnScope N ps (defScope st)) (len : ∀ vs H Q E, sp vs H Q E → vs.length = ps.length)
    (hbody : ∀ (cdv : Value) (A : Around) (outer : List Env) (s : Shared) (H : Hp) (vs : List V) (Q : VK) (E : XK), Room k (A.deeper (envOfC qual (defScope st) s.heap.objs.size f cdv)) → sp vs H Q E →
      ∃ t, PSs (cxOf CX0 P w K mg base N qual (defScope st) f cdv A outer s H E).nox (defBody st) t ∧ t { nx := fun _ H' => Q .non H', rt := Q } (start N vs) H) : FnOk P w K mg base CX0 (k + 1) f fd ps sp := by
  obtain ⟨oc, od, kV, doc, pm, an, cdv, ct, osl, rfl, lk, hcd⟩ := F.ex
  refine fn_of lk hcd S len fun A outer s H vs Q E hr hsp => ?_
  obtain ⟨t, h, q⟩ := hbody cdv A outer s H vs Q E hr hsp
  exact ⟨t, h.nox, q⟩
/-- how its arguments bind (no defaults): h is «fun _ _ _ _ _ _ us hl => match us, hl with | [_, _], _ => rfl», one _ a parameter -/
theorem Fun.binds {x qual : Str} {st : Stmt} {f : Addr} {fd : FuncData} {ps : List Str} (F : Fun K x qual st f fd)
    (h : ∀ (kV doc pm : Value) (an : Option Addr) (cdv ct : Value) (us : List Value), us.length = ps.length → bindArgs (PySem.W.fnOf x qual (defArgs st) (defBody st) (defScope st) .none kV doc pm an cdv ct) ⟨us, []⟩ = pure (ps.zip us)) : Binds K fd ps [] := by
  obtain ⟨oc, od, kV, doc, pm, an, cdv, ct, osl, rfl, lk, hcd⟩ := F.ex
  exact .all (h kV doc pm an cdv ct)
theorem fun_mk {x qual : Str} {st : Stmt} {f : Addr} {oc : Value} {od an : Option Addr} {osl : Array (Option Value)} {kV doc pm cdv ct : Value} (l : K.lookup f = some ⟨oc, od, .func (PySem.W.fnOf x qual (defArgs st) (defBody st) (defScope st) .none kV doc pm an cdv ct), osl⟩)
    (c : PySem.W.codeIn K cdv qual = true) (k : PySem.W.keepIn K (.ref f) = true) : Fun K x qual st f (PySem.W.fnOf x qual (defArgs st) (defBody st) (defScope st) .none kV doc pm an cdv ct) := ⟨⟨oc, od, kV, doc, pm, an, cdv, ct, osl, rfl, l, c⟩, k⟩
end
theorem small1000 {n : Nat} (h : n ≤ 1000) : n < sizeLine := Nat.lt_of_le_of_lt h (by decide)

/-! ### expressions in short: the name that stands in the i-th slot -/
section
variable {X : Cx}
theorem pv (i : Nat) {x : Str} {pos : Pos} (hN : X.N[i]? = some x := by rfl) (hv : Vis X.env.scope x := by first | exact Or.inl rfl | exact Or.inr (Or.inl rfl) | exact Or.inr (Or.inr rfl)) (hd : (x == ("__debug__" : Str)) = false := by decide)
    (hcd : (x == ("__classdict__" : Str)) = false := by decide) : PE X (.Name x pos) (tVar i) := pe_var hN hv hd hcd
end

/-! ### tests -/
theorem iteF {A B : Prop} (h : B) : if false = true then A else B := by
  rw [if_neg Bool.false_ne_true]
  exact h
theorem iteT {A B : Prop} (h : A) : if true = true then A else B := by
  rw [if_pos rfl]
  exact h
theorem ite2 {c A B : Prop} [Decidable c] (h1 : c → A) (h2 : ¬ c → B) : if c then A else B := by
  by_cases h : c
  · rw [if_pos h]
    exact h1 h
  · rw [if_neg h]
    exact h2 h
/-! ### heaps -/
/-- all that was tracked is as it was -/
def Same (H H' : Hp) : Prop := ∀ b o, H b = some o → H' b = some o
theorem Same.refl (H : Hp) : Same H H := fun _ _ h => h
theorem Same.trans {H H1 H2 : Hp} (a : Same H H1) (b : Same H1 H2) : Same H H2 := fun c o h => b c o (a c o h)
theorem Same.free {H H' : Hp} (e : Same H H') {l : Addr} (h : H' l = Option.none) : H l = Option.none := by
  cases q : H l with
  | none => rfl
  | some o =>
    rw [e l o q] at h
    cases h
theorem Same.seq {K : PySem.W.Frag} {H H' : Hp} {a : Addr} {xs : List V} (e : Same H H') (h : SqL K H a xs) : SqL K H' a xs := by
  rcases h with (h | ⟨o, h⟩) | h
  · exact .inl (.inl (e _ _ h))
  · exact .inl (.inr ⟨o, e _ _ h⟩)
  · exact .inr h

/-! ### a dict's pairs: keys that differ -/
end L2

set_option Elab.async false
set_option linter.all false
set_option maxRecDepth 100000
/-! EXTENSION 1: list comprehensions, enumerate -/
namespace L2
open PySem PySem.Spec PyProof.Rows

/-! ### the cells that a block captures -/
theorem cellOf_eq {env : Env} {x : Str} {c : Addr} (h : env.cells.lookup x = some c) : cellOf env x = pure c := by
  unfold cellOf
  rw [h]
def closOf (env : Env) : List (Str × NameKind) → List (Str × Addr) → List (Str × Addr)
  | [], cs => cs
  | (n, k) :: r, cs => closOf env r (if k == .free then (n, (env.cells.lookup n).getD 0) :: cs else cs)
theorem clos_go {env : Env} : ∀ (ns : List (Str × NameKind)) (cs : List (Str × Addr)), (∀ n, (n, NameKind.free) ∈ ns → ∃ c, env.cells.lookup n = some c) →
    (forIn (m := Sem) ns cs fun x r => match x with
      | (name, kind) => if (kind == NameKind.free) = true then do let c ← cellOf env name; pure (ForInStep.yield ((name, c) :: r)) else pure (ForInStep.yield r)) = pure (closOf env ns cs)
  | [], cs, _ => rfl
  | (n, k) :: r, cs, h => by
    rw [List.forIn_cons]
    by_cases hk : (k == NameKind.free) = true
    · have ek : k = .free := by simpa using hk
      obtain ⟨c, e⟩ := h n (by rw [ek]; exact List.mem_cons_self)
      simp only [hk, if_true, cellOf_eq e]
      have q := clos_go r ((n, c) :: cs) fun m hm => h m (List.mem_cons_of_mem _ hm)
      show (forIn (m := Sem) r ((n, c) :: cs) _) = pure (closOf env r (if (k == .free) = true then (n, (env.cells.lookup n).getD 0) :: cs else cs))
      rw [if_pos hk, e]
      exact q
    · simp only [hk]
      have q := clos_go r cs fun m hm => h m (List.mem_cons_of_mem _ hm)
      show (forIn (m := Sem) r cs _) = pure (closOf env r (if (k == .free) = true then (n, (env.cells.lookup n).getD 0) :: cs else cs))
      rw [if_neg hk]
      exact q
theorem closureFor_ok {scope : Scope} {env : Env} (h : ∀ n, (n, NameKind.free) ∈ scope.names → ∃ c, env.cells.lookup n = some c) : closureFor scope env = pure (closOf env scope.names []) := by
  have e := clos_go scope.names [] h
  unfold closureFor
  show (forIn (m := Sem) scope.names [] (fun x r => match x with
      | (name, kind) => if (kind == NameKind.free) = true then do let c ← cellOf env name; pure (ForInStep.yield ((name, c) :: r)) else pure (ForInStep.yield r)) >>= fun s => pure s) = _
  rw [e]
  rfl
theorem closOf_sub {env : Env} {x : Str} {c : Addr} : ∀ (ns : List (Str × NameKind)) (cs : List (Str × Addr)), (∀ n, (n, NameKind.free) ∈ ns → ∃ c, env.cells.lookup n = some c) → (cs.lookup x = some c → env.cells.lookup x = some c) →
    (closOf env ns cs).lookup x = some c → env.cells.lookup x = some c
  | [], _, _, h0, h => h0 h
  | (n, k) :: r, cs, hf, h0, h => by
    unfold closOf at h
    refine closOf_sub r _ (fun m hm => hf m (List.mem_cons_of_mem _ hm)) (fun q => ?_) h
    by_cases hk : (k == NameKind.free) = true
    · have ek : k = .free := by simpa using hk
      subst ek
      obtain ⟨d, e⟩ := hf n List.mem_cons_self
      rw [if_pos hk, e, List.lookup_cons] at q
      by_cases hx : (x == n) = true
      · have ex : x = n := by simpa using hx
        rw [hx] at q
        subst ex
        rw [e]; exact q
      · simp only [hx] at q
        exact h0 q
    · rw [if_neg hk] at q
      exact h0 q
theorem closOf_has {env : Env} {x : Str} : ∀ (ns : List (Str × NameKind)) (cs : List (Str × Addr)), ((cs.lookup x).isSome = true ∨ (x, NameKind.free) ∈ ns) → ((closOf env ns cs).lookup x).isSome = true
  | [], _, h => h.elim id fun z => absurd z (by simp)
  | (n, k) :: r, cs, h => by
    unfold closOf
    refine closOf_has r _ ?_
    rcases h with h | h
    · refine .inl ?_
      split
      · rw [List.lookup_cons]
        split
        · rfl
        · exact h
      · exact h
    · rcases List.mem_cons.mp h with e | h
      · cases e
        refine .inl ?_
        rw [if_pos (show (NameKind.free == NameKind.free) = true from rfl), List.lookup_cons]
        simp
      · exact .inr h

/-! ### the block -/
/-- the values at a block's entry: none for its own names, the place in the def's frame for a captured one -/
def capSt (cap : List (Option Nat)) (σ : St) : St := cap.map fun o => o.bind fun j => (σ[j]?).join
/-- the block's context -/
def cxComp (X : Cx) (scope : Scope) (N' : List Str) (fp : List Addr) (pins : List (Addr × Obj)) (s₃ : Shared) (H₃ : Hp) : Cx where
  prog := X.prog
  w := X.w
  K := X.K
  mg := X.mg
  base := X.base
  A := X.A
  N := N'
  s₀ := s₃
  H₀ := H₃
  env := compEnvC scope (closOf X.env scope.names []) s₃.heap.objs.size X.env
  outer := X.stack
  stack := X.stack
  ex := fp
  fn := fun _ => false
  calm := X.calm
  pn := X.pn ++ pins
  xe := fun _ _ => False
/-- what of the text a block must have: N' its names (own and captured), cap where the captured ones stand in the def's frame -/
structure CompOk (X : Cx) (scope : Scope) (N' : List Str) (cap : List (Option Nat)) : Prop where
  kind : scope.kind = .function
  nocell : ∀ y ∈ scope.names, y.2 ≠ .cell
  loc : ∀ y ∈ scope.names, y.2 = .local → scope.names.lookup y.1 = some .local
  fr : ∀ y ∈ scope.names, y.2 = .free → X.env.kindOf y.1 = some .cell
  frl : ∀ y ∈ scope.names, y.2 = .free → scope.names.lookup y.1 = some .free
  nd : N'.Nodup
  len : cap.length = N'.length
  cap : ∀ (i j : Nat) (x : Str), cap[i]? = some (some j) → N'[i]? = some x → X.N[j]? = some x ∧ (x, NameKind.free) ∈ scope.names

section
variable {X : Cx} {scope : Scope} {N' : List Str} {cap : List (Option Nat)} {fp : List Addr} {pins : List (Addr × Obj)} {s : Shared} {σ : St} {H : Hp}
theorem CompOk.clos (S : CompOk X scope N' cap) (ok : X.Ok) : ∀ n, (n, NameKind.free) ∈ scope.names → ∃ c, X.env.cells.lookup n = some c := fun n hn => ok.has n (.inl (S.fr _ hn rfl))
theorem relabel_kind {env : Env} {x : Str} : ∀ {names : List (Str × NameKind)} {k : NameKind},
    (names.map fun (n, k) => if (k == NameKind.free && env.scope.kind == .function && env.kindOf n == some .cell) then (n, NameKind.cell) else (n, k)).lookup x = some k → k = .cell ∨ k = .free → (∀ y ∈ names, y.2 ≠ .cell) → (x, NameKind.free) ∈ names
  | [], _, h, _, _ => by simp at h
  | (n, q) :: r, k, h, hk, hc => by
    have h' : List.lookup x ((if (q == NameKind.free && env.scope.kind == .function && env.kindOf n == some .cell) = true then (n, NameKind.cell) else (n, q)) :: (r.map fun (n, k) => if (k == NameKind.free && env.scope.kind == .function && env.kindOf n == some .cell) then (n, NameKind.cell) else (n, k))) = some k := h
    by_cases hx : (x == n) = true
    · have ex : x = n := by simpa using hx
      subst ex
      by_cases hq : (q == NameKind.free && env.scope.kind == .function && env.kindOf x == some .cell) = true
      · have : q = .free := by
          rw [Bool.and_eq_true, Bool.and_eq_true] at hq
          simpa using hq.1.1
        subst this
        exact List.mem_cons_self
      · rw [if_neg hq, List.lookup_cons, hx] at h'
        have e : q = k := Option.some.inj h'
        subst e
        rcases hk with hk | hk
        · exact absurd hk (hc _ List.mem_cons_self)
        · rw [hk]; exact List.mem_cons_self
    · have hx' : (x == n) = false := by simpa using hx
      refine List.mem_cons_of_mem _ (relabel_kind (env := env) (k := k) ?_ hk fun y hy => hc y (List.mem_cons_of_mem _ hy))
      split at h'
      · rw [List.lookup_cons, hx'] at h'; exact h'
      · rw [List.lookup_cons, hx'] at h'; exact h'
theorem relabel_free {env : Env} {x : Str} (hf : env.scope.kind = .function) (hx : env.kindOf x = some .cell) : ∀ {names : List (Str × NameKind)}, names.lookup x = some .free →
    (names.map fun (n, k) => if (k == NameKind.free && env.scope.kind == .function && env.kindOf n == some .cell) then (n, NameKind.cell) else (n, k)).lookup x = some .cell
  | [], h => by simp at h
  | (n, k) :: r, h => by
    show List.lookup x ((if (k == NameKind.free && env.scope.kind == .function && env.kindOf n == some .cell) = true then (n, NameKind.cell) else (n, k)) :: _) = _
    cases hxn : x == n with
    | true =>
      have e : x = n := by simpa using hxn
      subst e
      simp only [List.lookup_cons, hxn] at h
      have ek : k = .free := Option.some.inj h
      subst ek
      rw [if_pos (by rw [hf, hx]; rfl), List.lookup_cons, hxn]
    | false =>
      simp only [List.lookup_cons, hxn] at h
      have ih := relabel_free hf hx h
      split
      · rw [List.lookup_cons, hxn]; exact ih
      · rw [List.lookup_cons, hxn]; exact ih

theorem CompOk.ok (S : CompOk X scope N' cap) (I : Inv X pins σ H s) (hf : ∀ b ∈ fp, FpOk X pins H b) (hex : ∀ b ∈ fp, ∃ o, s.heap.get? b = some o) : (cxComp X scope N' fp pins s H).Ok where
  mod := I.ok.mod
  kind := S.kind
  glob := I.ok.glob
  blt := I.ok.blt
  above := Nat.le_refl _
  inj := fun x y c h1 h2 => I.ok.inj x y c (closOf_sub _ _ (S.clos I.ok) (fun z => by simp at z) h1) (closOf_sub _ _ (S.clos I.ok) (fun z => by simp at z) h2)
  has := fun x hx => by
    have hm : (x, NameKind.free) ∈ scope.names := by
      rcases hx with hx | hx
      · exact relabel_kind (env := X.env) hx (.inl rfl) S.nocell
      · exact relabel_kind (env := X.env) hx (.inr rfl) S.nocell
    exact Option.isSome_iff_exists.mp (closOf_has scope.names [] (.inr hm))
  cab := fun x c h => by cases h
  hd := I.ok.hd
  frames := I.ok.frames
  stk := .inl rfl
  exf := fun b hb => by
    obtain ⟨o, e⟩ := hex b hb
    refine ⟨Nat.ne_of_lt (Heap.lt_size e), fun x c h => (hf b hb).2.2.2.2.1 x c (closOf_sub _ _ (S.clos I.ok) (fun z => by simp at z) h)⟩
  bs := I.bs
  bsz := Nat.le_trans I.ok.bsz I.sz
  noex := fun b o e hb => by
    rcases (hf b hb).2.2.2.1 with z | z
    · exact I.ok.noex b o e z
    · exact absurd (Nat.lt_of_lt_of_le (Heap.lt_size e) (Nat.le_trans I.ok.bsz z)) (Nat.lt_irrefl _)
  exfs := fun b hb hs => by
    rcases List.mem_cons.mp (I.stkSub b hs) with z | z
    · exact (hf b hb).2.1 z
    · exact (hf b hb).2.2.1 z
  funs := I.stack
  frf := I.stkFree

/-- a captured name, read in the block -/
theorem CompOk.look (S : CompOk X scope N' cap) (I : Inv X pins σ H s) {h₁ : Heap} {m : Str → Option Value} (cellK : ∀ x c v, X.env.cells.lookup x = some c → s.heap.IsCell c v → h₁.IsCell c v) (i : Nat) (x : Str) (v : V) (h1 : N'[i]? = some x) (h2 : (capSt cap σ)[i]? = some (some v)) :
    ∃ u, RelV v u ∧ Look (compEnvC scope (closOf X.env scope.names []) s.heap.objs.size X.env) h₁ m x u := by
  have clsub : ∀ x c, (closOf X.env scope.names []).lookup x = some c → X.env.cells.lookup x = some c := fun x c h => closOf_sub _ _ (S.clos I.ok) (fun z => by simp at z) h
  have h2' : ((cap[i]?).map fun o => o.bind fun j => (σ[j]?).join) = some (some v) := by
    have := h2
    unfold capSt at this
    rw [List.getElem?_map] at this
    exact this
  cases ec : cap[i]? with
  | none => rw [ec] at h2'; cases h2'
  | some o =>
    cases o with
    | none => rw [ec] at h2'; cases h2'
    | some j =>
      rw [ec] at h2'
      obtain ⟨hN, hfree⟩ := S.cap i j x ec h1
      have h2'' : (σ[j]?).join = some v := Option.some.inj h2'
      have hv : σ[j]? = some (some v) := by
        cases ej : σ[j]? with
        | none => rw [ej] at h2''; cases h2''
        | some y =>
          cases y with
          | none => rw [ej] at h2''; cases h2''
          | some z =>
            rw [ej] at h2''
            have e : z = v := Option.some.inj h2''
            rw [e]
      have hkind := S.fr _ hfree rfl
      obtain ⟨m0, hn0, hl0⟩ := I.loc
      obtain ⟨u, r, l⟩ := hl0 j x v hN hv (.inr (.inl hkind))
      refine ⟨u, r, ?_⟩
      rcases l with ⟨hk, _⟩ | ⟨hk, c, hc, hcell⟩
      · have z : X.env.kindOf x = some .cell := hkind
        rw [hk] at z; cases z
      · obtain ⟨c', hc'⟩ := Option.isSome_iff_exists.mp (closOf_has (env := X.env) (x := x) scope.names [] (.inr hfree))
        have ecc : c' = c := by
          have := clsub x c' hc'
          rw [hc] at this
          exact (Option.some.inj this).symm
        subst ecc
        exact .inr ⟨.inl (relabel_free I.ok.kind hkind (S.frl _ hfree rfl)), c', hc', cellK x c' _ hc hcell⟩
/-- the block's entry -/
theorem CompOk.start (S : CompOk X scope N' cap) (I : Inv X pins σ H s) (hf : ∀ b ∈ fp, FpOk X pins H b) (hex : ∀ b ∈ fp, ∃ o, s.heap.get? b = some o) {h₁ : Heap} {tk : Nat} {m : Str → Option Value} (hns : h₁.Ns s.heap.objs.size m)
    (kp : ∀ b o, s.heap.get? b = some o → h₁.get? b = some o) : Inv (cxComp X scope N' fp pins s H) [] (capSt cap σ) H { s with heap := h₁, toks := tk } := by
  have clsub : ∀ x c, (closOf X.env scope.names []).lookup x = some c → X.env.cells.lookup x = some c := fun x c h => closOf_sub _ _ (S.clos I.ok) (fun z => by simp at z) h
  have cellK : ∀ {c : Addr} {v : Option Value}, s.heap.IsCell c v → h₁.IsCell c v := fun {c v} ⟨o, e, d⟩ => ⟨o, kp c o e, d⟩
  refine ⟨S.ok I hf hex, rfl, I.bare, Un.kept kp, ⟨m, hns, fun i x v h1 h2 h3 => S.look I (fun _ _ _ _ z => cellK z) i x v h1 h2⟩, fun x c h => ?_, I.hok.fresh (Nat.le_refl _), fun x c h => I.freeC x c (clsub x c h), fun p hp => ?_, I.hok.kept kp, ?_⟩
  · obtain ⟨v, z⟩ := I.cell x c (clsub x c h)
    exact ⟨v, cellK z⟩
  · have hp0 : p ∈ (X.pn ++ pins) ++ [] := hp
    have hp' : p ∈ X.pn ++ pins := by rw [List.append_nil] at hp0; exact hp0
    obtain ⟨e, n, ne, nf, d⟩ := I.pin p hp'
    refine ⟨kp _ _ e, n, Nat.ne_of_lt (Heap.lt_size e), fun z => ?_, d⟩
    rcases List.mem_cons.mp (I.stkSub p.1 z) with q | q
    · exact ne q
    · exact nf q
  · unfold capSt
    rw [List.length_map]
    exact S.len
/-- .. at a turn's head: the block's own names are forgotten, the captured ones stand -/
theorem CompOk.again (S : CompOk X scope N' cap) (I : Inv X pins σ H s) (hf : ∀ b ∈ fp, FpOk X pins H b) {σ8 : St} {H8 : Hp} {s8 : Shared} (I8 : Inv (cxComp X scope N' fp pins s H) [] σ8 H8 s8) : Inv (cxComp X scope N' fp pins s H) [] (capSt cap σ) H8 s8 := by
  obtain ⟨m, hn, _⟩ := I8.loc
  refine ⟨I8.ok, I8.os, I8.bare, I8.base, ⟨m, hn, fun i x v h1 h2 h3 => S.look I (fun y c u hc hu => ?_) i x v h1 h2⟩, I8.cell, I8.free, I8.freeC, I8.pin, I8.hok, ?_⟩
  · obtain ⟨o, e, d⟩ := hu
    obtain ⟨sl, q⟩ := I8.base.any e (I.freeC y c hc) fun hb => (hf c hb).2.2.2.2.1 y c hc rfl
    exact ⟨_, q, d⟩
  · unfold capSt
    rw [List.length_map]
    exact S.len

/-- behind the block: the def's state again -/
theorem CompOk.back {H2 H' : Hp} {s2 s3 s' : Shared} {σ' : St} {acc : Addr} {h'' : Heap} (S : CompOk X scope N' cap) (I2 : Inv X pins σ H2 s2) (hf : ∀ b ∈ fp, FpOk X pins H2 b) {o : HO}
    (e3 : s3.heap.objs.size = s2.heap.objs.size + 1) (k3 : ∀ b u, s2.heap.get? b = some u → s3.heap.get? b = some u) (ha : acc = s2.heap.objs.size) (o3 : s3.os = s2.os)
    (I' : Inv (cxComp X scope N' fp pins s3 (upd H2 acc o)) [] σ' H' s') (sb : Heap.SameBut s3.heap.objs.size s'.heap h'') : Inv X pins σ H' { s' with heap := h'' } := by
  have u1 : Un (frs X.stack) fp H2 (upd H2 acc o) s2.heap s3.heap := Un.laid k3 (by rw [ha]; exact Nat.le_refl _) (I2.hok.fresh (by rw [ha]; exact Nat.le_refl _))
  have u2 : Un (frs X.stack) fp H2 H' s2.heap s'.heap := u1.trans I'.base
  have old : ∀ b ob, s2.heap.get? b = some ob → b ≠ s3.heap.objs.size := fun b ob e => by
    have := Heap.lt_size e
    rw [e3]
    exact Nat.ne_of_lt (Nat.lt_succ_of_lt this)
  have hC : H' s3.heap.objs.size = none := I'.free
  have u3 : Un (frs X.stack) fp H2 H' s2.heap h'' :=
    ⟨fun b ob e n hb hx => (sb.2 b (old b ob e)).trans (u2.keep b ob e n hb hx), fun b ob e n hb hx => by
      obtain ⟨sl, q⟩ := u2.slot b ob e n hb hx
      exact ⟨sl, (sb.2 b (old b ob e)).trans q⟩, u2.free, fun b ob e hx => by
      obtain ⟨o', q⟩ := u2.there b ob e hx
      exact ⟨o', (sb.2 b (old b ob e)).trans q⟩, u2.tups, u2.frzs, u2.tbls⟩
  have hok : HOk X.prog X.w H' h'' := fun b ob e => (I'.hok b ob e).stay (fun c v hc q => (sb.2 c (by
    rintro rfl
    rcases hc with z | z
    · rw [← z, hC] at e; cases e
    · rw [hC] at z; cases z)).trans q) (fun _ q => q) fun _ _ q => q
  refine I2.call' (s' := { s' with heap := h'' }) (ch := fp) (I'.os.trans o3) u3 hok I'.bare fun b hb => ?_
  obtain ⟨_, f1, _, f3, f4, f5⟩ := hf b hb
  exact ⟨f3, f1, f4, f5⟩

/-! ### the rule -/
/-- the tests of a block: none, or one -/
def PTs (X : Cx) (ifs : List Expr) (t : TT) : Prop :=
  ∀ (pins : List (Addr × Obj)) (s : Shared) (σ : St) (H : Hp) (Q : Bool → Hp → Prop), Inv X pins σ H s → t σ H Q →
    wpAny (model X.prog X.w) X.A (forIn ifs true fun c r => if r = true then do let ok ← isTrue c X.env (eval c X.env); pure (ForInStep.yield ok) else pure (ForInStep.yield r)) (TP X pins σ Q) X.xe s
def tTrue : TT := fun _ H Q => Q true H
theorem pts_nil : PTs X [] tTrue := fun _ _ _ H _ I h => wpAny_tests_nil ⟨H, I, h⟩
/-- [elt for tg in iter if c]: W the invariant by the turn, a measure and the heap (the new list at acc) -/
def tComp (wi : TI) (cap : List (Option Nat)) (g : TG) (tc : TT) (te : TE) : TE := fun σ H Q => wi σ H fun J H1 => ∀ acc, H1 acc = none → ∃ W : Nat → Nat → Hp → Prop, (∃ m, W 0 m (upd H1 acc (.lst []))) ∧ ∀ i m H, W i m H →
  (J.stop i H ∧ Q (.ref acc) H) ∨ (J.go i H ∧ ∀ x H', J.yld i H x H' → g x (capSt cap σ) H' fun σ2 H2 => tc σ2 H2 fun b H3 => if b = true then te σ2 H3 fun y H4 => ∃ xs, H4 acc = some (.lst xs) ∧ xs.length < sizeLine ∧
    ∃ m', m' < m ∧ W (i + 1) m' (upd H4 acc (.lst (xs ++ [y]))) else ∃ m', m' < m ∧ W (i + 1) m' H3)

theorem comp_loop {elt target iter : PySem.Expr} {ifs : List PySem.Expr} {scope : Scope} {pos : Pos} {it acc : Value} {env : Env} {prog : Program} {w : World} {A : Around} {s : Shared} {R : Result → Shared → Prop} (I : Nat → Shared → Prop)
    (turn : ∀ n s, I n s → wpAny (model prog w) A (pyNext it) (fun r s₁ => match r with
      | none => R (.ok .next) s₁
      | some v => wpAny (model prog w) A (letOwnedTupleGo target it v) (fun _ s₀ => wpAny (model prog w) A (assign target env v) (fun _ s₂ =>
          wpAny (model prog w) A (forIn ifs true fun c r => if r = true then do let ok ← isTrue c env (eval c env); pure (ForInStep.yield ok) else pure (ForInStep.yield r)) (fun ok s₃ => if ok = true then wpAny (model prog w) A (eval elt env) (fun x s₄ =>
            wpAny (model prog w) A (call (.builtin "list.append") [acc, x]) (fun _ s₅ => ∃ m, m < n ∧ I m s₅) (fun _ _ => False) s₄) (fun _ _ => False) s₃
            else ∃ m, m < n ∧ I m s₃) (fun _ _ => False) s₂)
          (fun _ _ => False) s₀) (fun _ _ => False) s₁) (fun _ _ => False) s)
    (n : Nat) (h : I n s) : codeAny (model prog w) A (.compLoop (.ListComp elt [⟨target, iter, ifs, 0⟩] scope pos) 0 it acc env) R s := by
  refine codeAny_loop rfl I (fun n s hI => ?_) n h
  show wpAny _ A ((compTurn (.ListComp elt [⟨target, iter, ifs, 0⟩] scope pos) 0 it acc env).onRaise (fun x => do noteFrame x env; theTreesLotGoes x)) _ _ s
  refine wpAny_noted ?_
  rw [compTurn_list]
  refine wpAny_bind (wpAny_standAt (wpAny_bind (wpAny_mono (turn n s hI) (fun r s₁ h₁ => ?_) fun _ _ z => z.elim)))
  cases r with
  | none => exact wpAny_pure h₁
  | some v =>
    refine wpAny_bind (wpAny_mono h₁ (fun _ s₀ h₀' => ?_) fun _ _ z => z.elim)
    refine wpAny_bind (wpAny_mono h₀' (fun _ s₂ h₂ => ?_) fun _ _ z => z.elim)
    refine wpAny_bind (wpAny_mono h₂ (fun okb s₃ h₃ => ?_) fun _ _ z => z.elim)
    cases okb with
    | false => exact wpAny_pure ⟨rfl, h₃⟩
    | true => exact wpAny_bind (wpAny_bind (wpAny_mono h₃ (fun x s₄ h₄ => wpAny_bind (wpAny_mono h₄ (fun _ s₅ h₅ => wpAny_pure (wpAny_pure ⟨rfl, h₅⟩)) fun _ _ z => z.elim)) fun _ _ z => z.elim))

/-- the block from its entry on; RR: what is wanted behind it -/
theorem comp_block {elt tg iter : Expr} {ifs : List Expr} {pos : Pos} {g : TG} {tc : TT} {te : TE} {Q : VK} {s2 : Shared} {H2 : Hp} {it : Addr} {tn : Nat → Heap → Prop} {J : It} {E : Value → Shared → Prop} {RR : Value → Addr → Result → Shared → Prop}
    (S : CompOk X scope N' cap) (hc : X.calm = true) (hg : ∀ fp pins s H, PG (cxComp X scope N' fp pins s H) tg g) (hts : ∀ fp pins s H, PTs (cxComp X scope N' fp pins s H) ifs tc) (he : ∀ fp pins s H, PE (cxComp X scope N' fp pins s H) elt te)
    (I2 : Inv X pins σ H2 s2) (T : Turn X.prog X.w X.K tg J fp it tn) (st2 : tn 0 s2.heap) (f2 : ∀ b ∈ fp, FpOk X pins H2 b)
    (h : ∀ acc, H2 acc = none → ∃ W : Nat → Nat → Hp → Prop, (∃ m, W 0 m (upd H2 acc (.lst []))) ∧ ∀ i m H, W i m H →
      (J.stop i H ∧ Q (.ref acc) H) ∨ (J.go i H ∧ ∀ x H', J.yld i H x H' → g x (capSt cap σ) H' fun σ2 H2 => tc σ2 H2 fun b H3 => if b = true then te σ2 H3 fun y H4 => ∃ xs, H4 acc = some (.lst xs) ∧ xs.length < sizeLine ∧
        ∃ m', m' < m ∧ W (i + 1) m' (upd H4 acc (.lst (xs ++ [y]))) else ∃ m', m' < m ∧ W (i + 1) m' H3))
    (hRR : ∀ C s' H', (∃ m, s'.heap.Ns C m) → (∀ h'', Heap.SameBut C s'.heap h'' → Inv X pins σ H' { s' with heap := h'' }) → Q (.ref s2.heap.objs.size) H' → H' C = none → s2.heap.objs.size < C →
      RR (.ref s2.heap.objs.size) C (.ok .next) s') :
    wpAny (model X.prog X.w) X.A (newList []) (fun acc s₃ => wpAny (model X.prog X.w) X.A (newFunctionEnv scope X.env.globals (closOf X.env scope.names []) [] X.env.qual none .none (some X.env)) (fun cenv s₄ =>
      codeAny (model X.prog X.w) X.A (.compStart (.ListComp elt [⟨tg, iter, ifs, 0⟩] scope pos) 0 (.ref it) acc { cenv with scope := relabel scope X.env }) (RR acc cenv.locals) s₄) E s₃) E s2 := by
  refine wpAny_newObj_type (wpAny_newFunctionEnv S.nocell (by intro y hy; simp at hy) (fun h₁ hns₁ hsb₁ => ?_) S.kind)
  dsimp only at hns₁ hsb₁ ⊢
  have hfr : H2 s2.heap.objs.size = none := I2.hok.fresh (Nat.le_refl _)
  generalize hH3 : s2.heap.push { cls := .type "list", dict := none, data := .seq ([] : List Value).toArray } = h3 at hns₁ hsb₁ ⊢
  have e3 : h3.objs.size = s2.heap.objs.size + 1 := by rw [← hH3, Heap.size_push]
  have k3 : ∀ b u, s2.heap.get? b = some u → h3.get? b = some u := fun b u e => by rw [← hH3]; exact Heap.get?_push_of_some _ e
  -- the state with the new list
  have I3 : Inv X pins σ (upd H2 s2.heap.objs.size (.lst [])) { s2 with heap := h3, toks := s2.toks } := by
    refine I2.laid (t' := s2.toks) k3 (Nat.le_refl _) ?_
    exact ⟨Nat.zero_le _, [], 0, .nil, by rw [← hH3]; exact Heap.get?_push_size _ rfl⟩
  have f3 : ∀ b ∈ fp, FpOk X pins (upd H2 s2.heap.objs.size (.lst [])) b := fun b hb => by
    obtain ⟨o, e, _⟩ := T.obj _ _ st2 b hb
    exact ⟨by rw [upd_ne (Nat.ne_of_lt (Heap.lt_size e))]; exact (f2 b hb).1, (f2 b hb).2⟩
  have ex3 : ∀ b ∈ fp, ∃ o, h3.get? b = some o := fun b hb => by
    obtain ⟨o, e, _⟩ := T.obj _ _ st2 b hb
    exact ⟨o, k3 b o e⟩
  have kp : ∀ b o, h3.get? b = some o → h₁.get? b = some o := fun b o e => hsb₁.extBut b o (Nat.ne_of_lt (Heap.lt_size e)) (Heap.get?_push_of_some _ e)
  have I4 := S.start (fp := fp) (tk := s2.toks + ([] : List (Str × Value)).length) I3 f3 ex3 hns₁ kp
  have st4 : tn 0 h₁ := T.keep _ _ _ st2 fun b _ o e => kp b o (k3 b o e)
  obtain ⟨W, ⟨m0, w0⟩, turn⟩ := h s2.heap.objs.size hfr
  let X' := cxComp X scope N' fp pins { s2 with heap := h3, toks := s2.toks } (upd H2 s2.heap.objs.size (.lst []))
  have stat : ∀ {pins' : List (Addr × Obj)} {H' : Hp}, (∀ p ∈ pins', p.1 ∉ fp) → (∀ b ∈ fp, H' b = none) → ∀ b ∈ fp, FpOk X' pins' H' b := fun {pins' H'} hpn hn b hb => by
    obtain ⟨o, e⟩ := ex3 b hb
    refine ⟨hn b hb, Nat.ne_of_lt (Heap.lt_size e), fun z => ?_, .inl hb, fun x c hx => (f3 b hb).2.2.2.2.1 x c (closOf_sub _ _ (S.clos I2.ok) (fun z => by simp at z) hx), fun p hp => ?_⟩
    · rcases List.mem_cons.mp (I2.stkSub b z) with q | q
      · exact (f2 b hb).2.1 q
      · exact (f2 b hb).2.2.1 q
    · rcases List.mem_append.mp hp with q | q
      · exact (f2 b hb).2.2.2.2.2 p q
      · exact fun z => hpn p q (z ▸ hb)
  have loop : codeAny (model X.prog X.w) X.A (.compLoop (.ListComp elt [⟨tg, iter, ifs, 0⟩] scope pos) 0 (.ref it) (.ref s2.heap.objs.size) X'.env) (RR (.ref s2.heap.objs.size) h3.objs.size) { s2 with heap := h₁, toks := s2.toks + ([] : List (Str × Value)).length } := by
    refine comp_loop (fun n s' => ∃ i H', Inv X' [] (capSt cap σ) H' s' ∧ tn i s'.heap ∧ (∀ b ∈ fp, H' b = none) ∧ W i n H') ?_ m0 ⟨0, _, I4, st4, fun b hb => (f3 b hb).1, w0⟩
    rintro n s5 ⟨i, H5, I5, st5, fr5, w5⟩
    rcases turn i n H5 w5 with ⟨stop, qn⟩ | ⟨go, step⟩
    · refine wpAny_mono (T.done X' rfl rfl rfl hc i [] s5 (capSt cap σ) H5 (fun _ _ => False) I5 (stat (fun _ z => absurd z (by simp)) fr5) st5 stop) (fun r s6 ⟨hr, I6⟩ => ?_) fun _ _ z => z
      subst hr
      refine hRR _ s6 H5 ?_ (fun h'' sb => S.back I2 f2 (s3 := { s2 with heap := h3, toks := s2.toks }) e3 k3 rfl rfl I6 sb) qn I6.free (by rw [e3]; exact Nat.lt_succ_self _)
      obtain ⟨m, hn, _⟩ := I6.loc
      exact ⟨m, hn⟩
    · refine wpAny_mono (T.item X' rfl rfl rfl hc i [] s5 (capSt cap σ) H5 (fun _ _ => False) I5 (stat (fun _ z => absurd z (by simp)) fr5) st5 go) (fun r s6 ⟨u, hr, h6⟩ => ?_) fun _ _ z => z
      subst hr
      refine wpAny_mono h6 (fun _ s7 ⟨x, H7, I7, r7, y7, st7, fr7⟩ => ?_) fun _ _ z => z
      have I7' := I7.pinned (stat (fun _ z => absurd z (by simp)) fr7) (T.obj _ _ st7)
      have again : ∀ {σ8 : St} {H8 : Hp} {s8 : Shared}, Inv X' ([] ++ pinsAt fp s7.heap) σ8 H8 s8 → (∃ m', m' < n ∧ W (i + 1) m' H8) → ∃ m, m < n ∧ ∃ i H', Inv X' [] (capSt cap σ) H' s8 ∧ tn i s8.heap ∧ (∀ b ∈ fp, H' b = none) ∧ W i m H' := fun {σ8 H8 s8} I8 n8 => by
        obtain ⟨m', hm, w8⟩ := n8
        have pn : ∀ b ∈ fp, ∃ o, s7.heap.get? b = some o ∧ s8.heap.get? b = some o ∧ H8 b = none := fun b hb => by
          obtain ⟨o, e, d⟩ := T.obj _ _ st7 b hb
          have q := I8.pin (b, o) (List.mem_append_right _ (List.mem_append_right _ (mem_pinsAt hb e)))
          exact ⟨o, e, q.1, q.2.1⟩
        refine ⟨m', hm, i + 1, H8, S.again I3 f3 I8.unpinned, T.keep _ _ _ st7 fun b hb o e => ?_, fun b hb => ?_, w8⟩
        · obtain ⟨o', e', q, _⟩ := pn b hb
          rw [e] at e'; cases e'
          exact q
        · obtain ⟨_, _, _, q⟩ := pn b hb
          exact q
      refine wpAny_mono (hg fp pins _ _ _ s7 (capSt cap σ) H7 x u _ I7' r7 (step x H7 y7)) (fun _ s8 ⟨σ8, H8, I8, q8⟩ => ?_) fun _ _ z => z
      refine wpAny_mono (hts fp pins _ _ _ s8 σ8 H8 _ I8 q8) (fun b s9 ⟨H9, I9, q9⟩ => ?_) fun _ _ z => z
      cases b with
      | false => exact again I9 q9
      | true =>
        refine wpAny_mono (he fp pins _ _ _ s9 σ8 H9 _ I9 q9) (fun u s10 ⟨y, H10, I10, r10, xs, hx, hl, q10⟩ => ?_) fun _ _ z => z
        refine wpAny_mono (mt_append (X := X') _ s10 σ8 H10 (.ref s2.heap.objs.size) [y] (.ref s2.heap.objs.size) [u] (fun _ H' => ∃ m', m' < n ∧ W (i + 1) m' H') I10 rfl (.cons r10 .nil) ⟨_, xs, y, rfl, rfl, hx, hl, q10⟩) (fun _ s11 ⟨_, H11, I11, _, q11⟩ => again I11 q11) fun _ _ z => z
  exact codeAny_compStart_list loop (T.self _ 0 _ _ _ st4 loop)

/-- [..] as a value -/
theorem pe_comp {elt tg iter : Expr} {ifs : List Expr} {pos : Pos} {wi : TI} {g : TG} {tc : TT} {te : TE} (S : CompOk X scope N' cap) (hc : X.calm = true) (hi : PI X tg iter wi) (hg : ∀ fp pins s H, PG (cxComp X scope N' fp pins s H) tg g)
    (hts : ∀ fp pins s H, PTs (cxComp X scope N' fp pins s H) ifs tc) (he : ∀ fp pins s H, PE (cxComp X scope N' fp pins s H) elt te) (hs : ∀ x, foldedSetIterable iter X.env x = pure x := by intro _; rfl) :
    PE X (.ListComp elt [⟨tg, iter, ifs, 0⟩] scope pos) (tComp wi cap g tc te) := by
  intro pins s σ H Q I h
  rw [eval_ListComp]
  refine wpAny_comprehension_free (use := none) rfl hs (closureFor_ok (S.clos I.ok)) S.kind S.loc (thn (hi pins s σ H _ I h) fun v s1 h1 => thn h1 fun itv s2 h2 => ?_)
  obtain ⟨it, fp, tn, J, H2, e, I2, T, st2, f2, hW⟩ := h2
  subst e
  refine comp_block (RR := fun acc C => compPost (model X.prog X.w) X.A X.xe none (EP X pins σ Q) acc C) S hc hg hts he I2 T st2 f2 hW ?_
  intro C s' H' ⟨m, hn⟩ hI hq _ _
  exact ⟨m, hn, fun h'' sb => ⟨.ref s2.heap.objs.size, H', hI h'' sb, rfl, hq⟩⟩

/-- x = [..] -/
theorem ps_setcomp {elt tg iter : Expr} {ifs : List Expr} {pos : Pos} {wi : TI} {g : TG} {tc : TT} {te : TE} {i : Nat} {x : Str} {pos' spos : Pos} (hN : X.N.Nodup) (hix : X.N[i]? = some x) (hx : Loc X.env.scope x) (S : CompOk X scope N' cap) (hc : X.calm = true)
    (hi : PI X tg iter wi) (hg : ∀ fp pins s H, PG (cxComp X scope N' fp pins s H) tg g)
    (hts : ∀ fp pins s H, PTs (cxComp X scope N' fp pins s H) ifs tc) (he : ∀ fp pins s H, PE (cxComp X scope N' fp pins s H) elt te) (hs : ∀ x, foldedSetIterable iter X.env x = pure x := by intro _; rfl)
    (hsw : swapsWith (.ListComp elt [⟨tg, iter, ifs, 0⟩] scope pos) (some (.Name x pos')) spos.line X.env = pure true := by rfl) (hf : X.fn x = true ∨ X.env.scope.names.lookup x = some .local := by first | exact .inl rfl | exact .inr rfl | assumption) :
    PS X (.Assign [.Name x pos'] (.ListComp elt [⟨tg, iter, ifs, 0⟩] scope pos) spos) (tAsg (tComp wi cap g tc te) (gName i)) := by
  intro pins s σ H D I h
  rw [exec_Assign_Name_used _ _ _ _ hsw]
  refine wpAny_bind (wpAny_standAt (wpAny_bind ?_))
  show wpAny _ X.A (do let _ ← comprehension (.ListComp elt [⟨tg, iter, ifs, 0⟩] scope pos) scope X.env _ (newList []) false (eval iter X.env) (some (assign (.Name x pos') X.env))) _ _ s
  refine wpAny_bind (wpAny_mono (wpAny_comprehension_free (use := some (assign (.Name x pos') X.env)) (Q := fun _ s' => SP X pins D .next s') rfl hs (closureFor_ok (S.clos I.ok)) S.kind S.loc
    (thn (hi pins s σ H _ I h) fun v s1 h1 => thn h1 fun itv s2 h2 => ?_)) (fun _ s' hq => wpAny_pure (wpAny_pure hq)) fun _ _ e => e)
  obtain ⟨it, fp, tn, J, H2, e, I2, T, st2, f2, hW⟩ := h2
  subst e
  refine comp_block (RR := fun acc C => compPost (model X.prog X.w) X.A X.xe (some (assign (.Name x pos') X.env)) (fun _ s' => SP X pins D .next s') acc C) (Q := fun x H1 => gName i x σ H1 D.nx) S hc hg hts he I2 T st2 f2 hW ?_
  intro C s' H' ⟨m, hn⟩ hI hq hC hlt
  have I' : Inv X pins σ H' s' := hI s'.heap (.refl ..)
  show wpAny _ _ (assign (.Name x pos') X.env (.ref s2.heap.objs.size)) _ _ s'
  refine wpAny_assign_Name (store_ok2 (v := .ref s2.heap.objs.size) I' hN hix hx rfl (fun s6 I6 ⟨a, sb, ha⟩ => ?_) hf)
  have lC : ∀ b, b < s2.heap.objs.size → b ≠ C := fun b hb => Nat.ne_of_lt (Nat.lt_trans hb hlt)
  have haC : a ≠ C := by
    rcases ha with z | z
    · rw [z]; exact lC _ I2.lt
    · obtain ⟨_, q⟩ := I2.cell x a z
      exact lC _ q.lt
  refine ⟨m, hn.sameBut sb (Ne.symm haC), fun h' sb' => ⟨_, H', I6.turned (t' := s6.toks) (fun b o hb e => (sb'.2 b hb).trans e) hC (Ne.symm (lC _ I2.lt)) (.inr (Nat.le_trans I2.sz (Nat.le_of_lt hlt))) (fun y c hc' => ?_) (fun p hp => ?_), hq⟩⟩
  · obtain ⟨_, q⟩ := I2.cell y c hc'
    exact lC _ q.lt
  · exact lC _ (Heap.lt_size (I2.pin p hp).1)
end

/-! ### enumerate of a list -/
end L2

set_option Elab.async false
set_option linter.all false
set_option maxRecDepth 100000
/-! EXTENSION 2: data in the heap; ==, != of data; isinstance, min, set, len of a set -/
namespace L2
open PySem PySem.Spec PyProof.Rows

theorem Same.seqT {K : PySem.W.Frag} {H H' : Hp} {a : Addr} {xs : List V} (e : Same H H') (h : SqT K H a xs) : SqT K H' a xs := by
  rcases h with (h | ⟨o, h⟩) | h
  · exact .inl (.inl (e _ _ h))
  · exact .inl (.inr ⟨o, e _ _ h⟩)
  · exact .inr h
theorem Same.new {H : Hp} {p : Addr} {o : HO} (h : H p = none) : Same H (upd H p o) := fun b u e => by rw [upd_ne (ne_of_none e h)]; exact e
theorem Same.out {H0 H : Hp} {p : Addr} {o : HO} (s : Same H0 H) (h : H0 p = none) : Same H0 (upd H p o) := fun b u e => by rw [upd_ne (ne_of_none e h)]; exact s b u e

/-! ### data -/
mutual
def Rep (K : PySem.W.Frag) (H : Hp) : PyData → V → Prop
  | .none, v => v = .non
  | .bool b, v => v = .bl b
  | .int i, v => v = .int i
  | .str x, v => v = .str x
  | .list ds, v => ∃ a vs, v = .ref a ∧ SqL K H a vs ∧ RepAll K H ds vs
  | .tuple ds, v => ∃ a vs, v = .ref a ∧ SqT K H a vs ∧ RepAll K H ds vs
  | .dict _, _ => False
def RepAll (K : PySem.W.Frag) (H : Hp) : List PyData → List V → Prop
  | [], vs => vs = []
  | d :: ds, vs => ∃ v r, vs = v :: r ∧ Rep K H d v ∧ RepAll K H ds r
end
section
variable {K : PySem.W.Frag} {H H' : Hp}
theorem repAll_ints : ∀ ns : List Int, RepAll K H (ns.map PyData.int) (ns.map V.int)
  | [] => rfl
  | n :: ns => ⟨.int n, _, rfl, rfl, repAll_ints ns⟩
theorem Rep.intsT {ns : List Int} {a : Addr} (h : SqT K H a (ns.map V.int)) : Rep K H (.tuple (ns.map .int)) (.ref a) := ⟨a, _, rfl, h, repAll_ints ns⟩
end

/-! ### read by the machine's own relation -/
section
variable {X : Cx} {pins : List (Addr × Obj)} {σ : St} {H : Hp} {s : Shared}
mutual
theorem Rep.reads (I : Inv X pins σ H s) : ∀ {d : PyData} {v : V} {u : Value}, Rep X.K H d v → RelV v u → ∃ as, Reads s.heap u d as
  | .none, _, _, h, r => by cases h; cases r; exact ⟨_, .none⟩
  | .bool b, _, _, h, r => by cases h; cases r; exact ⟨_, .bool b⟩
  | .int i, _, _, h, r => by cases h; obtain ⟨t, rfl⟩ := r; exact ⟨_, .int i t⟩
  | .str x, _, _, h, r => by cases h; obtain ⟨t, rfl⟩ := r; exact ⟨_, .str x t⟩
  | .list ds, _, _, ⟨a, vs, e, q, t⟩, r => by
    subst e
    cases r
    obtain ⟨its, rv, ⟨o, n, e1, e2, e3, e4⟩, _⟩ := I.list q
    obtain ⟨as, ra⟩ := RepAll.reads I t rv
    exact ⟨_, .list e1 e2 e4 (by simpa using ra)⟩
  | .tuple ds, _, _, ⟨a, vs, e, q, t⟩, r => by
    subst e
    cases r
    obtain ⟨its, rv, ⟨o, e1, e2, n, e4⟩, _⟩ := I.tuple q
    obtain ⟨as, ra⟩ := RepAll.reads I t rv
    exact ⟨_, .tuple e1 e2 e4 (by simpa using ra)⟩
  | .dict _, _, _, h, _ => h.elim
theorem RepAll.reads (I : Inv X pins σ H s) : ∀ {ds : List PyData} {vs : List V} {us : List Value}, RepAll X.K H ds vs → Vals vs us → ∃ as, ReadsAll s.heap us ds as
  | [], _, _, h, r => by cases h; cases r; exact ⟨_, .nil⟩
  | _ :: _, _, _, ⟨v, w', e, q, t⟩, r => by
    subst e
    cases r with
    | cons r1 r2 =>
      obtain ⟨as, h1⟩ := q.reads I r1
      obtain ⟨bs, h2⟩ := RepAll.reads I t r2
      exact ⟨_, .cons h1 h2⟩
end
end

/-! ### ==, != of data -/
section
variable {X : Cx}
def rEqD (K : PySem.W.Frag) (u : Nat) : R2 := fun x y H Q => ∃ da db, Rep K H da x ∧ Rep K H db y ∧ da.canLay0 = true ∧ db.canLay0 = true ∧ u + min da.depth db.depth < cLine ∧ Q (.bl (PyData.eqv da db)) H
def rNeD (K : PySem.W.Frag) (u : Nat) : R2 := fun x y H Q => ∃ da db, Rep K H da x ∧ Rep K H db y ∧ da.canLay0 = true ∧ db.canLay0 = true ∧ u + min da.depth db.depth < cLine ∧ Q (.bl (!PyData.eqv da db)) H
theorem op_eqD : OpR X (compareOp .Eq) (rEqD X.K X.A.units) := by
  intro pins s σ H x y v u Q I rx ry ⟨da, db, ha, hb, ca, cb, hu, q⟩
  obtain ⟨as, ra⟩ := ha.reads I rx
  obtain ⟨bs, rb⟩ := hb.reads I ry
  exact SeqAt.compareEq_reads ra rb ca cb hu ⟨.bl _, H, I, rfl, q⟩
theorem op_neD : OpR X (compareOp .NotEq) (rNeD X.K X.A.units) := by
  intro pins s σ H x y v u Q I rx ry ⟨da, db, ha, hb, ca, cb, hu, q⟩
  obtain ⟨as, ra⟩ := ha.reads I rx
  obtain ⟨bs, rb⟩ := hb.reads I ry
  exact SeqAt.compareNe_reads ra rb ca cb hu ⟨.bl _, H, I, rfl, q⟩

/-! ### isinstance with one built-in class -/
/-! ### set(list of ints), len of it -/
/-! ### min, max of a list of ints -/
end
end L2

set_option Elab.async false
set_option linter.all false
set_option maxRecDepth 100000
/-! EXTENSION 3: blocks by a check; a block by an invariant; hidden lists -/
namespace L2
open PySem PySem.Spec PyProof.Rows

/-! ### a block's text, by a check -/
def compChk (scope dsc : Scope) (N0 N2 : List Str) (cap : List (Option Nat)) : Bool :=
  (scope.kind == .function) && (scope.names.all fun y => y.2 != .cell) && (scope.names.all fun y => y.2 != .local || scope.names.lookup y.1 == some .local) &&
  (scope.names.all fun y => y.2 != .free || dsc.names.lookup y.1 == some .cell) && (scope.names.all fun y => y.2 != .free || scope.names.lookup y.1 == some .free) && decide N2.Nodup && (cap.length == N2.length) &&
  ((List.range cap.length).all fun i => match cap[i]?, N2[i]? with
    | some (some j), some x => N0[j]? == some x && scope.names.any (fun y => y.1 == x && y.2 == .free)
    | _, _ => true)
theorem compOk_of {X : Cx} {scope dsc : Scope} {N0 N2 : List Str} {cap : List (Option Nat)} (hd : X.env.scope = dsc) (hN : X.N = N0) (h : compChk scope dsc N0 N2 cap = true) : CompOk X scope N2 cap := by
  unfold compChk at h
  simp only [Bool.and_eq_true] at h
  obtain ⟨⟨⟨⟨⟨⟨⟨h1, h2⟩, h3⟩, h4⟩, h5⟩, h6⟩, h7⟩, h8⟩ := h
  rw [List.all_eq_true] at h2 h3 h4 h5 h8
  refine ⟨by simpa using h1, fun y hy e => ?_, fun y hy e => ?_, fun y hy e => ?_, fun y hy e => ?_, of_decide_eq_true h6, by simpa using h7, fun i j x e1 e2 => ?_⟩
  · have := h2 y hy; rw [e] at this; exact absurd this (by decide)
  · have := h3 y hy; rw [e] at this; simpa using this
  · have := h4 y hy
    rw [e] at this
    show X.env.scope.names.lookup y.1 = some .cell
    rw [hd]
    simpa using this
  · have := h5 y hy; rw [e] at this; simpa using this
  · have hi : i < cap.length := (List.getElem?_eq_some_iff.mp e1).1
    have q := h8 i (List.mem_range.mpr hi)
    rw [e1, e2] at q
    simp only [Bool.and_eq_true] at q
    refine ⟨by rw [hN]; simpa using q.1, ?_⟩
    obtain ⟨y, hy, z⟩ := List.any_eq_true.mp q.2
    simp only [Bool.and_eq_true] at z
    have e3 : y.1 = x := by simpa using z.1
    have e4 : y.2 = .free := by simpa using z.2
    rw [← e3, ← e4]
    exact hy

/-! ### a block by an invariant: P turn, items, heap; the heap keeps what it had ahead (H1), the new list is at acc -/
def CW (H1 : Hp) (acc : Addr) (n : Nat) (P : Nat → List V → Hp → Prop) : Nat → Nat → Hp → Prop :=
  fun i m H => m = n - i ∧ i ≤ n ∧ Same H1 H ∧ ∃ ys, H acc = some (.lst ys) ∧ P i ys H
theorem comp_by {J : It} {n : Nat} {cap : List (Option Nat)} {g : TG} {tc : TT} {te : TE} {σ : St} {Qr : Hp → Prop} {H1 : Hp} {acc : Addr} (P : Nat → List V → Hp → Prop) (hacc : H1 acc = none)
    (go : ∀ i H, i < n → Same H1 H → J.go i H) (stop : ∀ H, Same H1 H → J.stop n H) (h0 : P 0 [] (upd H1 acc (.lst [])))
    (step : ∀ i ys H, i < n → Same H1 H → H acc = some (.lst ys) → P i ys H → ∀ x H', J.yld i H x H' → g x (capSt cap σ) H' fun σ2 H2 => tc σ2 H2 fun b H3 => if b = true then te σ2 H3 fun y H4 => ∃ xs, H4 acc = some (.lst xs) ∧ xs.length < sizeLine ∧
      ∃ m', m' < n - i ∧ CW H1 acc n P (i + 1) m' (upd H4 acc (.lst (xs ++ [y]))) else ∃ m', m' < n - i ∧ CW H1 acc n P (i + 1) m' H3)
    (fin : ∀ ys H, Same H1 H → H acc = some (.lst ys) → P n ys H → Qr H) :
    ∃ W : Nat → Nat → Hp → Prop, (∃ m, W 0 m (upd H1 acc (.lst []))) ∧ ∀ i m H, W i m H →
      (J.stop i H ∧ Qr H) ∨ (J.go i H ∧ ∀ x H', J.yld i H x H' → g x (capSt cap σ) H' fun σ2 H2 => tc σ2 H2 fun b H3 => if b = true then te σ2 H3 fun y H4 => ∃ xs, H4 acc = some (.lst xs) ∧ xs.length < sizeLine ∧
        ∃ m', m' < m ∧ W (i + 1) m' (upd H4 acc (.lst (xs ++ [y]))) else ∃ m', m' < m ∧ W (i + 1) m' H3) := by
  refine ⟨CW H1 acc n P, ⟨n, rfl, Nat.zero_le _, Same.new hacc, [], upd_same, h0⟩, ?_⟩
  rintro i m H ⟨rfl, hi, s, ys, hy, p⟩
  by_cases hlt : i < n
  · exact .inr ⟨go i H hlt s, step i ys H hlt s hy p⟩
  · have e : i = n := by omega
    subst e
    exact .inl ⟨stop H s, fin ys H s hy p⟩
/-- a turn's end with one item more -/
theorem comp_add {H1 H4 : Hp} {acc : Addr} {n i : Nat} {P : Nat → List V → Hp → Prop} {ys : List V} {y : V} (hacc : H1 acc = none) (hi : i < n) (s : Same H1 H4) (hy : H4 acc = some (.lst ys)) (hl : ys.length < sizeLine) (p : P (i + 1) (ys ++ [y]) (upd H4 acc (.lst (ys ++ [y])))) :
    ∃ xs, H4 acc = some (.lst xs) ∧ xs.length < sizeLine ∧ ∃ m', m' < n - i ∧ CW H1 acc n P (i + 1) m' (upd H4 acc (.lst (xs ++ [y]))) :=
  ⟨ys, hy, hl, n - (i + 1), by omega, rfl, hi, s.out hacc, _, upd_same, p⟩
/-- .. with none -/
theorem comp_skip {H1 H3 : Hp} {acc : Addr} {n i : Nat} {P : Nat → List V → Hp → Prop} {ys : List V} (hi : i < n) (s : Same H1 H3) (hy : H3 acc = some (.lst ys)) (p : P (i + 1) ys H3) : ∃ m', m' < n - i ∧ CW H1 acc n P (i + 1) m' H3 :=
  ⟨n - (i + 1), by omega, rfl, hi, s, _, hy, p⟩
theorem itl_go {K : PySem.W.Frag} {a : Addr} {xs : List V} {H1 : Hp} (h : SqL K H1 a xs) : ∀ i H, i < xs.length → Same H1 H → (Itl K a).go i H := fun i H hi s => ⟨xs, xs[i], s.seq h, by simp [hi]⟩
theorem itl_stop {K : PySem.W.Frag} {a : Addr} {xs : List V} {H1 : Hp} (h : SqL K H1 a xs) : ∀ H, Same H1 H → (Itl K a).stop xs.length H := fun H s => ⟨xs, s.seq h, Nat.le_refl _⟩
theorem itr_go {lo : Int} {n : Nat} {H1 : Hp} : ∀ i H, i < n → Same H1 H → (Itr lo n).go i H := fun i H hi s => hi
theorem itr_stop {lo : Int} {n : Nat} {H1 : Hp} : ∀ H, Same H1 H → (Itr lo n).stop n H := fun H s => Nat.le_refl n

/-! ### all but one list -/
/-! ### items of data by their place -/
theorem atI_ge {α : Type} {xs : List α} {i : Int} {v : α} (h0 : 0 ≤ i) (h : xs[i.toNat]? = some v) : atI xs i = some v := by
  obtain ⟨k, rfl⟩ := Int.eq_ofNat_of_zero_le h0
  exact atI_nat (by simpa using h)
theorem atI_ints {ns : List Int} {i : Int} (h0 : 0 ≤ i) (h : i < ns.length) : atI (ns.map V.int) i = some (.int (ns.getD i.toNat 0)) := by
  have hk : i.toNat < ns.length := by omega
  refine atI_ge h0 ?_
  rw [List.getElem?_map, List.getD_eq_getElem?_getD, List.getElem?_eq_getElem hk]
  rfl

/-! ### rules with the written part named (within a block the reading must not name the block's state) -/
section
variable {X : Cx}
theorem op_in_seqK (K : PySem.W.Frag) (h : X.K = K) : OpR X (compareOp .In) (rIn K false) := by subst h; exact op_in_seq
/-! ### argument lists by a cheap check -/
def nostar : Expr → Bool
  | .Starred _ _ => false
  | _ => true
theorem starEach_ns {e : Expr} {es : List Expr} {env : Env} (h : nostar e = true) : starEach (e :: es) env = (false, eval e env) :: starEach es env := by
  cases e <;> first | rfl | (exact Bool.noConfusion h) | simp [starEach]
theorem pa_c {e : Expr} {es : List Expr} {te : TE} {t : TA} (ha : PE X e te) (hr : PA X es t) (hs : nostar e = true := by rfl) : PA X (e :: es) (tCons te t) := pa_cons ha hr (starEach_ns hs)

/-! ### written data -/
end
end L2

set_option Elab.async false
set_option linter.all false
set_option maxRecDepth 100000
/-! EXTENSION 4: dicts: setdefault, a walk over the keys; all of a list of truths -/
namespace L2
open PySem PySem.Spec PyProof.Rows


/-! ### for k in d -/
/-! ### all([..]) -/
section
variable {X : Cx}
theorem bls_get {bs : List Bool} {us : List Value} (r : Vals (bs.map V.bl) us) {i : Nat} {v : Value} (h : us[i]? = some v) : v = .bool (bs.getD i true) := by
  have hl := r.length
  rw [List.length_map] at hl
  have hi : i < us.length := (List.getElem?_eq_some_iff.mp h).1
  have e : (bs.map V.bl)[i]? = some (.bl (bs.getD i true)) := by
    rw [List.getElem?_map, List.getElem?_eq_getElem (by omega), List.getD_eq_getElem?_getD, List.getElem?_eq_getElem (by omega)]; rfl
  obtain ⟨u, hu, ru⟩ := r.get e
  rw [h] at hu
  cases hu
  exact ru
theorem range_all (bs : List Bool) : ((List.range bs.length).all fun i => bs.getD i true) = bs.all id := by
  rw [Bool.eq_iff_iff, List.all_eq_true, List.all_eq_true]
  constructor
  · intro h x hx
    obtain ⟨i, hi, e⟩ := List.getElem_of_mem hx
    have := h i (List.mem_range.mpr hi)
    rw [List.getD_eq_getElem?_getD, List.getElem?_eq_getElem hi, e] at this
    exact this
  · intro h i hi
    have hi := List.mem_range.mp hi
    have := h bs[i] (List.getElem_mem hi)
    rw [List.getD_eq_getElem?_getD, List.getElem?_eq_getElem hi]
    exact this
theorem call_all (hc : X.calm = true) : CallR X (.builtin "all") (fun xs H Q => ∃ (a : Addr) (bs : List Bool), xs = [.ref a] ∧ SqL X.K H a (bs.map V.bl) ∧ Q (.bl (bs.all id)) H) := by
  intro pins s σ H xs us Q I r ⟨a, bs, e, hq, q⟩
  subst e
  obtain ⟨u, e, ru⟩ := Vals.one r
  subst e
  cases ru
  obtain ⟨its, rv, p, hz⟩ := I.list hq
  have hl := rv.length
  rw [List.length_map] at hl
  refine call_all_walk (wpAny_pyIter_list p.isList ?_)
  have hlt : a < s.heap.objs.size := by obtain ⟨o, n, e, _⟩ := p; exact Heap.lt_size e
  refine ⟨s.heap.objs.size, _, _, _, _, _, fun i => bs.getD i true, rfl, Walks.list (A := X.A.in1) (show X.A.in1.handled = none from I.ok.hd hc) _ a (Nat.ne_of_lt hlt) its.toArray, ⟨⟨_, Heap.get?_push_size _ rfl, rfl, rfl⟩, p.isList.at fun o e => Heap.get?_push_of_some _ e⟩, ?_, fun h' tk hk => ?_⟩
  · intro i v s Q E hP hQ
    have e := bls_get rv (show its[i]? = some v by simpa using hP)
    subst e
    exact wpAny_truthy_bool hQ
  · have e : (List.range its.toArray.size).all (fun i => bs.getD i true) = bs.all id := by
      rw [show its.toArray.size = bs.length by simp [hl]]
      exact range_all bs
    rw [e]
    exact ⟨.bl _, H, I.kept (t' := tk) fun b o e => hk b o (by
      intro z
      have : b = s.heap.objs.size := by simpa using z
      exact absurd (Heap.lt_size e) (by rw [this]; exact Nat.lt_irrefl _)) (Heap.get?_push_of_some _ e), rfl, q⟩
end
end L2

set_option Elab.async false
set_option linter.all false
/-! pairs of houses: what leads where (plain mathematics) -/
namespace Gr
/-! ### the neighbours of a house, by the pairs' numbers -/
/-! ### lists without a double -/
/-! ### the houses come to from one, each with its step back -/
/-! ### a way -/
/-! ### the parts -/
end Gr

set_option Elab.async false
set_option linter.all false
set_option maxRecDepth 100000
/-! lists of pairs, a dict of lists of pairs, a dict of steps back, in the heap -/
namespace L2
open PySem Gr


/-! ### tuples of two numbers -/
/-! ### for each house the list of its pairs -/

/-! ### the steps back -/
end L2

set_option Elab.async false
set_option linter.all false
set_option maxRecDepth 100000
/-! EXTENSION 5: range objects, list(range(n)) -/
namespace L2
open PySem PySem.Spec PyProof.Rows
end L2

set_option Elab.async false
set_option linter.all false
/-! rounds, marks (plain mathematics) -/
namespace Gr
/-! ### marks -/
end Gr

set_option Elab.async false
set_option linter.all false
namespace Gr
end Gr

set_option Elab.async false
set_option linter.all false
set_option maxRecDepth 100000
/-! EXTENSION 6: an exception on its way: what its notes change -/
namespace L2
open PySem PySem.Spec PyProof.Rows

/-- an exception at e, its newest entry at T with the mark fl -/
def Fly (h : Heap) (e T : Addr) (cls fl : Value) : Prop :=
  ∃ oe vs oT ts, h.get? e = some oe ∧ oe.cls = cls ∧ oe.dict = none ∧ oe.data = .fields vs ∧ vs[1]? = some (.ref T) ∧ T ≠ e ∧ h.get? T = some oT ∧ oT.data = .fields ts ∧ ts[3]? = some fl
/-- of the frames at F the slots may have changed, the records at R may have turned, all else stands -/
structure Trn (F R : List Addr) (h h' : Heap) : Prop where
  keep : ∀ b o, b ∉ F → b ∉ R → h.get? b = some o → h'.get? b = some o
  slot : ∀ b o, b ∈ F → b ∉ R → h.get? b = some o → ∃ sl, h'.get? b = some { o with slots := sl }
theorem Trn.mono {F R R' : List Addr} {h h' : Heap} (t : Trn F R h h') (hs : ∀ b ∈ R, b ∈ R') : Trn F R' h h' :=
  ⟨fun b o h1 h2 e => t.keep b o h1 (fun z => h2 (hs b z)) e, fun b o h1 h2 e => t.slot b o h1 (fun z => h2 (hs b z)) e⟩
theorem Trn.trans {F R : List Addr} {h h1 h2 : Heap} (a : Trn F R h h1) (b : Trn F R h1 h2) : Trn F R h h2 :=
  ⟨fun c o q1 q2 e => b.keep c o q1 q2 (a.keep c o q1 q2 e), fun c o q1 q2 e => by
    obtain ⟨sl, e1⟩ := a.slot c o q1 q2 e
    obtain ⟨sl2, e2⟩ := b.slot c _ q1 q2 e1
    exact ⟨sl2, e2⟩⟩
theorem Trn.upd1 {F : List Addr} {h : Heap} {a : Addr} {g : Obj → Obj} : Trn F [a] h (h.update a g) :=
  ⟨fun b o _ h2 e => (Heap.get?_update_other _ _ (fun z => h2 (by simp [z]))).trans e, fun b o _ h2 e => ⟨o.slots, (Heap.get?_update_other _ _ (fun z => h2 (by simp [z]))).trans e⟩⟩

theorem dict_mapF {f : Array Value → Array Value} {o : Obj} : (Obj.mapFields f o).dict = o.dict := by
  obtain ⟨c, d, da, sl⟩ := o
  cases da <;> rfl
section
variable {M : Model} {A : Around} {E : Value → Shared → Prop} {s : Shared} {base : Heap} {env : Env} {outer : List Env} {L e : Addr}
theorem frames_not (hl : s.heap.FunFrames base (env :: outer)) {oe : Obj} {vs : Array Value} (he : s.heap.get? e = some oe) (hd : oe.data = .fields vs) : e ∉ frs (env :: outer) := fun hm => by
  obtain ⟨_, o, ho, hnf⟩ := hl.mem hm
  rw [he] at ho
  cases ho
  exact hnf vs hd
/-- the new entry -/
theorem entry_new {oe : Obj} {vs : Array Value} {head : Value} {b1 : Bool} {Q : Unit → Shared → Prop} (hfr : A.frames = some (env :: outer)) (hl : s.heap.FunFrames base (env :: outer)) (hf : env.frame = some L)
    (he : s.heap.get? e = some oe) (hdc : oe.dict = none) (hd : oe.data = .fields vs) (hsz : 1 < vs.size)
    (h : ∀ h', Fly h' e s.heap.objs.size oe.cls (rawInt L) → Trn (frs (env :: outer)) [e] s.heap h' → Q () { s with heap := h' }) :
    wpAny M A (do let fv ← frameOf env; let pl ← entryPlaceOf L b1; let tb ← EntryCells.newEntry head fv .none (rawInt L) .none pl; setField (.ref e) 1 tb) Q E s := by
  have hne := frames_not hl he hd
  refine wpAny_bind (wpAny_frameOf_fun hfr hl hf fun g1 so => ?_)
  obtain ⟨so1, so2, so3⟩ := so
  refine wpAny_bind (wpAny_entryPlaceOf fun pl okp => ?_)
  unfold EntryCells.newEntry newFields
  refine wpAny_bind (wpAny_newObj_type ?_ (okp.sizeOk5 _ _ _ _ _))
  have q1 : g1.get? e = some oe := (so2 e hne).trans he
  have nTe : g1.objs.size ≠ e := Nat.ne_of_gt (Heap.lt_size q1)
  refine wpAny_setField (Heap.get?_push_of_some _ q1) hd hsz (h _ ?_ ?_)
  · have hd' := Obj.data_mapFields hd (·.setIfInBounds 1 (Value.ref g1.objs.size))
    have qT := (Heap.get?_update_other _ (Obj.mapFields (·.setIfInBounds 1 (Value.ref g1.objs.size))) (Ne.symm nTe)).trans (Heap.get?_push_size g1 (o := { cls := .type "traceback", dict := none, data := .fields ([head, .ref L, .none, rawInt L, .none] ++ (if pl.isEmpty then List.replicate 6 Value.none else pl)).toArray }) rfl)
    rw [← so1]
    refine ⟨_, _, _, _, Heap.get?_update_self _ (Heap.get?_push_of_some _ q1) (Obj.isFreed_of_fields hd'), Obj.cls_mapFields _ _, ?_, hd', ?_, nTe, qT, rfl, ?_⟩
    · rw [dict_mapF]
      exact hdc
    · simp [hsz]
    · rcases okp with rfl | ⟨_, _, _, _, _, _, _, rfl⟩ <;> simp
  · refine ⟨fun b o h1 h2 eb => ?_, fun b o h1 h2 eb => ?_⟩
    · rw [Heap.get?_update_other _ _ (fun z => h2 (by simp [z]))]
      exact Heap.get?_push_of_some _ ((so2 b h1).trans eb)
    · obtain ⟨sl, q⟩ := so3 b o eb
      refine ⟨sl, ?_⟩
      rw [Heap.get?_update_other _ _ (fun z => h2 (by simp [z]))]
      exact Heap.get?_push_of_some _ q
/-- a note of an exception that was just made -/
theorem note_first {oe : Obj} {vs : Array Value} {Q : Unit → Shared → Prop} (hfr : A.frames = some (env :: outer)) (hl : s.heap.FunFrames base (env :: outer)) (hf : env.frame = some L)
    (he : s.heap.get? e = some oe) (hdc : oe.dict = none) (hd : oe.data = .fields vs) (h1 : vs[1]? = some .none)
    (h : ∀ h', Fly h' e s.heap.objs.size oe.cls (rawInt L) → Trn (frs (env :: outer)) [e] s.heap h' → Q () { s with heap := h' }) : wpAny M A (noteFrame (.ref e) env) Q E s := by
  unfold noteFrame
  simp only [hf]
  refine wpAny_bind (wpAny_field he hd h1 ?_)
  rw [if_neg (by decide)]
  exact entry_new hfr hl hf he hdc hd (Array.getElem?_eq_some_iff.mp h1).1 h
/-- .. of one that came from a callee -/
theorem note_next {T : Addr} {cls : Value} {Q : Unit → Shared → Prop} (hfr : A.frames = some (env :: outer)) (hl : s.heap.FunFrames base (env :: outer)) (hf : env.frame = some L) (fl : Fly s.heap e T cls .none)
    (h : ∀ h', Fly h' e s.heap.objs.size cls (rawInt L) → Trn (frs (env :: outer)) [e, T] s.heap h' → Q () { s with heap := h' }) : wpAny M A (noteFrame (.ref e) env) Q E s := by
  obtain ⟨oe, vs, oT, ts, he, hc, hdc, hd, h1, nT, hT, hdT, h3⟩ := fl
  subst hc
  unfold noteFrame
  simp only [hf]
  refine wpAny_bind (wpAny_field he hd h1 ?_)
  rw [if_pos (by simp)]
  refine wpAny_bind (wpAny_field hT hdT h3 ?_)
  rw [if_neg (by simp [rawInt])]
  refine wpAny_bind (wpAny_setField hT hdT (Array.getElem?_eq_some_iff.mp h3).1 ?_)
  have nTf := frames_not (e := T) hl hT hdT
  have hsz : (s.heap.update T (Obj.mapFields (·.setIfInBounds 3 Value.none))).objs.size = s.heap.objs.size := Heap.size_after_update ..
  have other : ∀ b, b ≠ T → (s.heap.update T (Obj.mapFields (·.setIfInBounds 3 Value.none))).get? b = s.heap.get? b := fun b hb => Heap.get?_update_other _ _ (Ne.symm hb)
  refine entry_new (s := { s with heap := s.heap.update T (Obj.mapFields (·.setIfInBounds 3 Value.none)) }) (base := base) hfr (hl.of_keeps fun b o hb hnf => ⟨o, (other b fun z => ?_).trans hb, rfl⟩) hf ((other e (Ne.symm nT)).trans he) hdc hd (Array.getElem?_eq_some_iff.mp h1).1 fun h' f' t' => ?_
  · rw [z, hT] at hb
    cases hb
    exact hnf ts hdT
  · have f2 : Fly h' e s.heap.objs.size oe.cls (rawInt L) := hsz ▸ f'
    exact h h' f2 ((Trn.upd1.mono (by simp)).trans (t'.mono (by simp)))
/-- the mark is taken away -/
theorem flight_none {T : Addr} {cls fl : Value} {Q : Unit → Shared → Prop} (f : Fly s.heap e T cls fl) (h : ∀ h', Fly h' e T cls .none → (∀ F, Trn F [T] s.heap h') → h'.objs.size = s.heap.objs.size → Q () { s with heap := h' }) :
    wpAny M A (setFlight (.ref e) none) Q E s := by
  obtain ⟨oe, vs, oT, ts, he, hc, hdc, hd, h1, nT, hT, hdT, h3⟩ := f
  have hs3 : 3 < ts.size := (Array.getElem?_eq_some_iff.mp h3).1
  unfold setFlight
  refine wpAny_bind (wpAny_field he hd h1 ?_)
  rw [if_pos (by simp)]
  refine wpAny_setField hT hdT hs3 (h _ ?_ (fun F => Trn.upd1) (Heap.size_after_update ..))
  have hdT' := Obj.data_mapFields hdT (·.setIfInBounds 3 ((none : Option Addr).elim Value.none fun f => rawInt f))
  exact ⟨oe, vs, _, _, (Heap.get?_update_other _ _ nT).trans he, hc, hdc, hd, h1, nT, Heap.get?_update_self _ hT (Obj.isFreed_of_fields hdT'), hdT', by simp [hs3]⟩
end
end L2

set_option Elab.async false
set_option linter.all false
set_option maxRecDepth 100000
namespace L2
open PySem PySem.Spec PyProof.Rows
/-! ### the state through a note -/
theorem ObjOk.there {P : Program} {w : World} {H : Hp} {h : Heap} {a : Addr} : ∀ {o : HO}, ObjOk P w H h a o → ∃ ob, h.get? a = some ob
  | .lst _, ⟨_, _, _, _, e⟩ => ⟨_, e⟩
  | .tup _, ⟨_, _, _, o, e, _⟩ => ⟨o, e⟩
  | .dK _, ⟨_, _, _, _, o, _, _, e, _⟩ => ⟨o, e⟩
  | .dT _, ⟨_, _, _, _, o, _, _, e, _⟩ => ⟨o, e⟩
  | .set _ _, ⟨o, _, _, _, e, _⟩ => ⟨o, e⟩
  | .ins _ _ _, ⟨_, _, _, e, _⟩ => ⟨_, e⟩
  | .own _, e => e
  | .xd _, ⟨_, n, _⟩ => let ⟨o, e, _⟩ := lookIn_ns n; ⟨o, e⟩
  | .met _ _, e => ⟨_, e⟩
  | .rng _ _, ⟨_, _, _, e⟩ => ⟨_, e⟩
  | .frz o _, ⟨e, _⟩ => ⟨o, e⟩
  | .tbl _, e => ⟨_, e⟩
  | .ext _, ⟨_, e, _⟩ => e
theorem HOk.trn {P : Program} {w : World} {H : Hp} {h h' : Heap} {F R : List Addr} (ok : HOk P w H h) (t : Trn F R h h') (hF : ∀ b ∈ F, H b = none) (hR : ∀ b ∈ R, H b = none) : HOk P w H h' := fun a o e =>
  (ok a o e).stay (fun b u hb q => t.keep b u (fun z => by
    have := hF b z
    rcases hb with rfl | hb
    · rw [e] at this; cases this
    · rw [hb] at this; cases this) (fun z => by
    have := hR b z
    rcases hb with rfl | hb
    · rw [e] at this; cases this
    · rw [hb] at this; cases this) q) (fun _ q => q) fun _ _ q => q
/-- a record that may turn: new since the entry -/
def Rec (X : Cx) (pins : List (Addr × Obj)) (H : Hp) (b : Addr) : Prop :=
  H b = none ∧ b ≠ X.env.locals ∧ b ∉ X.fs ∧ X.s₀.heap.get? b = none ∧ (∀ x c, X.env.cells.lookup x = some c → c ≠ b) ∧ ∀ p ∈ X.pn ++ pins, p.1 ≠ b
section
variable {X : Cx} {pins : List (Addr × Obj)} {σ : St} {H H' : Hp} {s : Shared} {h' : Heap}
theorem Inv.recd (I : Inv X pins σ H s) (hex : X.ex = []) {b : Addr} (hn : H' b = none) (hb : s.heap.get? b = none) : Rec X pins H' b := by
  refine ⟨hn, fun z => ?_, fun z => ?_, ?_, fun x c e z => ?_, fun p hp z => ?_⟩
  · obtain ⟨m, ⟨o, _, _, ho, _⟩, _⟩ := I.loc
    rw [← z, hb] at ho; cases ho
  · obtain ⟨_, o, ho, _⟩ := I.funs.mem z
    rw [hb] at ho; cases ho
  · cases q : X.s₀.heap.get? b with
    | none => rfl
    | some o =>
      obtain ⟨o', e⟩ := I.base.there b o q (by rw [hex]; simp)
      rw [hb] at e; cases e
  · obtain ⟨v, o, ho, _⟩ := I.cell x c e
    rw [z, hb] at ho; cases ho
  · have := (I.pin p hp).1
    rw [z, hb] at this; cases this
theorem Inv.recd_new (I : Inv X pins σ H s) (hex : X.ex = []) : Rec X pins H s.heap.objs.size := by
  refine I.recd hex (I.hok.fresh (Nat.le_refl _)) ?_
  cases q : s.heap.get? s.heap.objs.size with
  | none => rfl
  | some o => exact absurd (Heap.lt_size q) (Nat.lt_irrefl _)
/-- all frames' slots and the records at R may have turned -/
theorem Inv.trn {R : List Addr} {t' : Nat} (I : Inv X pins σ H s) (hR : ∀ b ∈ R, Rec X pins H b) (t : Trn (frs X.stack) R s.heap h') : Inv X pins σ H { s with heap := h', toks := t' } := by
  have hFn : ∀ b ∈ frs X.stack, H b = none := fun b hb => I.stkFree b hb
  have any : ∀ b o, b ∉ R → s.heap.get? b = some o → ∃ sl, h'.get? b = some { o with slots := sl } := fun b o hr e => by
    by_cases hb : b ∈ frs X.stack
    · exact t.slot b o hb hr e
    · exact ⟨o.slots, t.keep b o hb hr e⟩
  have keepF : ∀ b o, b ≠ X.env.locals → b ∉ X.fs → b ∉ R → s.heap.get? b = some o → h'.get? b = some o := fun b o hL hb hr e =>
    t.keep b o (fun z => (List.mem_cons.mp (I.stkSub b z)).elim hL hb) hr e
  have neL : ∀ b o, X.s₀.heap.get? b = some o → b ≠ X.env.locals := fun b o e => Nat.ne_of_lt (Nat.lt_of_lt_of_le (Heap.lt_size e) I.ok.above)
  have neR : ∀ b o, X.s₀.heap.get? b = some o → b ∉ R := fun b o e z => by rw [(hR b z).2.2.2.1] at e; cases e
  have cellK : ∀ x c, X.env.cells.lookup x = some c → ∀ v, s.heap.IsCell c v → h'.IsCell c v := fun x c e v ⟨o, ho, hd⟩ => by
    obtain ⟨sl, q⟩ := any c o (fun z => (hR c z).2.2.2.2.1 x c e rfl) ho
    exact ⟨_, q, hd⟩
  refine ⟨I.ok, I.os, I.bare, ⟨fun b o e n hb hx => ?_, fun b o e n hb hx => ?_, I.base.free, fun b o e hx => ?_, I.base.tups, I.base.frzs, I.base.tbls⟩, ?_, fun x c e => ?_, I.free, I.freeC, fun p hp => ?_, I.hok.trn t hFn (fun b hb => (hR b hb).1), I.len⟩
  · exact keepF b o (neL b o e) hb (neR b o e) (I.base.keep b o e n hb hx)
  · obtain ⟨sl, e1⟩ := I.base.slot b o e n hb hx
    obtain ⟨sl', e2⟩ := any b _ (neR b o e) e1
    exact ⟨sl', e2⟩
  · obtain ⟨o', e1⟩ := I.base.there b o e hx
    obtain ⟨sl, e2⟩ := any b _ (neR b o e) e1
    exact ⟨_, e2⟩
  · obtain ⟨m, ⟨o, es, ep, ho, r⟩, hl⟩ := I.loc
    obtain ⟨sl, q⟩ := any _ o (fun z => (hR _ z).2.1 rfl) ho
    refine ⟨m, ⟨_, es, ep, q, r⟩, fun i x v e1 e2 e3 => ?_⟩
    obtain ⟨u, ru, l⟩ := hl i x v e1 e2 e3
    refine ⟨u, ru, ?_⟩
    rcases l with l | ⟨k, c, e, z⟩
    · exact .inl l
    · exact .inr ⟨k, c, e, cellK x c e _ z⟩
  · obtain ⟨v, z⟩ := I.cell x c e
    exact ⟨v, cellK x c e v z⟩
  · obtain ⟨e, n, ne, nf, d⟩ := I.pin p hp
    exact ⟨keepF p.1 p.2 ne nf (fun z => (hR p.1 z).2.2.2.2.2 p hp rfl) e, n, ne, nf, d⟩
end

/-! ### an exception here; an exception behind a call -/
def XP (X : Cx) (pins : List (Addr × Obj)) (σ : St) (E : XK) (e : Value) (s' : Shared) : Prop :=
  ∃ ea T cls H', e = .ref ea ∧ Inv X pins σ H' s' ∧ Fly s'.heap ea T cls .none ∧ Rec X pins H' ea ∧ Rec X pins H' T ∧ E cls none H'
def CX1 (P : Program) (w : World) : CXT := fun outer H s E e s' =>
  ∃ ea T cls H', e = .ref ea ∧ s'.os = s.os ∧ AllBare s'.gens ∧ Un (frs outer) [] H H' s.heap s'.heap ∧ HOk P w H' s'.heap ∧ Fly s'.heap ea T cls .none ∧ s.heap.get? ea = none ∧ s.heap.get? T = none ∧ H' ea = none ∧ H' T = none ∧ E cls none H'
theorem xp_of {X : Cx} {pins : List (Addr × Obj)} {σ : St} {H : Hp} {s s' : Shared} {E : XK} {e : Value} (I : Inv X pins σ H s) (hex : X.ex = []) (h : CX1 X.prog X.w X.stack H s E e s') : XP X pins σ E e s' := by
  obtain ⟨ea, T, cls, H', he, os, bare, un, hok, fl, n1, n2, h1, h2, q⟩ := h
  exact ⟨ea, T, cls, H', he, I.call' (ch := []) os un hok bare (fun b z => absurd z (by simp)), fl, I.recd hex h1 n1, I.recd hex h2 n2, q⟩
/-- .. leaves the frame -/
theorem un_trn {X : Cx} {pins : List (Addr × Obj)} {σ : St} {H : Hp} {s : Shared} {R : List Addr} {h' : Heap} (I : Inv X pins σ H s) (hex : X.ex = []) (hR : ∀ b ∈ R, Rec X pins H b) (t : Trn (frs X.stack) R s.heap h') : Un X.fs [] X.H₀ H X.s₀.heap h' := by
  have := (I.trn (t' := s.toks) hR t).base
  rw [hex] at this
  exact this
section
variable {P : Program} {w : World} {K : PySem.W.Frag} {mg : Str → Option Value} {base : Heap} {N : List Str} {qual : Str} {scope : Scope} {f : Addr} {cd : Value} {A : Around} {outer : List Env} {s0 : Shared} {H0 : Hp} {E : XK}
theorem xe_of {pins : List (Addr × Obj)} {σ : St} {e : Value} {s : Shared} (h : XP (cxOf (CX1 P w) P w K mg base N qual scope f cd A outer s0 H0 E) pins σ E e s) : (cxOf (CX1 P w) P w K mg base N qual scope f cd A outer s0 H0 E).xe e s := by
  obtain ⟨ea, T, cls, H', rfl, I, fl, r1, r2, q⟩ := h
  show wpAny _ _ (leaving _ (.ref ea)) _ _ s
  unfold leaving
  refine wpAny_bind (note_next (base := base) I.ok.frames I.stack rfl fl fun h1 f1 t1 => ?_)
  refine flight_none f1 fun h2 f2 t2 sz => ?_
  have rn := I.recd_new rfl
  have hR : ∀ b ∈ [ea, T, s.heap.objs.size], Rec (cxOf (CX1 P w) P w K mg base N qual scope f cd A outer s0 H0 E) pins H' b := by
    intro b hb
    simp only [List.mem_cons, List.not_mem_nil, or_false] at hb
    rcases hb with z | z | z
    · rw [z]; exact r1
    · rw [z]; exact r2
    · rw [z]; exact rn
  have t12 : Trn (frs (cxOf (CX1 P w) P w K mg base N qual scope f cd A outer s0 H0 E).stack) [ea, T, s.heap.objs.size] s.heap h2 := (t1.mono (by simp)).trans ((t2 _).mono (by simp))
  have J := I.trn (t' := s.toks) hR t12
  exact ⟨ea, _, cls, H', rfl, I.os, I.bare, un_trn I rfl hR t12, J.hok, f2, r1.2.2.2.1, rn.2.2.2.1, r1.1, rn.1, q⟩
theorem pass1 : Passes (CX1 P w) (cxOf (CX1 P w) P w K mg base N qual scope f cd A outer s0 H0 E) E := fun pins σ H s e s' I h => xe_of (xp_of I rfl h)
theorem passOwn1 : PassesOwn (model P w) (cxOf (CX1 P w) P w K mg base N qual scope f cd A outer s0 H0 E).A (cxOf (CX1 P w) P w K mg base N qual scope f cd A outer s0 H0 E).env (cxOf (CX1 P w) P w K mg base N qual scope f cd A outer s0 H0 E).xe := PassesOwn.leaving
/-- a def that may raise -/
theorem Fun.okX {x qual : Str} {st : Stmt} {f : Addr} {fd : FuncData} {N ps : List Str} {k : Nat} {sp : Sp} (F : Fun K x qual st f fd) (S : FnScope N ps (defScope st)) (len : ∀ vs H Q E, sp vs H Q E → vs.length = ps.length)
    (hbody : ∀ (cdv : Value) (A : Around) (outer : List Env) (s : Shared) (H : Hp) (vs : List V) (Q : VK) (E : XK), Room k (A.deeper (envOfC qual (defScope st) s.heap.objs.size f cdv)) → sp vs H Q E →
      ∃ t, PSs (cxOf (CX1 P w) P w K mg base N qual (defScope st) f cdv A outer s H E) (defBody st) t ∧ t { nx := fun _ H' => Q .non H', rt := Q } (start N vs) H) : FnOk P w K mg base (CX1 P w) (k + 1) f fd ps sp := by
  obtain ⟨oc, od, kV, doc, pm, an, cdv, ct, osl, rfl, lk, hcd⟩ := F.ex
  exact fn_of lk hcd S len fun A outer s H vs Q E hr hsp => hbody cdv A outer s H vs Q E hr hsp
end
/-- a callee that may raise, and does not here -/
theorem passF {P : Program} {w : World} {X : Cx} : Passes (CX1 P w) X E0 := fun _ _ _ _ _ _ _ h => by
  obtain ⟨_, _, _, _, _, _, _, _, _, _, _, _, _, _, q⟩ := h
  exact q.elim
end L2

set_option Elab.async false
set_option linter.all false
set_option maxRecDepth 100000
namespace L2
open PySem PySem.Spec PyProof.Rows

/-! ### an own class of errors under ValueError -/
abbrev veMro : List Value := [.type "ValueError", .type "Exception", .type "BaseException", .type "object"]
structure ExcC (K : PySem.W.Frag) (C : Addr) : Prop where
  ex : PySem.W.excIn K C veMro "ValueError.__new__" = true
  ga : PySem.W.findIn K (.ref C) "__getattribute__" = some (some (.builtin "BaseException.__getattribute__"))
  gb : PySem.W.findIn K (.ref C) "__getattr__" = some none
  hd : PySem.W.hasDictIn K C = true
  ca : PySem.W.findIn K (.ref C) "__class__" = some (some (.builtin "object.__class__"))
  cg : PySem.W.specialIn K (.builtin "object.__class__") "__get__" = some (some (.builtin "getset_descriptor.__get__"))
  ct : PySem.W.takesIn K (.builtin "object.__class__") = some true
  mo : PySem.W.mroIn K C (.type "object") = some true
  mb : PySem.W.mroIn K C (.type "BaseException") = some true
theorem exc_obj {K : PySem.W.Frag} {h : Heap} {C : Addr} {bmB : List Value} {nw : String} (X : K.In h) (q : PySem.W.excIn K C bmB nw = true) :
    ∃ bm N nm qn bs hc sn su ab col dd k0 k1 k2 k3 k5 mN, h.get? C = some (excClassObj nm qn C N bs bm hc sn su ab col dd k0 k1 k2 k3 k5 nw) ∧ h.Ns N mN ∧ mN "__init__" = none ∧ OwnTail h bmB bm ∧ bm.contains (.type "BaseException") = bmB.contains (.type "BaseException") := by
  unfold PySem.W.excIn at q
  split at q
  · rename_i dd cd sl ho
    obtain ⟨nm, bs, mro, ns, qn, hc, sn, su, ab, col, del⟩ := cd
    obtain ⟨sl⟩ := sl
    split at q
    · rename_i D bm k0 k1 k2 k3 n k5 hm hs
      simp only [Bool.and_eq_true, beq_iff_eq, Bool.not_eq_true'] at q
      obtain ⟨⟨⟨⟨⟨e1, e2⟩, e3⟩, e4⟩, e5⟩, e6⟩ := q
      dsimp only at hm hs e3 e5 e6
      subst e1 e2 hm hs e3
      have T := PySem.W.tail_of_in X e4
      exact ⟨bm, ns, nm, qn, bs, hc, sn, su, ab, col, dd, k0, k1, k2, k3, k5, h.nsMap ns, X _ _ ho, .of_isNs (PySem.W.isNs_of_in X e5), PySem.W.nsMap_none_of_in X e5 e6, T, T.hasType rfl⟩
    · cases q
  · cases q

/-! ### raise C(..) -/
section
variable {P : Program} {w : World} {K : PySem.W.Frag} {mg : Str → Option Value} {base : Heap} {N : List Str} {qual : Str} {scope : Scope} {f : Addr} {cd : Value} {A : Around} {outer : List Env} {s0 : Shared} {H0 : Hp} {E : XK}
theorem raised {pins : List (Addr × Obj)} {σ : St} {H : Hp} {s : Shared} {h' : Heap} {e C : Addr} {vs : List Value} (I : Inv (cxOf (CX1 P w) P w K mg base N qual scope f cd A outer s0 H0 E) pins σ H s) (hm : Heap.MadeExcOf s.heap h' e (.ref C) vs)
    (q : E (.ref C) none H) : (cxOf (CX1 P w) P w K mg base N qual scope f cd A outer s0 H0 E).xe (.ref e) { s with heap := h' } := by
  have hHe : H e = none := by
    cases z : H e with
    | none => rfl
    | some o =>
      obtain ⟨ob, eo⟩ := (I.hok e o z).there
      rw [hm.new] at eo; cases eo
  have r1 := I.recd rfl hHe hm.new
  have I1 : Inv (cxOf (CX1 P w) P w K mg base N qual scope f cd A outer s0 H0 E) pins σ H { s with heap := h' } := I.kept (t' := s.toks) hm.keeps
  obtain ⟨t, he, _, _⟩ := hm.there
  show wpAny _ _ (leaving _ (.ref e)) _ _ _
  unfold leaving
  refine wpAny_bind (note_first (base := base) I1.ok.frames I1.stack rfl he rfl rfl rfl fun h1 f1 t1 => ?_)
  refine flight_none f1 fun h2 f2 t2 sz => ?_
  have rn := I1.recd_new rfl
  have hR : ∀ b ∈ [e, h'.objs.size], Rec (cxOf (CX1 P w) P w K mg base N qual scope f cd A outer s0 H0 E) pins H b := by
    intro b hb
    simp only [List.mem_cons, List.not_mem_nil, or_false] at hb
    rcases hb with z | z
    · rw [z]; exact r1
    · rw [z]; exact rn
  have t12 : Trn (frs (cxOf (CX1 P w) P w K mg base N qual scope f cd A outer s0 H0 E).stack) [e, h'.objs.size] h' h2 := (t1.mono (by simp)).trans ((t2 _).mono (by simp))
  have J := I1.trn (t' := s.toks) hR t12
  exact ⟨e, _, .ref C, H, rfl, I.os, I.bare, un_trn I1 rfl hR t12, J.hok, f2, r1.2.2.2.1, rn.2.2.2.1, r1.1, rn.1, q⟩
theorem ps_raise {x : Str} {C : Addr} {a : Expr} {np cpos pos : Pos} {te : TE} (hg : Gl (cxOf (CX1 P w) P w K mg base N qual scope f cd A outer s0 H0 E) x) (hm : mg x = some (.ref C)) (hx : ExcC K C) (hh : A.handled = none)
    (ha : PE (cxOf (CX1 P w) P w K mg base N qual scope f cd A outer s0 H0 E) a te) (hdb : (x == ("__debug__" : Str)) = false := by decide)
    (tr : backTo cpos (starEach [a] (cxOf (CX1 P w) P w K mg base N qual scope f cd A outer s0 H0 E).env) = [(false, eval a (cxOf (CX1 P w) P w K mg base N qual scope f cd A outer s0 H0 E).env)] := by rfl) :
    PS (cxOf (CX1 P w) P w K mg base N qual scope f cd A outer s0 H0 E) (.Raise (some (.Call (.Name x np) [a] [] cpos)) none pos) (fun _ σ H => te σ H fun _ H1 => E (.ref C) none H1) := by
  intro pins s σ H D I h
  obtain ⟨bm, Nn, nm, qn, bs, hc, sn, su, ab, col, dd, k0, k1, k2, k3, k5, mN, hC, hN, hni, T, hb⟩ := exc_obj I.ok.mod.kin hx.ex
  refine wpAny_Raise_call_subT (C := C) (nm := nm) (q := qn) (N := Nn) (bs := bs) (bm := bm) (hdct := hc) (sn := sn) (sub := su) (ab := ab) (col := col) (dd := dd) (k0 := k0) (k1 := k1) (k2 := k2) (k3 := k3) (k5 := k5) PySem.F.excBase_ValueError (by rw [hb]; decide) hh (by rw [tr]; rfl) hni (ld_glob I hg hm ⟨rfl, ?_⟩ hdb)
  rw [tr]
  refine Calls.evalArgs_plain (Calls.spliced_cons (thn (ha pins s σ H _ I h) fun v s1 ⟨y, H1, I1, ry, q1⟩ => Calls.spliced_nil ?_))
  exact ⟨rfl, by show 1 ≤ sizeLine; decide, I1.bk _ _ hC, hN.keeps I1.bk, T.keeps I1.bk, fun h' e hmd => raised I1 hmd q1⟩
end
end L2

set_option Elab.async false
set_option linter.all false
set_option maxRecDepth 100000
namespace L2
open PySem PySem.Spec PyProof.Rows
/-! ### an exception that is held: isinstance, except -/
/-- an exception of the class at C stands at a (kept by what is true of its object) -/
def ExcO (a C : Addr) : HO := .ext fun h => ∃ o vs, h.get? a = some o ∧ o.cls = .ref C ∧ o.dict = none ∧ o.data = .fields vs
theorem excO_ok {P : Program} {w : World} {H : Hp} {h : Heap} {a C : Addr} {o : Obj} {vs : Array Value} (e : h.get? a = some o) (c : o.cls = .ref C) (d : o.dict = none) (q : o.data = .fields vs) : ObjOk P w H h a (ExcO a C) :=
  ⟨⟨o, vs, e, c, d, q⟩, ⟨o, e⟩, fun _ _ ⟨o1, v1, e1, r⟩ k => ⟨o1, v1, k _ e1, r⟩⟩
theorem exc_class {K : PySem.W.Frag} {prog : Program} {w : World} {A : Around} {E : Value → Shared → Prop} {s : Shared} {x D : Addr} {o : Obj} {Q : Option Value → Shared → Prop} (X : K.In s.heap) (J : PySem.W.InstAt s.heap x o D none) (c : ExcC K D)
    (hf : PySem.W.findObj K D none "__class__" = some (.bind (.builtin "getset_descriptor.__get__") (.builtin "object.__class__"))) (k : Q (some (.ref D)) { s with toks := s.toks + 1 }) : wpAny (model prog w) A (getAttr? (.ref x) "__class__") Q E s := by
  obtain ⟨hh, g, d, t, os⟩ := s
  have L0 := J.type (M := model prog w)
  have L1 := PySem.W.looks_findIn (M := model prog w) X c.ga
  have L2 := PySem.W.looks_findIn (M := model prog w) X c.gb
  have L3 := PySem.W.looks_mroIn (M := model prog w) X c.mb
  have L4 := PySem.W.looks_find (M := model prog w) X J hf
  have hk : builtinKind "BaseException.__getattribute__" = some .slot := by decide +kernel
  have hsplit : splitId "BaseException.__getattribute__" = some ("BaseException", "__getattribute__") := by decide +kernel
  have ha := F.args_bexc_ga (.ref x) (.str "__class__" t)
  unfold getAttr? getAttrBy? getAttrBy
  refine wpAny_bind (wpAny_mkText (wpAny_bind (wpAny_attempt (wpAny_holding (wpAny_bind (L0.at (wpAny_bind (L1.at ?_))))))))
  show wpAny _ _ (getAttrByItsOwn _ _ _ _ _ _) _ _ _
  unfold getAttrByItsOwn
  refine wpAny_bind (m := typeLookup (.ref D) "__getattr__") (L2.at ?_)
  refine wpAny_bind (wpAny_attempt (wpAny_holding ?_))
  show wpAny _ _ (boundAndCalled _ _ _) _ _ _
  unfold boundAndCalled
  rw [F.excAttr_ValueError.ga.bind (.ref x)]
  refine wpAny_bind (wpAny_pure ?_)
  refine wpAny_call (codeAny_call_builtin F.excAttr_ValueError.ga.plain F.entry_bexc_ga ?_)
  have LI : PySem.W.Looks (model prog w) hh (isInstance (.ref x) (.type "BaseException")) true := L0.andThen L3
  simp only [checkBuiltinCall, hk, hsplit]
  refine wpAny_bind (LI.at ?_)
  simp only [Bool.not_true, Bool.false_eq_true, if_false]
  repeat (first | assumption | with_reducible refine PySem.W.Looks.at (by assumption) ?_ | wp_step)
  refine PySem.W.class_get (s := ⟨hh, g, d, t + 1, os⟩) (ox := o) (od := none) X J c.mo ?_
  refine wpAny_pure ?_
  exact PySem.W.handed_on rfl (wpAny_pure k)
theorem kitx_exc {K : PySem.W.Frag} {x D : Addr} (c : ExcC K D) : PySem.W.KitX K (.ref x) (.ref D) (fun h => ∃ o vs, h.get? x = some o ∧ o.cls = .ref D ∧ o.dict = none ∧ o.data = .fields vs) where
  ty := fun M h _ ⟨o, vs, e, hc, _⟩ => hc ▸ (PySem.W.Looks.ld e).andThen .now
  it := fun M h X _ => by
    obtain ⟨q, hq, _⟩ := PySem.W.any_some c.hd
    unfold PySem.W.clsIn at hq
    split at hq
    · rename_i ho
      intro A' Q' E' s' k z
      unfold isType loadHead
      exact wpAny_bind (wpAny_loadPart (k _ _ (X _ _ ho)) (wpAny_pure z))
    · cases hq
  ne := fun h tp dd its n sl X htp => by
    obtain ⟨q, hq, _⟩ := PySem.W.any_some c.hd
    refine Bool.eq_false_iff.mpr fun z => ?_
    have e : D = tp := Value.ref.inj (beq_iff_eq.mp z)
    subst e
    unfold PySem.W.clsIn at hq
    split at hq
    · rename_i ho
      have z := (X _ _ ho).symm.trans htp
      cases z
    · cases hq
  ca := fun {prog w A E Q s} X ⟨o, vs, e, hc, hd, hq⟩ k => by
    have J : PySem.W.InstAt s.heap x o D none := ⟨e, hc, by unfold PySem.W.notCls; rw [hq], by rw [hd]; trivial⟩
    have hf : PySem.W.findObj K D none "__class__" = some (.bind (.builtin "getset_descriptor.__get__") (.builtin "object.__class__")) := by
      obtain ⟨cdd, h1, _⟩ := PySem.W.any_some c.hd
      unfold PySem.W.findObj
      rw [h1, Option.bind_some, c.ca, Option.bind_some]
      simp [c.cg, c.ct]
    exact exc_class X J c hf k
section
variable {X : Cx}
/-- isinstance(e, C'), e an exception of the class at C -/
theorem call_isiE : CallR X (.builtin "isinstance") (fun xs H Q => ∃ (a C : Addr) (c : V) (cv : Value) (b : Bool), xs = [.ref a, c] ∧ H a = some (ExcO a C) ∧ ExcC X.K C ∧ (c = .ty "ValueError" ∧ cv = .type "ValueError" ∨ ∃ D, c = .ref D ∧ cv = .ref D) ∧ PySem.W.kitOne X.K (.ref C) cv = some b ∧ Q (.bl b) H) := by
  intro pins s σ H xs us Q I r ⟨a, C, c, cv, b, e, hq, hx, hc, k, q⟩
  subst e
  obtain ⟨u, w', e, ru, rw'⟩ := Vals.two r
  subst e
  cases ru
  have hcv : w' = cv := by
    rcases hc with ⟨h1, h2⟩ | ⟨D, h1, h2⟩
    · subst h1 h2; exact rw'
    · subst h1 h2; exact rw'
  subst hcv
  obtain ⟨p, _, _⟩ := (show ObjOk X.prog X.w H s.heap a (ExcO a C) from I.hok a _ hq)
  exact PySem.W.kia_one (kitx_exc hx) I.kIn p k (fun z => nomatch z) fun tk => ⟨.bl _, H, I.tok tk, rfl, q⟩
def rIsiE (K : PySem.W.Frag) : List V → Hp → VK → Prop := fun xs H Q => ∃ (a C : Addr) (c : V) (cv : Value) (b : Bool), xs = [.ref a, c] ∧ H a = some (ExcO a C) ∧ ExcC K C ∧ (c = .ty "ValueError" ∧ cv = .type "ValueError" ∨ ∃ D, c = .ref D ∧ cv = .ref D) ∧ PySem.W.kitOne K (.ref C) cv = some b ∧ Q (.bl b) H
theorem call_isiEK (K : PySem.W.Frag) (hK : X.K = K) : CallR X (.builtin "isinstance") (rIsiE K) := by
  subst hK
  exact call_isiE
end
theorem kitCls_of {K : PySem.W.Frag} {t : Value} {D : Addr} {b : Bool} (hd : PySem.W.hasDictIn K D = true) (ty : PySem.W.typeIn K (.ref D) = some (.type "type")) (sb : PySem.W.subIn K t (.ref D) = some b) : PySem.W.kitCls K t (.ref D) = some b := by
  obtain ⟨q, hq, _⟩ := PySem.W.any_some hd
  unfold PySem.W.kitCls
  simp [hq, ty, sb]
theorem kitBase_of {K : PySem.W.Frag} {D : Addr} (sb : PySem.W.subIn K (.ref D) (.type "BaseException") = some true) : PySem.W.kitCls K (.ref D) (.type "BaseException") = some true := by
  unfold PySem.W.kitCls
  dsimp only
  rw [if_pos (by decide +kernel), sb]
theorem exc_match {K : PySem.W.Frag} {M : Model} {A : Around} {E : Value → Shared → Prop} {s : Shared} {e C D : Addr} {o : Obj} {Q : Bool → Shared → Prop} (X : K.In s.heap) (he : s.heap.get? e = some o) (hc : o.cls = .ref C) (hs : PySem.W.kitCls K (.ref C) (.ref D) = some true)
    (hb : PySem.W.kitCls K (.ref D) (.type "BaseException") = some true) (q : Q true s) : wpAny M A (excMatches (.ref e) (.ref D)) Q E s := by
  obtain ⟨t1, t2, t3⟩ := PySem.W.kit_cls (M := M) X hs
  obtain ⟨_, _, t6⟩ := PySem.W.kit_cls (M := M) X hb
  have te : PySem.W.Looks M s.heap (typeOf (.ref e)) (.ref C) := hc ▸ (PySem.W.Looks.ld he).andThen .now
  have i1 : PySem.W.Looks M s.heap (isInstance (.ref D) (.type "tuple")) false := t1.andThen (.of_pure tc_notTuple)
  have i2 : PySem.W.Looks M s.heap (isExcClass (.ref D)) true := by
    unfold isExcClass
    exact t2.andThen t6
  unfold excMatches
  refine wpAny_bind (m := isInstance (.ref D) (.type "tuple")) (i1.here ?_)
  dsimp only
  rw [if_neg Bool.false_ne_true]
  refine wpAny_bind (wpAny_pure ?_)
  rw [List.forIn_cons]
  refine wpAny_bind (wpAny_bind (wpAny_bind (m := isExcClass (.ref D)) (i2.here ?_)))
  rw [if_neg (by decide)]
  refine wpAny_pure ?_
  (try dsimp only)
  rw [List.forIn_nil]
  refine wpAny_pure ?_
  refine wpAny_bind (te.here ?_)
  rw [List.forIn_cons]
  refine wpAny_bind (wpAny_bind (wpAny_bind (t3.here ?_)))
  rw [if_pos rfl]
  exact wpAny_pure (wpAny_pure (wpAny_pure q))
end L2

set_option Elab.async false
set_option linter.all false
set_option maxRecDepth 100000
namespace L2
open PySem PySem.Spec PyProof.Rows
/-! ### expressions that may raise; try .. except C as n -/
def PEX (X : Cx) (e : Expr) (t : St → Hp → VK → XK → Prop) : Prop :=
  ∀ (pins : List (Addr × Obj)) (s : Shared) (σ : St) (H : Hp) (Q : VK) (E : XK), Inv X pins σ H s → t σ H Q E → wpAny (model X.prog X.w) X.A (eval e X.env) (EP X pins σ Q) (XP X pins σ E) s
section
variable {X : Cx} {k : Nat} {f C : Addr} {fd : FuncData} {ps : List Str} {sp : Sp} {dvs : List V} {ds : List Value} {x m : Str} {p pos apos : Pos} {e o : Expr} {es : List Expr} {ta : TE} {t : TA}
theorem run_fnX {pins : List (Addr × Obj)} {σ : St} {H : Hp} {s : Shared} {Q : VK} {E : XK} {us : List Value} {vs : List V} (F : FnOk X.prog X.w X.K X.mg X.base (CX1 X.prog X.w) k f fd ps sp) (hr : Room k X.A) (hb : Binds X.K fd ps ds) (hd : Vals dvs ds) (hex : X.ex = [])
    (I : Inv X pins σ H s) (r : Vals vs us) (h : sp (vs ++ dvs) H Q E) : wpAny (model X.prog X.w) X.A (call (.ref f) us) (EP X pins σ Q) (XP X pins σ E) s := by
  have r2 : Vals (vs ++ dvs) (us ++ ds) := r.append hd
  have hl : (us ++ ds).length = ps.length := by rw [← r2.length]; exact F.len _ _ _ _ h
  refine wpAny_call (codeAny_mono (F.run X.A X.stack s H ⟨us, []⟩ (us ++ ds) (vs ++ dvs) Q E hr I.env0 (hb s us I.kIn hl) r2 h) fun r s' hq => ?_)
  cases r with
  | error e => exact xp_of I hex hq
  | ok fl =>
    cases fl with
    | ret u => exact I.after hq
    | next => exact False.elim hq
    | brk => exact False.elim hq
    | cont => exact False.elim hq
def tCallX (sp : Sp) (dvs : List V) (t : TA) : St → Hp → VK → XK → Prop := fun σ H Q E => t σ H fun vs H1 => sp (vs ++ dvs) H1 Q E
theorem PA.nx (ha : PA X.nox es t) {pos : Pos} {pins : List (Addr × Obj)} {s : Shared} {σ : St} {H : Hp} {Q : List V → Hp → Prop} {XE : Value → Shared → Prop} (I : Inv X pins σ H s) (h : t σ H Q) :
    wpAny (model X.prog X.w) X.A (spliced (backTo pos (starEach es X.env))) (AP X pins σ Q) XE s :=
  wpAny_mono (ha pos pins s σ H Q (I.wish _) h) (fun us s1 ⟨vs, H1, I1, r⟩ => ⟨vs, H1, I1.unwish, r⟩) fun _ _ z => z.elim
theorem pex_call (F : FnOk X.prog X.w X.K X.mg X.base (CX1 X.prog X.w) k f fd ps sp) (hr : Room k X.A) (hg : Gl X x) (hm : X.mg x = some (.ref f)) (hk : PySem.W.keepIn X.K (.ref f) = true) (hb : Binds X.K fd ps ds) (hd : Vals dvs ds) (hex : X.ex = [])
    (ha : PA X.nox (e :: es) t) (hdb : (x == ("__debug__" : Str)) = false := by decide) (he : starEach (e :: es) X.env = (false, eval e X.env) :: starEach es X.env := by rfl) (hpl : (backTo pos (starEach es X.env)).any (·.1) = false := by rfl) :
    PEX X (.Call (.Name x p) (e :: es) [] pos) (tCallX sp dvs t) := by
  intro pins s σ H Q E I h
  refine wpAny_Call_Name_kw (ld_glob I hg hm ?_ hdb)
  refine PySem.W.callWith_K (h₀ := X.base) I.ok.mod.kin hk (thn (ha.nx I h) fun us s1 ⟨vs, H1, I1, r, q⟩ => ⟨I1.kIn, ?_⟩) he hpl
  exact run_fnX F hr hb hd hex I1 r q
end

/-- within the except suite -/
def Cx.held (X : Cx) (ea : Addr) : Cx := { X with A := X.A.mark (some (.ref ea)), calm := false, xe := fun _ _ => False }
theorem Cx.Ok.held {X : Cx} (ok : X.Ok) (ea : Addr) : (X.held ea).Ok := ⟨ok.mod, ok.kind, ok.glob, ok.blt, ok.above, ok.inj, ok.has, ok.cab, (fun z => by cases z), ok.frames, ok.stk, ok.exf, ok.bs, ok.bsz, ok.noex, ok.exfs, ok.funs, ok.frf⟩
theorem Inv.held {X : Cx} {pins : List (Addr × Obj)} {σ : St} {H : Hp} {s : Shared} (I : Inv X pins σ H s) (ea : Addr) : Inv (X.held ea) pins σ H s := ⟨I.ok.held ea, I.os, I.bare, I.base, I.loc, I.cell, I.free, I.freeC, I.pin, I.hok, I.len⟩
theorem Inv.unheld {X : Cx} {pins : List (Addr × Obj)} {σ : St} {H : Hp} {s : Shared} {ea : Addr} (ok : X.Ok) (I : Inv (X.held ea) pins σ H s) : Inv X pins σ H s := ⟨ok, I.os, I.bare, I.base, I.loc, I.cell, I.free, I.freeC, I.pin, I.hok, I.len⟩
/-- the name of an except clause goes -/
theorem name_gone {X : Cx} {M : Model} {A : Around} {E : Value → Shared → Prop} {pins : List (Addr × Obj)} {σ : St} {H : Hp} {s : Shared} {i : Nat} {n : Str} {pos : Pos} {Q : Unit → Shared → Prop} (I : Inv X pins σ H s) (hN : X.N.Nodup) (hi : X.N[i]? = some n) (hl : X.env.kindOf n = some .local)
    (h : ∀ s', Inv X pins (σ.set i none) H s' → Q () s') : wpAny M A (do bindName X.env n .none; unbindBehindTheSuite X.env n pos) Q E s := by
  obtain ⟨m, hn, hloc⟩ := I.loc
  refine wpAny_nameGoes_keeps hl hn (by rw [I.ok.kind]; rfl) fun h' v hn' sb => h _ ?_
  have kb : ∀ b o, b ≠ X.env.locals → s.heap.get? b = some o → h'.get? b = some o := fun b o hb e => (sb.2 b hb).trans e
  have cellK : ∀ x c, X.env.cells.lookup x = some c → ∀ u, s.heap.IsCell c u → h'.IsCell c u := fun x c e u ⟨o, ho, hd⟩ => ⟨o, kb c o (I.cne x c e) ho, hd⟩
  have neL : ∀ b o, X.s₀.heap.get? b = some o → b ≠ X.env.locals := fun b o e => Nat.ne_of_lt (Nat.lt_of_lt_of_le (Heap.lt_size e) I.ok.above)
  have tL : ∀ b u, H b = some u → b ≠ X.env.locals := fun b u e z => by rw [z, I.free] at e; cases e
  refine ⟨I.ok, I.os, I.bare, ⟨fun b o e n' hb hx => kb b o (neL b o e) (I.base.keep b o e n' hb hx), fun b o e n' hb hx => ?_, I.base.free, fun b o e hx => ?_, I.base.tups, I.base.frzs, I.base.tbls⟩, ⟨_, hn', fun j y u e1 e2 e3 => ?_⟩, fun x c e => ?_, I.free, I.freeC, fun p hp => ?_, fun b o e => ?_, ?_⟩
  · obtain ⟨sl, e1⟩ := I.base.slot b o e n' hb hx
    exact ⟨sl, kb b _ (neL b o e) e1⟩
  · obtain ⟨o', e1⟩ := I.base.there b o e hx
    exact ⟨o', kb b o' (neL b o e) e1⟩
  · have nij : j ≠ i := fun z => by
      subst z
      rw [List.getElem?_set] at e2
      split at e2
      · split at e2 <;> cases e2
      · rename_i z; exact absurd rfl z
    rw [List.getElem?_set_ne (Ne.symm nij)] at e2
    obtain ⟨u', r, l⟩ := hloc j y u e1 e2 e3
    have nyn : y ≠ n := fun z => nij (nodup_ix hN e1 (z ▸ hi))
    refine ⟨u', r, ?_⟩
    rcases l with ⟨k1, k2⟩ | ⟨k1, c, k2, k3⟩
    · refine .inl ⟨k1, ?_⟩
      show (if y = n then v else m y) = some u'
      rw [if_neg nyn]; exact k2
    · exact .inr ⟨k1, c, k2, cellK y c k2 _ k3⟩
  · obtain ⟨u, z⟩ := I.cell x c e
    exact ⟨u, cellK x c e u z⟩
  · obtain ⟨e, n', ne, nf, d⟩ := I.pin p hp
    exact ⟨kb p.1 p.2 ne e, n', ne, nf, d⟩
  · refine (I.hok b o e).stay (fun c u hc q => kb c u ?_ q) (fun _ q => q) fun _ _ q => q
    rcases hc with rfl | hc
    · exact tL _ _ e
    · exact tL _ _ hc
  · rw [List.length_set]; exact I.len
/-- a record of ours is tracked from here on -/
theorem Inv.track {X : Cx} {pins : List (Addr × Obj)} {σ : St} {H : Hp} {s : Shared} {a : Addr} {o : HO} (I : Inv X pins σ H s) (r : Rec X pins H a) (new : ObjOk X.prog X.w (upd H a o) s.heap a o) : Inv X pins σ (upd H a o) s := by
  obtain ⟨q1, q2, q3, q4, q5, q6⟩ := r
  have ne : ∀ b u, H b = some u → b ≠ a := fun b u e z => by rw [z, q1] at e; cases e
  have st : ∀ b u, H b = some u → upd H a o b = some u := fun b u e => by rw [upd_ne (ne b u e)]; exact e
  refine ⟨I.ok, I.os, I.bare, ⟨I.base.keep, I.base.slot, fun b ob e n hx => ?_, I.base.there, fun b xs e => st _ _ (I.base.tups b xs e), fun b ob u e => st _ _ (I.base.frzs b ob u e), fun b ps e => ?_⟩, I.loc, I.cell, ?_, fun x c e => ?_, fun p hp => ?_, fun b u e => ?_, I.len⟩
  · rw [upd_ne (fun z => by rw [z, q4] at e; cases e)]
    exact I.base.free b ob e n hx
  · obtain ⟨m1, e1⟩ := I.base.tbls b ps e
    exact ⟨m1, st _ _ e1⟩
  · rw [upd_ne (Ne.symm q2)]; exact I.free
  · rw [upd_ne (q5 x c e)]; exact I.freeC x c e
  · obtain ⟨e, n, nl, nf, d⟩ := I.pin p hp
    exact ⟨e, by rw [upd_ne (q6 p hp)]; exact n, nl, nf, d⟩
  · by_cases hb : b = a
    · subst hb; rw [upd_same] at e; cases e; exact new
    · rw [upd_ne hb] at e
      exact (I.hok b u e).stay (fun _ _ _ q => q) (fun c q => st _ _ q) fun c xs q => st _ _ q
end L2

set_option Elab.async false
set_option linter.all false
set_option maxRecDepth 100000
/-! EXTENSION 7: f-strings, list.insert -/
namespace L2
open PySem PySem.Spec PyProof.Rows
section
variable {X : Cx} {e : Expr} {es : List Expr} {pos : Pos} {te : TE}
abbrev TJ := St → Hp → Str → VK → Prop
def PJ (X : Cx) (es : List Expr) (t : TJ) : Prop :=
  ∀ (pins : List (Addr × Obj)) (s : Shared) (σ : St) (H : Hp) (out : Str) (Q : VK), Inv X pins σ H s → t σ H out Q → wpAny (model X.prog X.w) X.A (joinParts out (evalEach es X.env)) (EP X pins σ Q) X.xe s
theorem pj_nil : PJ X [] (fun _ H out Q => out.length ≤ sizeLine ∧ Q (.str out) H) := fun pins s σ H out Q I ⟨hz, q⟩ => joinParts_nil ⟨.str out, H, I.tok _, ⟨_, rfl⟩, q⟩ hz
theorem pj_cons {t : TJ} (he : PE X e te) (hr : PJ X es t) : PJ X (e :: es) (fun σ H out Q => te σ H fun v H1 => ∃ y, v = .str y ∧ (out ++ y).length ≤ sizeLine ∧ t σ H1 (out ++ y) Q) := by
  intro pins s σ H out Q I h
  refine joinParts_cons (thn (he pins s σ H _ I h) fun u s1 ⟨v, H1, I1, r, y, ev, hz, q⟩ => ?_)
  subst ev
  obtain ⟨tk, rfl⟩ := r
  exact ⟨hz, hr pins s1 σ H1 _ Q I1 q⟩
theorem pe_fstr {e2 : Expr} {t : TJ} (h : PJ X (e :: e2 :: es) t) : PE X (.JoinedStr (e :: e2 :: es) pos) (fun σ H Q => t σ H Str.empty Q) := fun pins s σ H Q I q => JoinedStr_many (h pins s σ H _ Q I q)
theorem pe_fmtI (he : PE X e te) : PE X (.FormattedValue e (-1) none pos) (fun σ H Q => te σ H fun v H1 => ∃ i : Int, v = .int i ∧ i.natAbs.log2 < 1920 ∧ Q (.str (toString i)) H1) := by
  intro pins s σ H Q I h
  refine FormattedValue_plain (thn (he pins s σ H _ I h) fun u s1 ⟨v, H1, I1, r, i, ev, hz, q⟩ => ?_)
  subst ev
  obtain ⟨tk, rfl⟩ := r
  exact formatField_int_small hz ⟨.str _, H1, I1.tok _, ⟨_, rfl⟩, q⟩
end
end L2

set_option linter.all false
/-! Own work: rows, offers, dues, rounds (the mathematics; no model in it). A row's by: -1 for none. -/
namespace RM
structure Row where
  hd : Int
  co : Int
  ho : Int
  by_ : Int
deriving DecidableEq
def lt (r s : Row) : Prop := r.hd < s.hd ∨ (r.hd = s.hd ∧ (r.co < s.co ∨ (r.co = s.co ∧ (r.ho < s.ho ∨ (r.ho = s.ho ∧ r.by_ < s.by_)))))
instance (r s : Row) : Decidable (lt r s) := by unfold lt; infer_instance
def le (r s : Row) : Prop := ¬ lt s r
instance (r s : Row) : Decidable (le r s) := by unfold le; infer_instance
/-- a town: names, and ropes by their numbers -/
structure Net where
  n : Nat
  nm : Nat → Int
  a : Nat → Nat
  b : Nat → Nat
  c : Nat → Int
  live : List Nat
  inj : ∀ i j, i < n → j < n → nm i = nm j → i = j
  ab : ∀ k ∈ live, a k < n ∧ b k < n ∧ a k ≠ b k
  c1 : ∀ k ∈ live, 1 ≤ c k
section
variable (N : Net)
def own (h : Nat) : Row := ⟨N.nm h, 0, 0, -1⟩
end
variable {N : Net}
def upd (R : Nat → Row) (h : Nat) (d : Row) : Nat → Row := fun x => if x = h then d else R x
/-! ### there are rows at rest, just one -/
/-! ### parts; heads -/
/-! ### hanging -/
/-! ### a fall touches those beyond alone -/
/-! ### how many rounds -/
end RM

set_option linter.all false
/-! labels that go along live ropes (the mathematics; no model in it) -/
namespace RM
variable {N : Net}
end RM

set_option Elab.async false
set_option linter.all false
set_option maxRecDepth 100000
/-! EXTENSION 8: t < u of tuples that are told apart by ints, though they hold None -/
namespace L2
open PySem PySem.Spec PyProof.Rows
section
open PySem.SeqAt
open PySem.AutoSeq1 (wpAny_loadPart')
open PySem.MeetsSeq PySem.MeetsSeq2 PySem.MeetsSeq3
end
end L2
/-! rows -/
namespace RM
open PySem L2
/-- a row's by, as a value: None where it is below nought -/
def byV (b : Int) : V := if b < 0 then .non else .int b
abbrev rowV (r : Row) : List V := [.int r.hd, .int r.co, .int r.ho, byV r.by_]
theorem byV_non {b : Int} (h : b < 0) : byV b = .non := if_pos h
theorem byV_int {b : Int} (h : 0 ≤ b) : byV b = .int b := if_neg (by omega)
end RM

set_option Elab.async false
set_option linter.all false
set_option maxRecDepth 100000
/-! EXTENSION 9: min of rows: of two, of a list -/
namespace L2
open PySem PySem.Spec PyProof.Rows
end L2

set_option Elab.async false
set_option linter.all false
set_option maxRecDepth 100000
namespace L2
open PySem PySem.Spec PyProof.Rows RM
section
variable {X : Cx}
/-- two rows that ints tell apart -/
def Apart (r s : RM.Row) : Prop := r.hd ≠ s.hd ∨ r.co ≠ s.co ∨ r.ho ≠ s.ho ∨ (0 ≤ r.by_ ∧ 0 ≤ s.by_)
end
end L2

set_option Elab.async false
set_option linter.all false
set_option maxRecDepth 100000
/-! EXTENSION 10: == of data within comprehensions; rows as data -/
namespace L2
open PySem PySem.Spec PyProof.Rows
end L2
namespace RM
open PySem L2
end RM

set_option Elab.async false
set_option linter.all false
set_option maxRecDepth 100000
/-! EXTENSION 11: zip of two lists -/
namespace L2
open PySem PySem.Spec PyProof.Rows
end L2

set_option Elab.async false
set_option linter.all false
set_option maxRecDepth 100000
/-! EXTENSION 12: max of a list of ints -/
namespace L2
open PySem PySem.Spec PyProof.Rows
end L2

set_option Elab.async false
set_option linter.all false
set_option maxRecDepth 100000
/-! EXTENSION 13: rows by their first three -/
namespace RM
open PySem L2
end RM
namespace L2
open PySem PySem.Spec PyProof.Rows
end L2
namespace L2
open PySem PySem.Spec PyProof.Rows
end L2

set_option Elab.async false
set_option linter.all false
set_option maxRecDepth 100000
/-! EXTENSION 14: for over zip(..) -/
namespace L2
open PySem PySem.Spec PyProof.Rows
end L2

set_option Elab.async false
set_option linter.all false
set_option maxRecDepth 100000
set_option maxHeartbeats 4000000
/-! DATA: towns, ropes, rows, lists of them, as they stand on the heap -/
namespace TW
open PySem L2 PyProof.Rows
open RM (rowV byV byV_non byV_int)
seal L2.PE L2.PA L2.PT L2.PW L2.PS L2.PSs L2.PG L2.PGs L2.PI L2.PTs
/-! whole -/
/-! joins -/
/-! ropes -/
/-! init -/
/-! nmrope -/
/-! numbers -/
def above (xs : List Int) (x : Int) : Nat := (xs.filter fun y => decide (x ≤ y)).length
/-! wropes -/
/-! anyrow -/
/-! live -/
/-! near -/
/-! wdue -/
/-! fit -/
theorem ints_lay : ∀ ns : List Int, PyData.canLayAll0 (ns.map .int) = true
  | [] => rfl
  | n :: ns => by
    show (PyData.canLay0 (.int n) && PyData.canLayAll0 (ns.map .int)) = true
    rw [ints_lay ns]; rfl
theorem cut_to (xs : List V) (i : Nat) : cutV xs none (some (i : Int)) = xs.take i := by
  unfold cutV
  rw [HT.sIx_nat]
  show (xs.drop 0).take (min i xs.length - 0) = _
  rw [List.drop_zero, Nat.sub_zero]
  by_cases h : i ≤ xs.length
  · rw [Nat.min_eq_left h]
  · rw [Nat.min_eq_right (by omega), List.take_of_length_le (Nat.le_refl _), List.take_of_length_le (by omega)]
theorem cut_from (xs : List V) (i : Nat) : cutV xs (some (i : Int)) none = xs.drop i := by
  unfold cutV
  rw [HT.sIx_nat]
  show (xs.drop (min i xs.length)).take (xs.length - min i xs.length) = _
  by_cases h : i ≤ xs.length
  · rw [Nat.min_eq_left h, List.take_of_length_le (by rw [List.length_drop]; exact Nat.le_refl _)]
  · rw [Nat.min_eq_right (by omega), List.drop_of_length_le (Nat.le_refl _), List.drop_of_length_le (by omega)]
    simp
/-! truth -/
/-! ownrows -/
/-! townat -/
/-! own -/
/-! due -/
/-! resting -/
/-! rowsdata -/
theorem cut_ints (ns : List Int) (a b : Nat) : ∃ cs : List Int, cutV (ns.map V.int) (some (a : Int)) (some (b : Int)) = cs.map V.int ∧ cs.length ≤ b - a := by
  refine ⟨(ns.drop (HT.sIx ns.length 0 (some (a : Int)))).take (HT.sIx ns.length ns.length (some (b : Int)) - HT.sIx ns.length 0 (some (a : Int))), ?_, ?_⟩
  · unfold cutV
    rw [List.length_map, List.map_take, List.map_drop]
  · rw [HT.sIx_nat, HT.sIx_nat, List.length_take, List.length_drop]
    omega
/-! sets, rounds -/
/-! rests -/
/-! labels; what leads on, as data -/
/-! the best of what leads on -/
end TW
/-! smaller proof terms -/
namespace TW
open PySem L2 PyProof.Rows
end TW

set_option Elab.async false
set_option linter.all false
set_option maxRecDepth 100000
set_option maxHeartbeats 4000000
/-! DATA 2: by what houses hang -/
namespace TW
open PySem L2 PyProof.Rows
open RM (rowV byV byV_non byV_int)
seal L2.PE L2.PA L2.PT L2.PW L2.PS L2.PSs L2.PG L2.PGs L2.PI L2.PTs
section
open Classical
end
/-! what a law tells of a town -/
end TW

set_option Elab.async false
set_option linter.all false
set_option maxRecDepth 100000
/-! EXTENSION 15: sorted of a list of ints -/
namespace L2
open PySem PySem.Spec PyProof.Rows
end L2

set_option Elab.async false
set_option linter.all false
set_option maxRecDepth 100000
set_option maxHeartbeats 4000000
/-! DATA 3: ways up, open ropes -/
namespace TW
open PySem L2 PyProof.Rows
open RM (rowV byV byV_non byV_int)
seal L2.PE L2.PA L2.PT L2.PW L2.PS L2.PSs L2.PG L2.PGs L2.PI L2.PTs
end TW

set_option Elab.async false
set_option linter.all false
set_option maxRecDepth 100000
set_option maxHeartbeats 4000000
/-! DATA 4: the pairs of open ropes -/
namespace TW
open PySem L2 PyProof.Rows Gr
open RM (rowV byV byV_non byV_int)
end TW

set_option Elab.async false
set_option linter.all false
set_option maxRecDepth 100000
/-! EXTENSION 16: list(reversed(xs)), list(range(a, b)) -/
namespace L2
open PySem PySem.Calls PySem.Spec PyProof.Rows PyProof.V PySem.W
end L2
namespace L2
open PySem PySem.Calls PySem.Spec PyProof.Rows PyProof.V PySem.W
end L2

set_option Elab.async false
set_option linter.all false
set_option maxRecDepth 100000
set_option maxHeartbeats 4000000
/-! DATA 5: one way at most where ropes hold no ring -/
namespace Gr
end Gr
namespace TW
open PySem L2 PyProof.Rows Gr
end TW

set_option Elab.async false
set_option linter.all false
set_option maxRecDepth 100000
/-! EXTENSION 17: list(range(a, b)) -/
namespace L2
open PySem PySem.Calls PySem.Spec PyProof.Rows PyProof.V PySem.W
end L2
namespace TW
open PySem L2 PyProof.Rows Gr
end TW

set_option Elab.async false
set_option linter.all false
set_option maxRecDepth 100000
/-! strands: the wires that stand -/
namespace TW
open PySem L2 PyProof.Rows
end TW

set_option Elab.async false
set_option linter.all false
set_option maxRecDepth 100000
/-! EXTENSION 18: any -/
namespace L2
open PySem PySem.Spec PyProof.Rows
end L2

set_option Elab.async false
set_option linter.all false
set_option maxRecDepth 100000
/-! live ropes by strands; two sets of strands -/
namespace TW
open PySem L2 PyProof.Rows
end TW

set_option Elab.async false
set_option linter.all false
set_option maxRecDepth 100000
namespace TW
open PySem L2 PyProof.Rows
end TW

set_option Elab.async false
set_option linter.all false
set_option maxRecDepth 100000
/-! EXTENSION 19: isinstance of own instances, a def of a class called by the class's name, one of several readings -/
namespace L2
open PySem PySem.Spec PyProof.Rows
end L2

set_option Elab.async false
set_option linter.all false
set_option maxRecDepth 100000
/-! letters -/
namespace TW
open PySem L2 PyProof.Rows
theorem iteFe {b : Bool} {A B : Prop} (e : b = false) (h : B) : if b = true then A else B := by subst e; exact iteF h
end TW

set_option Elab.async false
set_option linter.all false
set_option maxRecDepth 100000
/-! EXTENSION 20: what the sort of fewer than 64 items makes, by any order that is asked -/
namespace L2
open PySem PySem.W PyProof.Rows
section
variable {n : Nat} {r : Nat → Int} {cmp : Nat → Nat → (Bool → Shared → Prop) → Shared → Prop} {s : Shared}
variable (hc : ∀ i j C, i < n → j < n → C (decide (r i < r j)) s → cmp i j C s)
include hc
end
end L2

set_option Elab.async false
set_option linter.all false
set_option maxRecDepth 100000
/-! EXTENSION 21: sorted of a list of triples of ints -/
namespace L2
open PySem PySem.W PySem.Spec PyProof.Rows
end L2

set_option Elab.async false
set_option linter.all false
set_option maxRecDepth 100000
/-! EXTENSION 22: the items of a dict whose keys are tuples -/
namespace L2
open PySem PySem.W PySem.Spec PyProof.Rows
/-! ### the machine's own steps, for any dict -/
end L2

set_option Elab.async false
set_option linter.all false
set_option maxRecDepth 100000
/-! EXTENSION 23: for k, v in d.items() -/
namespace L2
open PySem PySem.W PySem.Spec PyProof.Rows
end L2

set_option Elab.async false
set_option linter.all false
set_option maxRecDepth 100000
namespace L2
end L2
/-! notes -/
namespace TW
open PySem L2 PyProof.Rows
def NoTup (u : HO) : Prop := ∀ xs, u ≠ .tup xs ∧ ∀ o, u ≠ .frz o (.tup xs)
theorem nt_lst {ys : List V} : NoTup (.lst ys) := fun xs => ⟨fun e => (by cases e), fun o e => (by cases e)⟩
theorem SqT.past {K : PySem.W.Frag} {H H' : Hp} {z a : Addr} {u : HO} {xs : List V} (hz : H z = some u) (nt : NoTup u) (keep : ∀ b v, H b = some v → b ≠ z → H' b = some v) (h : SqT K H a xs) : SqT K H' a xs := by
  rcases h with (h | ⟨o, h⟩) | h
  · exact .inl (.inl (keep _ _ h fun e => by subst e; rw [hz] at h; exact (nt xs).1 (Option.some.inj h)))
  · exact .inl (.inr ⟨o, keep _ _ h fun e => by subst e; rw [hz] at h; exact (nt xs).2 o (Option.some.inj h)⟩)
  · exact .inr h
theorem upd_keep {H : Hp} {z : Addr} {o : HO} : ∀ b v, H b = some v → b ≠ z → (upd H z o) b = some v := fun b v e nb => by rw [upd_ne nb]; exact e
/-! two books -/
end TW

set_option Elab.async false
set_option linter.all false
set_option maxRecDepth 100000
/-! EXTENSION 24: a walk over the keys of a dict whose keys are tuples -/
namespace L2
open PySem PySem.W PySem.Spec PyProof.Rows
end L2

set_option Elab.async false
set_option linter.all false
set_option maxRecDepth 100000
/-! comprehensions whose items are flat; what a house does with a letter -/
namespace TW
open PySem L2 PyProof.Rows
theorem comp_opt {J : It} {n : Nat} {cap : List (Option Nat)} {g : TG} {tc : TT} {te : TE} {σ : L2.St} {Qr : Hp → Prop} {H1 : Hp} {acc : Addr} (it : Nat → V) (f : Nat → Option V) (hacc : H1 acc = none)
    (go : ∀ i H, i < n → Same H1 H → J.go i H) (stop : ∀ H, Same H1 H → J.stop n H) (yld : ∀ i H x H', i < n → Same H1 H → J.yld i H x H' → H' = H ∧ x = it i) (hn : n ≤ 1000)
    (step : ∀ (i : Nat) (H : Hp) (R : V → Hp → Prop) (S : Hp → Prop), i < n → Same H1 H → (∀ y H', Same H H' → f i = some y → R y H') → (∀ H', Same H H' → f i = none → S H') →
      g (it i) (capSt cap σ) H fun σ2 H2 => tc σ2 H2 fun b H3 => if b = true then te σ2 H3 R else S H3)
    (fin : ∀ H, Same H1 H → H acc = some (.lst ((List.range n).filterMap f)) → Qr H) :
    ∃ W : Nat → Nat → Hp → Prop, (∃ m, W 0 m (upd H1 acc (.lst []))) ∧ ∀ i m H, W i m H →
      (J.stop i H ∧ Qr H) ∨ (J.go i H ∧ ∀ x H', J.yld i H x H' → g x (capSt cap σ) H' fun σ2 H2 => tc σ2 H2 fun b H3 => if b = true then te σ2 H3 fun y H4 => ∃ xs, H4 acc = some (.lst xs) ∧ xs.length < sizeLine ∧
        ∃ m', m' < m ∧ W (i + 1) m' (upd H4 acc (.lst (xs ++ [y]))) else ∃ m', m' < m ∧ W (i + 1) m' H3) := by
  have hlen : ∀ i, ((List.range i).filterMap f).length ≤ i := fun i => by
    have := List.length_filterMap_le f (List.range i)
    rwa [List.length_range] at this
  refine comp_by (n := n) (fun i ys _ => ys = (List.range i).filterMap f) hacc go stop rfl ?_ ?_
  · rintro i ys H hi s hy rfl x H' hx
    obtain ⟨rfl, rfl⟩ := yld i H x H' hi s hx
    have e : (List.range (i + 1)).filterMap f = (List.range i).filterMap f ++ (f i).toList := by
      rw [List.range_succ, List.filterMap_append]
      cases h : f i <;> simp [h]
    refine step i H' _ _ hi s (fun y H4 s4 hf => ?_) (fun H3 s3 hf => ?_)
    · refine comp_add hacc hi (s.trans s4) (s4 _ _ hy) (small1000 (Nat.le_trans (hlen i) (Nat.le_trans (Nat.le_of_lt hi) hn))) ?_
      show _ = (List.range (i + 1)).filterMap f
      rw [e, hf]
      rfl
    · refine comp_skip hi (s.trans s3) (s3 _ _ hy) ?_
      show _ = (List.range (i + 1)).filterMap f
      rw [e, hf]
      simp
  · rintro ys H s hy rfl
    exact fin H s hy
/-- over range(n) -/
theorem comp_rng {acc : Addr} {n : Nat} {cap : List (Option Nat)} {g : TG} {tc : TT} {te : TE} {σ : L2.St} {Qr : Hp → Prop} {H1 : Hp} (F : Nat → Option V) (hacc : H1 acc = none) (hn : n ≤ 1000)
    (step : ∀ (i : Nat) (H : Hp) (R : V → Hp → Prop) (S : Hp → Prop), i < n → Same H1 H → (∀ y H', Same H H' → F i = some y → R y H') → (∀ H', Same H H' → F i = none → S H') →
      g (.int i) (capSt cap σ) H fun σ2 H2 => tc σ2 H2 fun b H3 => if b = true then te σ2 H3 R else S H3)
    (fin : ∀ H, Same H1 H → H acc = some (.lst ((List.range n).filterMap F)) → Qr H) :
    ∃ W : Nat → Nat → Hp → Prop, (∃ m, W 0 m (upd H1 acc (.lst []))) ∧ ∀ i m H, W i m H →
      ((Itr 0 n).stop i H ∧ Qr H) ∨ ((Itr 0 n).go i H ∧ ∀ x H', (Itr 0 n).yld i H x H' → g x (capSt cap σ) H' fun σ2 H2 => tc σ2 H2 fun b H3 => if b = true then te σ2 H3 fun y H4 => ∃ xs, H4 acc = some (.lst xs) ∧ xs.length < sizeLine ∧
        ∃ m', m' < m ∧ W (i + 1) m' (upd H4 acc (.lst (xs ++ [y]))) else ∃ m', m' < m ∧ W (i + 1) m' H3) :=
  comp_opt (n := n) (fun i => V.int i) F hacc itr_go itr_stop (fun i H x H' hi s hx => by
    obtain ⟨rfl, rfl⟩ := hx
    exact ⟨rfl, by rw [Int.zero_add]⟩) hn step fin
/-! a rope or None -/
end TW

set_option Elab.async false
set_option linter.all false
set_option maxRecDepth 100000
/-! texts: joined and split -/
namespace TX
open PySem PySem.StrLaws PySem.Builtin PySem.Builtin.Str
abbrev cs (x : Str) : List Nat := x.cps.toList
theorem cs_inj {x y : Str} (h : cs x = cs y) : x = y := Str.ext' (Array.toList_inj.mp h)
theorem cs_app (a b : Str) : cs (a ++ b) = cs a ++ cs b := by
  show (Str.append a b).cps.toList = _
  simp [Str.append, cs]
theorem cs_len (x : Str) : (cs x).length = x.length := Array.length_toList
def inter (sep : List Nat) : List (List Nat) → List Nat
  | [] => []
  | [p] => p
  | p :: q :: r => p ++ (sep ++ inter sep (q :: r))
theorem cs_join (sep : Str) : ∀ l : List Str, cs (Str.join sep l) = inter (cs sep) (l.map cs)
  | [] => rfl
  | [x] => rfl
  | x :: y :: r => by
    show cs (x ++ sep ++ Str.join sep (y :: r)) = cs x ++ (cs sep ++ inter (cs sep) ((y :: r).map cs))
    rw [cs_app, cs_app, cs_join sep (y :: r), List.append_assoc]
theorem cut {c : Nat} : ∀ {p q X Y : List Nat}, c ∉ p → c ∉ q → p ++ c :: X = q ++ c :: Y → p = q ∧ X = Y
  | [], [], X, Y, _, _, h => ⟨rfl, (List.cons.inj h).2⟩
  | [], b :: q, X, Y, _, hq, h => absurd (List.cons.inj h).1 fun e => hq (e ▸ List.mem_cons_self ..)
  | a :: p, [], X, Y, hp, _, h => absurd (List.cons.inj h).1 fun e => hp (e ▸ List.mem_cons_self ..)
  | a :: p, b :: q, X, Y, hp, hq, h => by
    have h1 := List.cons.inj h
    obtain ⟨e1, e2⟩ := cut (fun z => hp (List.mem_cons_of_mem _ z)) (fun z => hq (List.mem_cons_of_mem _ z)) h1.2
    exact ⟨by rw [h1.1, e1], e2⟩
theorem inter_inj {c : Nat} {t : List Nat} : ∀ {l m : List (List Nat)}, l ≠ [] → m ≠ [] → (∀ p ∈ l, c ∉ p) → (∀ p ∈ m, c ∉ p) → inter (c :: t) l = inter (c :: t) m → l = m
  | [], _, h, _, _, _, _ => absurd rfl h
  | _ :: _, [], _, h, _, _, _ => absurd rfl h
  | [p], [q], _, _, _, _, h => by rw [show p = q from h]
  | [p], q :: q' :: r, _, _, hl, _, h => by
    have h : p = q ++ (c :: t ++ inter (c :: t) (q' :: r)) := h
    exact absurd (by rw [h]; simp) (hl p (List.mem_cons_self ..))
  | p :: p' :: r, [q], _, _, _, hm, h => by
    have h : p ++ (c :: t ++ inter (c :: t) (p' :: r)) = q := h
    exact absurd (by rw [← h]; simp) (hm q (List.mem_cons_self ..))
  | p :: p' :: r, q :: q' :: s, _, _, hl, hm, h => by
    have h : p ++ c :: (t ++ inter (c :: t) (p' :: r)) = q ++ c :: (t ++ inter (c :: t) (q' :: s)) := h
    obtain ⟨e1, e2⟩ := cut (hl p (List.mem_cons_self ..)) (hm q (List.mem_cons_self ..)) h
    have e3 := inter_inj (by simp) (by simp) (fun x hx => hl x (List.mem_cons_of_mem _ hx)) (fun x hx => hm x (List.mem_cons_of_mem _ hx)) (List.append_cancel_left e2)
    rw [e1, e3]
theorem inter_at {c : Nat} {t : List Nat} (ht : c ∉ t) : ∀ {l : List (List Nat)} {k : Nat}, (∀ p ∈ l, c ∉ p) → (inter (c :: t) l)[k]? = some c → ((inter (c :: t) l).drop k).take (t.length + 1) = c :: t
  | [], k, _, h => by simp [inter] at h
  | [p], k, hl, h => absurd (List.mem_of_getElem? h) (hl p (List.mem_cons_self ..))
  | p :: q :: r, k, hl, h => by
    have e : inter (c :: t) (p :: q :: r) = p ++ (c :: t ++ inter (c :: t) (q :: r)) := rfl
    rw [e] at h ⊢
    by_cases h1 : k < p.length
    · rw [List.getElem?_append_left h1] at h
      exact absurd (List.mem_of_getElem? h) (hl p (List.mem_cons_self ..))
    · rw [List.getElem?_append_right (by omega)] at h
      rw [List.drop_append, List.drop_eq_nil_of_le (by omega), List.nil_append]
      generalize k - p.length = j at h
      by_cases h2 : j < (c :: t).length
      · rw [List.getElem?_append_left h2] at h
        cases j with
        | zero => simp
        | succ j => exact absurd (List.mem_of_getElem? (by simpa using h)) ht
      · rw [List.getElem?_append_right (by omega)] at h
        have := inter_at ht (fun x hx => hl x (List.mem_cons_of_mem _ hx)) h
        rw [List.drop_append, List.drop_eq_nil_of_le (by omega), List.nil_append]
        exact this
theorem split_ne (x y : Str) : Txt.split x y ≠ [] := by
  unfold Txt.split
  split
  · simp
  · split
    · simp
    · rw [partsBetween_eq]
      obtain ⟨p, r, e⟩ := partsFrom_ne x y.length 0 (occurrences x y 0 x.length (x.length + 1))
      rw [e]
      simp
theorem map_cs_inj : ∀ {l m : List Str}, l.map cs = m.map cs → l = m
  | [], [], _ => rfl
  | [], _ :: _, h => by simp at h
  | _ :: _, [], h => by simp at h
  | x :: l, y :: m, h => by
    have h1 := List.cons.inj h
    rw [cs_inj h1.1, map_cs_inj h1.2]
theorem split_uniq {y : Str} {c : Nat} {t : List Nat} {ws : List Str} (hy : cs y = c :: t) (hw : ws ≠ []) (hf : ∀ w ∈ ws, c ∉ cs w) (hs : ∀ p ∈ Txt.split (Str.join y ws) y, c ∉ cs p) : Txt.split (Str.join y ws) y = ws := by
  have h := congrArg cs (join_split (Str.join y ws) y)
  rw [cs_join, cs_join, hy] at h
  refine map_cs_inj (inter_inj (c := c) (t := t) ?_ ?_ ?_ ?_ h)
  · intro e
    exact split_ne _ _ (List.map_eq_nil_iff.mp e)
  · intro e
    exact hw (List.map_eq_nil_iff.mp e)
  · intro p hp
    obtain ⟨q, hq, rfl⟩ := List.mem_map.mp hp
    exact hs q hq
  · intro p hp
    obtain ⟨q, hq, rfl⟩ := List.mem_map.mp hp
    exact hf q hq
theorem part_free2 {x y : Str} {c : Nat} (hx : ∀ k, (cs x)[k]? = some c → At x y x.length k) {a b : Nat} (hn : ∀ k, a ≤ k → k < b → ¬ At x y x.length k) : c ∉ cs (strSub x a b) := by
  intro hm
  have hm : c ∈ ((cs x).drop a).take (b - a) := by rw [← strSub_toList]; exact hm
  obtain ⟨j, hj⟩ := List.getElem?_of_mem hm
  have hlt : j < b - a := by
    have h1 := (List.getElem?_eq_some_iff.mp hj).1
    rw [List.length_take] at h1
    omega
  rw [List.getElem?_take_of_lt hlt, List.getElem?_drop] at hj
  exact hn (a + j) (by omega) (by omega) (hx _ hj)
theorem parts_free2 {x y : Str} {c : Nat} (hx : ∀ k, (cs x)[k]? = some c → At x y x.length k) : ∀ (cuts : List Nat) (a f : Nat), ChainG x y x.length a cuts f → (∀ k, f ≤ k → ¬ At x y x.length k) → ∀ p ∈ partsFrom x y.length a cuts, c ∉ cs p
  | [], a, f, h, hn, p, hp => by
    have e : f = a := h
    subst e
    rw [List.mem_singleton.mp hp]
    exact part_free2 hx fun k h1 _ => hn k h1
  | d :: r, a, f, h, hn, p, hp => by
    obtain ⟨h1, h2, h3, h4⟩ := h
    rcases List.mem_cons.mp hp with e | hp'
    · rw [e]
      exact part_free2 hx h3
    · exact parts_free2 hx r _ f h4 hn p hp'
theorem split_two {y : Str} {c : Nat} {t : List Nat} {ws : List Str} (hy : cs y = c :: t) (ht : c ∉ t) (hk : PySem.Builtin.Str.strKind y = 1) (hw : ws ≠ []) (hf : ∀ w ∈ ws, c ∉ cs w) : Txt.split (Str.join y ws) y = ws := by
  have hx : ∀ k, (cs (Str.join y ws))[k]? = some c → At (Str.join y ws) y (Str.join y ws).length k := fun k h => by
    have e := cs_join y ws
    rw [hy] at e
    have h2 := h
    rw [e] at h
    have h3 := inter_at ht (fun p hp => by
      obtain ⟨q, hq, rfl⟩ := List.mem_map.mp hp
      exact hf q hq) h
    rw [← e] at h3
    have hl : y.length = t.length + 1 := by rw [← cs_len, hy]; rfl
    refine ⟨?_, ?_⟩
    · have := congrArg List.length h3
      rw [List.length_take, List.length_drop, cs_len] at this
      simp only [List.length_cons] at this
      omega
    · rw [subAt_eq, hl]
      show (List.take (t.length + 1) (List.drop k (cs (Str.join y ws))) == cs y) = true
      rw [h3, hy]
      exact beq_self_eq_true _
  refine split_uniq hy hw hf fun p hp => ?_
  have hl1 : 1 ≤ y.length := by rw [← cs_len, hy]; simp
  have nk : ∀ x : Str, ¬ PySem.Builtin.Str.strKind x < PySem.Builtin.Str.strKind y := fun x => by
    rw [hk]
    unfold PySem.Builtin.Str.strKind
    split
    · omega
    · split <;> omega
  generalize Str.join y ws = x at hx hp
  have whole : (∀ k, ¬ At x y x.length k) → ∀ p ∈ [x], c ∉ cs p := fun h p hp => by
    rw [List.mem_singleton.mp hp]
    intro hm
    obtain ⟨k, hk⟩ := List.getElem?_of_mem hm
    exact h k (hx k hk)
  obtain ⟨f, hG, hn⟩ := occ_tight x y hl1
  unfold Txt.split at hp
  split at hp
  · rename_i hc
    rw [Bool.or_eq_true, decide_eq_true_eq, decide_eq_true_eq] at hc
    rcases hc with h | h
    · exact whole (fun k hA => by have := hA.1; omega) p hp
    · exact absurd h (nk x)
  · split at hp
    · rename_i he
      have e0 : occurrences x y 0 x.length (x.length + 1) = [] := by simpa using he
      rw [e0] at hG
      have ef : f = 0 := hG
      subst ef
      exact whole (fun k => hn k (Nat.zero_le _)) p hp
    · rw [partsBetween_eq] at hp
      exact parts_free2 hx _ _ f hG hn p hp
end TX

set_option Elab.async false
set_option linter.all false
set_option maxRecDepth 100000
/-! numbers as they are written -/
namespace TX
open PySem PySem.StrLaws PySem.Builtin PySem.Builtin.Str PySem.NumText
abbrev num (n : Int) : Str := Str.ofString (toString n)
theorem num_cs (m : Nat) : cs (num m) = (Nat.toDigits 10 m).map Char.toNat := PySem.W.KIN.signs_num m
theorem dig_step {m : Nat} (h : ¬ m < 10) : Nat.toDigits 10 m = Nat.toDigits 10 (m / 10) ++ [Nat.digitChar (m % 10)] := by
  have hm : m % 10 < 10 := Nat.mod_lt m (by decide)
  have t : Nat.toDigits 10 (m / 10) ++ Nat.toDigits 10 (m % 10) = Nat.toDigits 10 (10 * (m / 10) + m % 10) := Nat.toDigits_append_toDigits (by decide) (by omega) hm
  rw [Nat.div_add_mod, Nat.toDigits_of_lt_base hm] at t
  exact t.symm
theorem dig_len : ∀ (k m : Nat), 1 ≤ k → m < 10 ^ k → (Nat.toDigits 10 m).length ≤ k
  | 0, _, h, _ => absurd h (by decide)
  | k + 1, m, _, h => by
    by_cases h1 : m < 10
    · rw [Nat.toDigits_of_lt_base h1]
      show 1 ≤ k + 1
      omega
    · rw [dig_step h1, List.length_append]
      have h2 : m / 10 < 10 ^ k := by
        rw [Nat.pow_succ] at h
        exact Nat.div_lt_of_lt_mul (by omega)
      have hk : 1 ≤ k := by
        cases k with
        | zero => simp at h; omega
        | succ k => omega
      exact Nat.succ_le_succ (dig_len k _ hk h2)
theorem dig_pos (m : Nat) : Nat.toDigits 10 m ≠ [] := by
  by_cases h : m < 10
  · rw [Nat.toDigits_of_lt_base h]; simp
  · rw [dig_step h]; simp
theorem dig_rng {c m : Nat} (h : c ∈ (Nat.toDigits 10 m).map Char.toNat) : 48 ≤ c ∧ c ≤ 57 := by
  obtain ⟨ch, hch, e⟩ := List.mem_map.mp h
  have r := PyProof.Rows.digit_range (Nat.isDigit_of_mem_toDigits (by decide) (by decide) hch)
  rw [← e]
  exact r
/-- a number that may be written -/
abbrev Wr (n : Int) : Prop := 0 ≤ n ∧ n < 10 ^ 60
theorem num_len {n : Int} (h : Wr n) : 1 ≤ (num n).length ∧ (num n).length ≤ 60 := by
  obtain ⟨m, rfl⟩ := Int.eq_ofNat_of_zero_le h.1
  have hm : m < 10 ^ 60 := by have := h.2; exact_mod_cast this
  rw [← cs_len, num_cs, List.length_map]
  exact ⟨List.length_pos_iff.mpr (dig_pos _), dig_len 60 m (by decide) hm⟩
theorem num_rng {n : Int} (h : 0 ≤ n) : ∀ c ∈ cs (num n), 48 ≤ c ∧ c ≤ 57 := fun c hc => by
  obtain ⟨m, rfl⟩ := Int.eq_ofNat_of_zero_le h
  rw [num_cs] at hc
  exact dig_rng hc
theorem num_ascii {n : Int} (h : 0 ≤ n) : (num n).cps.all (· < 128) = true := by
  rw [← Array.all_toList, List.all_eq_true]
  intro c hc
  have := num_rng h c hc
  exact decide_eq_true (by omega)
end TX

set_option Elab.async false
set_option linter.all false
set_option maxRecDepth 100000
/-! a town's text -/
namespace TX
open PySem PySem.StrLaws PySem.Builtin PySem.Builtin.Str
abbrev sep1 : Str := " "
abbrev sep2 : Str := "; "
theorem join_eq (s : Str) (l : List Str) : Txt.join s l = Str.join s l := glued_eq_join s l
theorem sum_le {B : Nat} : ∀ {l : List Nat}, (∀ x ∈ l, x ≤ B) → l.sum ≤ l.length * B
  | [], _ => by simp
  | x :: l, h => by
    have h1 := h x (List.mem_cons_self ..)
    have h2 := sum_le fun y hy => h y (List.mem_cons_of_mem _ hy)
    rw [List.sum_cons, List.length_cons, Nat.succ_mul]
    omega
end TX

set_option Elab.async false
set_option linter.all false
set_option maxRecDepth 100000
/-! EXTENSION 25: texts: split, join, int of a text, a walk over a text's signs -/
namespace L2
open PySem PySem.W PySem.Spec PyProof.Rows
section
variable {X : Cx}
theorem vals_strs : ∀ (ys : List Str) (t : Nat), Vals (ys.map V.str) (strsFrom t ys)
  | [], _ => .nil
  | y :: ys, t => .cons ⟨t, rfl⟩ (vals_strs ys (t + 1))
theorem strs_vals : ∀ {ys : List Str} {us : List Value}, Vals (ys.map V.str) us → StrsAre us ys
  | [], _, h => by
    have := h.zero
    subst this
    exact .nil
  | y :: ys, us, h => by
    cases h with
    | cons r t =>
      obtain ⟨k, rfl⟩ := r
      exact .cons y k (strs_vals t)
theorem split_len (x y : Str) : (Txt.split x y).length ≤ x.length + 2 := by
  unfold Txt.split
  split
  · show 1 ≤ _; omega
  · split
    · show 1 ≤ _; omega
    · rw [StrLaws.partsBetween_eq]
      have h := StrLaws.occ_length_le x y 0 x.length (x.length + 1)
      generalize Builtin.Str.occurrences x y 0 x.length (x.length + 1) = cuts at h
      have e : ∀ (cuts : List Nat) (a : Nat), (StrLaws.partsFrom x y.length a cuts).length = cuts.length + 1 := fun cuts => by
        induction cuts with
        | nil => intro a; rfl
        | cons c cs ih => intro a; show _ + 1 = _; rw [ih]; rfl
      rw [e]
      omega
def rSplit : V → List V → Hp → VK → Prop := fun x vs H Q => ∃ z y, x = .str z ∧ vs = [.str y] ∧ (y.length == 0) = false ∧ z.length ≤ 100000 ∧ ∀ l, H l = none → Q (.ref l) (upd H l (.lst ((Txt.split z y).map V.str)))
theorem mt_split : MtR X "str.split" rSplit := by
  intro pins s σ H x vs v us Q I rx rv h
  obtain ⟨z, y, rfl, rfl, hy, hz, q⟩ := h
  obtain ⟨t, rfl⟩ := rx
  obtain ⟨u, rfl, ru⟩ := rv.one
  obtain ⟨t2, rfl⟩ := ru
  have hs : sizeLine = 16777216 := by decide
  have hlen := split_len z y
  have fin : ∀ (its : List Value) (k : Nat), Vals ((Txt.split z y).map V.str) its → EP X pins σ Q (.ref s.heap.objs.size) { s with heap := s.heap.push { cls := .type "list", data := .seq its.toArray }, toks := k } := fun its k r =>
    ⟨.ref s.heap.objs.size, _, I.laid (t' := k) (fun b o e => Heap.get?_push_of_some _ e) (Nat.le_refl _) (show ObjOk X.prog X.w _ _ _ (.lst ((Txt.split z y).map V.str)) from ⟨by rw [List.length_map]; omega, its, 0, r, Heap.get?_push_size _ rfl⟩), rfl, q _ (I.hok.fresh (Nat.le_refl _))⟩
  cases h1 : (decide (z.length < y.length) || decide (Builtin.Str.strKind z < Builtin.Str.strKind y))
  · cases hf : (Builtin.Str.occurrences z y 0 z.length (z.length + 1)).isEmpty
    · have e : Txt.split z y = Builtin.Str.partsBetween z (Builtin.Str.occurrences z y 0 z.length (z.length + 1)) y.length := (if_neg (ne_true_of_eq_false h1)).trans (if_neg (ne_true_of_eq_false hf))
      refine call_meets F.slot_str_split (typeIs_str _ _ _) F.entry_str_split (F.args_str_split_2 _ _) (meets_str_split_sep z y t t2 h1 hy hf (by omega) (by rw [← e]; omega)) ?_
      exact fin _ _ (by rw [← e]; exact vals_strs _ _)
    · have e : Txt.split z y = [z] := (if_neg (ne_true_of_eq_false h1)).trans (if_pos hf)
      refine call_meets F.slot_str_split (typeIs_str _ _ _) F.entry_str_split (F.args_str_split_2 _ _) (meets_str_split_not_found z y t t2 h1 hy hf) ?_
      exact fin [Value.str z t] s.toks (by rw [e]; exact .cons ⟨t, rfl⟩ .nil)
  · have e : Txt.split z y = [z] := if_pos h1
    refine call_meets F.slot_str_split (typeIs_str _ _ _) F.entry_str_split (F.args_str_split_2 _ _) (meets_str_split_cannot_occur z y t t2 h1) ?_
    exact fin [Value.str z t] s.toks (by rw [e]; exact .cons ⟨t, rfl⟩ .nil)
def rJoin (K : PySem.W.Frag) : V → List V → Hp → VK → Prop := fun x vs H Q => ∃ z l ys, x = .str z ∧ vs = [.ref l] ∧ SqL K H l (ys.map V.str) ∧ (ys.map (·.length)).sum + ys.length * z.length ≤ 16777216 ∧ Q (.str (Txt.join z ys)) H
theorem mt_join : MtR X "str.join" (rJoin X.K) := by
  intro pins s σ H x vs v us Q I rx rv h
  obtain ⟨z, l, ys, rfl, rfl, hq, hs, q⟩ := h
  obtain ⟨t, rfl⟩ := rx
  obtain ⟨u, rfl, ru⟩ := rv.one
  cases ru
  obtain ⟨its, r, pl, hz⟩ := I.list hq
  exact join_list pl.isList (strs_vals r) hs fun t' k => ⟨.str _, H, I.tok k, ⟨t', rfl⟩, q⟩
theorem call_intS : CallR X (.type "int") (fun xs H Q => ∃ z n, xs = [.str z] ∧ PySem.intText? z = some n ∧ z.length ≤ 640 ∧ Q (.int n) H) := by
  intro pins s σ H xs us Q I r h
  obtain ⟨z, n, rfl, hn, hl, q⟩ := h
  obtain ⟨u, rfl, rx⟩ := vals1 r
  obtain ⟨t, rfl⟩ := rx
  exact KIN.call_text hn hl ⟨.int n, H, I.tok _, ⟨_, rfl⟩, q⟩
/-! signs -/
def Its (x : Str) : It := ⟨fun i _ => i < x.cps.size, fun i H v H' => H' = H ∧ ∃ c, x.cps[i]? = some c ∧ v = .str ⟨#[c]⟩, fun i _ => x.cps.size ≤ i⟩
theorem turn_str {P : Program} {w : World} {K : PySem.W.Frag} {tg : Expr} (it : Addr) (x : Str) (t : Tok) : Turn P w K tg (Its x) [it] it (fun i h => h.IsStrIter it "str_ascii_iterator" x t i) where
  mem := by simp
  obj := fun i h st b hb => by
    have e : b = it := by simpa using hb
    subst e
    obtain ⟨o, e, c, d⟩ := st
    exact ⟨o, e, fun v z => by rw [d] at z; cases z⟩
  keep := fun i h h' st k => by
    obtain ⟨o, e, c, d⟩ := st
    exact ⟨o, k it (by simp) _ e, c, d⟩
  item := by
    intro X hP hw hK hc i pins s σ H E I hf st hg
    subst hP hw hK
    have hg : i < x.cps.size := hg
    obtain ⟨f0, f1, f2, f3, f4, f5⟩ := hf it (by simp)
    refine wpAny_pyNext_ascii_item st (c := x.cps[i]) (by simp [hg]) fun h' st' sb => ?_
    have I1 : Inv X pins σ H { s with heap := h', toks := s.toks + 1 } := I.turned (t' := s.toks + 1) (fun b o hb e => (sb.2 b hb).trans e) f0 f1 f3 f4 f5
    obtain ⟨o, e, c, d⟩ := id st'
    exact ⟨_, rfl, go_of (s := { s with heap := h', toks := s.toks + 1 }) e c d (by decide) ⟨.str ⟨#[x.cps[i]]⟩, H, I1, ⟨_, rfl⟩, ⟨rfl, x.cps[i], by simp [hg], rfl⟩, st', fun b hb => (hf b hb).1⟩⟩
  done := by
    intro X hP hw hK hc i pins s σ H E I hf st hg
    subst hP hw hK
    have hg : x.cps.size ≤ i := hg
    obtain ⟨f0, f1, f2, f3, f4, f5⟩ := hf it (by simp)
    exact wpAny_pyNext_ascii_end (I.ok.hd hc) st (Array.getElem?_eq_none hg) fun h' eb => ⟨rfl, I.turned (t' := s.toks) (fun b o hb e => eb b o hb e) f0 f1 f3 f4 f5⟩
  self := fun _ _ _ _ _ st h => wpAny_pyIter_striter_ascii st h
def iStr (ts : TE) : TI := fun σ H R => ts σ H fun v H1 => ∃ x : Str, v = .str x ∧ x.cps.all (· < 128) = true ∧ R (Its x) H1
theorem pi_str {l tg : Expr} {ts : TE} (hl : PE X l ts) : PI X tg l (iStr ts) := by
  intro pins s σ H R I h
  refine thn (hl pins s σ H _ I h) fun v s1 ⟨y, H1, I1, r1, x, e, ha, q⟩ => ?_
  subst e
  obtain ⟨t, rfl⟩ := r1
  refine wpAny_pyIter_ascii ha ?_
  refine ⟨s1.heap.objs.size, [s1.heap.objs.size], _, _, H1, rfl, I1.kept (t' := s1.toks) fun b o e => Heap.get?_push_of_some _ e, turn_str _ x t, ⟨_, Heap.get?_push_size _ rfl, rfl, rfl⟩, fun b hb => ?_, q⟩
  have e : b = s1.heap.objs.size := by simpa using hb
  subst e
  exact I1.fpOk (Nat.le_refl _) (I1.hok.fresh (Nat.le_refl _))
theorem its_go {x : Str} {H1 : Hp} : ∀ i H, i < x.cps.size → Same H1 H → (Its x).go i H := fun i H hi s => hi
theorem its_stop {x : Str} {H1 : Hp} : ∀ H, Same H1 H → (Its x).stop x.cps.size H := fun H s => Nat.le_refl _
theorem pe_bmK (K : PySem.W.Frag) (hK : X.K = K) {o e : Expr} {es : List Expr} {to : TE} {t : TA} {name : Str} {apos cpos : Pos} {T id : String} {r : V → List V → Hp → VK → Prop} (pa : PlainAttrs T) (slot : Slot T name id) (hty : typeOf (.builtin id) = pure (.type "method_descriptor")) (hm : MtR X id r) (ho : PE X o to) (ha : PA X (e :: es) t)
    (hbase : attributeBase o name X.env (eval o X.env) = eval o X.env := by rfl)
    (hfew : ((backTo cpos (starEach (e :: es) X.env)).all (fun x => !x.1) && (backToKw cpos (keywordEach [] X.env)).all (fun x => x.1.isSome) && decide ((e :: es).length + ([] : List Keyword).length + (if ([] : List Keyword).isEmpty then 0 else 1) < 30)) = true := by rfl)
    (hline : (apos.endLine == cpos.line) = true := by rfl) (hs : starEach (e :: es) X.env = (false, eval e X.env) :: starEach es X.env := by rfl) (hplain : (backTo cpos (starEach es X.env)).any (·.1) = false := by rfl) :
    PE X (.Call (.Attribute o name apos) (e :: es) [] cpos) (tBM K T r to t) := by
  subst hK
  exact pe_bm pa slot hty hm ho ha hbase hfew hline hs hplain
end
end L2

set_option Elab.async false
set_option linter.all false
set_option maxRecDepth 100000
/-! EXTENSION 27: zip of two tuples -/
namespace L2
open PySem PySem.W PySem.Spec PyProof.Rows
end L2

set_option Elab.async false
set_option linter.all false
set_option maxRecDepth 100000
/-! EXTENSION 26: xs[::-1] -/
namespace L2
open PySem PySem.W PySem.Spec PyProof.Rows
end L2

set_option Elab.async false
set_option linter.all false
set_option maxRecDepth 100000
/-! lists of texts, lists of tuples of numbers -/
namespace TW
open PySem L2 PyProof.Rows
abbrev strsV (ws : List Str) : List V := ws.map V.str
structure TupsAt (K : PySem.W.Frag) (H : Hp) (qs : List Addr) (xss : List (List Int)) : Prop where
  len : qs.length = xss.length
  at' : ∀ (i : Nat) q xs, qs[i]? = some q → xss[i]? = some xs → SqT K H q (xs.map V.int)
theorem TupsAt.mono {K : PySem.W.Frag} {H H' : Hp} {qs : List Addr} {xss : List (List Int)} (s : Same H H') (h : TupsAt K H qs xss) : TupsAt K H' qs xss := ⟨h.len, fun i q xs a b => s.seqT (h.at' i q xs a b)⟩
theorem TupsAt.past {K : PySem.W.Frag} {H H' : Hp} {z : Addr} {u : HO} {qs : List Addr} {xss : List (List Int)} (hz : H z = some u) (nt : NoTup u) (kp : ∀ b v, H b = some v → b ≠ z → H' b = some v) (h : TupsAt K H qs xss) : TupsAt K H' qs xss :=
  ⟨h.len, fun i q xs a b => SqT.past hz nt kp (h.at' i q xs a b)⟩
theorem TupsAt.nil {K : PySem.W.Frag} {H : Hp} : TupsAt K H [] [] := ⟨rfl, fun i q xs h => by cases h⟩
theorem TupsAt.snoc {K : PySem.W.Frag} {H : Hp} {qs : List Addr} {xss : List (List Int)} {q : Addr} {xs : List Int} (h : TupsAt K H qs xss) (hq : SqT K H q (xs.map V.int)) : TupsAt K H (qs ++ [q]) (xss ++ [xs]) := by
  refine ⟨by rw [List.length_append, List.length_append, h.len]; rfl, fun i a u ha hu => ?_⟩
  by_cases z : i < qs.length
  · rw [List.getElem?_append_left z] at ha
    rw [List.getElem?_append_left (h.len ▸ z)] at hu
    exact h.at' i a u ha hu
  · have e : i = qs.length := by
      have := (List.getElem?_eq_some_iff.mp ha).1
      rw [List.length_append] at this
      have : i < qs.length + 1 := this
      omega
    subst e
    rw [List.getElem?_concat_length] at ha
    rw [h.len, List.getElem?_concat_length] at hu
    cases ha
    cases hu
    exact hq
/-- a list of tuples of numbers -/
def TL (K : PySem.W.Frag) (H : Hp) (l : Addr) (xss : List (List Int)) : Prop := ∃ qs : List Addr, H l = some (.lst (qs.map V.ref)) ∧ TupsAt K H qs xss
theorem TL.push {K : PySem.W.Frag} {H : Hp} {l q : Addr} {xss : List (List Int)} {xs : List Int} {qs : List Addr} (h1 : H l = some (.lst (qs.map V.ref))) (h2 : TupsAt K H qs xss) (hq : SqT K H q (xs.map V.int)) : TL K (upd H l (.lst (qs.map V.ref ++ [.ref q]))) l (xss ++ [xs]) :=
  ⟨qs ++ [q], by rw [upd_same, List.map_append]; rfl, TupsAt.past h1 nt_lst upd_keep (h2.snoc hq)⟩
/-- lists of words -/
structure LLs (H : Hp) (ps : List Addr) (wss : List (List Str)) : Prop where
  len : ps.length = wss.length
  at' : ∀ (i : Nat) p ws, ps[i]? = some p → wss[i]? = some ws → H p = some (.lst (strsV ws))
theorem LLs.mono {H H' : Hp} {ps : List Addr} {wss : List (List Str)} (s : Same H H') (h : LLs H ps wss) : LLs H' ps wss := ⟨h.len, fun i p ws a b => s _ _ (h.at' i p ws a b)⟩
theorem LLs.snoc {H : Hp} {ps : List Addr} {wss : List (List Str)} {p : Addr} {ws : List Str} (h : LLs H ps wss) (hp : H p = some (.lst (strsV ws))) : LLs H (ps ++ [p]) (wss ++ [ws]) := by
  refine ⟨by rw [List.length_append, List.length_append, h.len]; rfl, fun i a u ha hu => ?_⟩
  by_cases z : i < ps.length
  · rw [List.getElem?_append_left z] at ha
    rw [List.getElem?_append_left (h.len ▸ z)] at hu
    exact h.at' i a u ha hu
  · have e : i = ps.length := by
      have := (List.getElem?_eq_some_iff.mp ha).1
      rw [List.length_append] at this
      have : i < ps.length + 1 := this
      omega
    subst e
    rw [List.getElem?_concat_length] at ha
    rw [h.len, List.getElem?_concat_length] at hu
    cases ha
    cases hu
    exact hp
end TW

set_option Elab.async false
set_option linter.all false
set_option maxRecDepth 100000
/-! a net in the heap: what lies where -/
namespace TW
open PySem L2 PyProof.Rows
inductive Role where
  | net | strands | upright | wires (i : Nat) | rowsO | rows (g : Nat) | booksO | book (g : Nat) | notes (g : Nat)
  | homes | groups | handedO | handed (c : Nat) | letters | posted (i : Nat) | letter (i : Nat) | done (i : Nat) | deeds (i : Nat) | copies
  deriving DecidableEq
/-! what a net holds -/
/-! building a net: stage by stage -/
end TW

set_option Elab.async false
set_option linter.all false
set_option maxRecDepth 100000
/-! what is read of a net -/
namespace TW
open PySem L2 PyProof.Rows
end TW
namespace TW
open PySem L2 PyProof.Rows
end TW

set_option Elab.async false
set_option linter.all false
set_option maxRecDepth 100000
/-! what lies beside the nets -/
namespace TW
open PySem L2 PyProof.Rows
end TW

set_option Elab.async false
set_option linter.all false
set_option maxRecDepth 100000
/-! EXTENSION 28: a def whose last parameter has a default -/
namespace L2
open PySem PySem.Spec PyProof.Rows
end L2

set_option Elab.async false
set_option linter.all false
set_option maxRecDepth 100000
/-! a net with letters: one change each -/
namespace TW
open PySem L2 PyProof.Rows
end TW

set_option Elab.async false
set_option linter.all false
set_option maxRecDepth 100000
/-! a letter is posted: four new places -/
namespace TW
open PySem L2 PyProof.Rows
end TW

set_option Elab.async false
set_option linter.all false
set_option maxRecDepth 100000
/-! EXTENSION 29: a block [..] whose item may raise -/
namespace L2
open PySem PySem.Spec PyProof.Rows
section
variable {M : Model} {A : Around} {E : Value → Shared → Prop} {s : Shared} {base : Heap} {env : Env} {outer : List Env} {L e : Addr}
theorem Trn.refl {F R : List Addr} {h : Heap} : Trn F R h h := ⟨fun _ _ _ _ q => q, fun _ o _ _ q => ⟨o.slots, q⟩⟩
/-- a note of one on its way, with whatever mark -/
theorem note_any {T : Addr} {cls v : Value} {Q : Unit → Shared → Prop} (hfr : A.frames = some (env :: outer)) (hl : s.heap.FunFrames base (env :: outer)) (hf : env.frame = some L) (fl : Fly s.heap e T cls v)
    (h : ∀ h' T', Fly h' e T' cls (rawInt L) → (T' = T ∨ T' = s.heap.objs.size) → Trn (frs (env :: outer)) [e, T] s.heap h' → Q () { s with heap := h' }) : wpAny M A (noteFrame (.ref e) env) Q E s := by
  obtain ⟨oe, vs, oT, ts, he, hc, hdc, hd, h1, nT, hT, hdT, h3⟩ := id fl
  unfold noteFrame
  simp only [hf]
  refine wpAny_bind (wpAny_field he hd h1 ?_)
  rw [if_pos (by simp)]
  refine wpAny_bind (wpAny_field hT hdT h3 ?_)
  by_cases hb : (v == rawInt L) = true
  · rw [if_pos hb]
    have ev : v = rawInt L := by simpa using hb
    subst ev
    exact wpAny_pure (h s.heap T fl (.inl rfl) Trn.refl)
  rw [if_neg hb]
  subst hc
  refine wpAny_bind (wpAny_setField hT hdT (Array.getElem?_eq_some_iff.mp h3).1 ?_)
  have nTf := frames_not (e := T) hl hT hdT
  have hsz : (s.heap.update T (Obj.mapFields (·.setIfInBounds 3 Value.none))).objs.size = s.heap.objs.size := Heap.size_after_update ..
  have other : ∀ b, b ≠ T → (s.heap.update T (Obj.mapFields (·.setIfInBounds 3 Value.none))).get? b = s.heap.get? b := fun b hb => Heap.get?_update_other _ _ (Ne.symm hb)
  refine entry_new (s := { s with heap := s.heap.update T (Obj.mapFields (·.setIfInBounds 3 Value.none)) }) (base := base) hfr (hl.of_keeps fun b o hb hnf => ⟨o, (other b fun z => ?_).trans hb, rfl⟩) hf ((other e (Ne.symm nT)).trans he) hdc hd (Array.getElem?_eq_some_iff.mp h1).1 fun h' f' t' => ?_
  · rw [z, hT] at hb
    cases hb
    exact hnf ts hdT
  · have f2 : Fly h' e s.heap.objs.size oe.cls (rawInt L) := hsz ▸ f'
    exact h h' _ f2 (.inr rfl) ((Trn.upd1.mono (by simp)).trans (t'.mono (by simp)))
/-- a mark is set -/
theorem flight_any {T : Addr} {cls fl : Value} {fr : Option Addr} {Q : Unit → Shared → Prop} (f : Fly s.heap e T cls fl) (h : ∀ h' v, Fly h' e T cls v → (∀ F, Trn F [T] s.heap h') → Q () { s with heap := h' }) :
    wpAny M A (setFlight (.ref e) fr) Q E s := by
  obtain ⟨oe, vs, oT, ts, he, hc, hdc, hd, h1, nT, hT, hdT, h3⟩ := f
  have hs3 : 3 < ts.size := (Array.getElem?_eq_some_iff.mp h3).1
  unfold setFlight
  refine wpAny_bind (wpAny_field he hd h1 ?_)
  rw [if_pos (by simp)]
  have hdT' := Obj.data_mapFields hdT (·.setIfInBounds 3 (fr.elim Value.none fun f => rawInt f))
  refine wpAny_setField hT hdT hs3 (h _ (fr.elim Value.none fun f => rawInt f) ?_ (fun F => Trn.upd1))
  exact ⟨oe, vs, _, _, (Heap.get?_update_other _ _ nT).trans he, hc, hdc, hd, h1, nT, Heap.get?_update_self _ hT (Obj.isFreed_of_fields hdT'), hdT', by simp [hs3]⟩
theorem Fly.same {h h' : Heap} {T : Addr} {cls v : Value} (f : Fly h e T cls v) (h1 : h'.get? e = h.get? e) (h2 : h'.get? T = h.get? T) : Fly h' e T cls v := by
  obtain ⟨oe, vs, oT, ts, he, hc, hdc, hd, q1, nT, hT, hdT, h3⟩ := f
  exact ⟨oe, vs, oT, ts, h1.trans he, hc, hdc, hd, q1, nT, h2.trans hT, hdT, h3⟩
/-- passed on -/
theorem pass_any {α : Type} {T : Addr} {cls fl : Value} {what : String} {Q : α → Shared → Prop} (f : Fly s.heap e T cls fl) (h : ∀ h' v, Fly h' e T cls v → (∀ F, Trn F [T] s.heap h') → E (.ref e) { s with heap := h' }) :
    wpAny M A (PySem.passOn what (.ref e) env) Q E s := by
  obtain ⟨oe, vs, oT, ts, he, hc, hdc, hd, h1, nT, hT, hdT, h3⟩ := id f
  unfold PySem.passOn
  refine wpAny_bind (wpAny_field he hd h1 ?_)
  rw [if_neg (by simp)]
  exact wpAny_bind (flight_any f fun h' v f' t' => wpAny_throw (h h' v f' t'))
end

/-! ### an exception that leaves a def, whatever its mark -/
section
variable {P : Program} {w : World} {K : PySem.W.Frag} {mg : Str → Option Value} {base : Heap} {N : List Str} {qual : Str} {scope : Scope} {f : Addr} {cd : Value} {A : Around} {outer : List Env} {s0 : Shared} {H0 : Hp} {E : XK}
/-- what a def does with an exception that came so far -/
def Lets (X : Cx) (E : XK) : Prop := ∀ (pins : List (Addr × Obj)) (σ : St) (H : Hp) (s : Shared) (ea T : Addr) (cls v : Value), Inv X pins σ H s → Fly s.heap ea T cls v → Rec X pins H ea → Rec X pins H T → E cls none H → X.xe (.ref ea) s
theorem lets1 : Lets (cxOf (CX1 P w) P w K mg base N qual scope f cd A outer s0 H0 E) E := by
  intro pins σ H s ea T cls v I fl r1 r2 q
  show wpAny _ _ (leaving _ (.ref ea)) _ _ s
  unfold leaving
  refine wpAny_bind (note_any (base := base) I.ok.frames I.stack rfl fl fun h1 T1 f1 eT t1 => ?_)
  refine flight_none f1 fun h2 f2 t2 sz => ?_
  have rn := I.recd_new rfl
  have rT : Rec (cxOf (CX1 P w) P w K mg base N qual scope f cd A outer s0 H0 E) pins H T1 := by
    rcases eT with z | z
    · rw [z]; exact r2
    · rw [z]; exact rn
  have hR : ∀ b ∈ [ea, T, T1], Rec (cxOf (CX1 P w) P w K mg base N qual scope f cd A outer s0 H0 E) pins H b := by
    intro b hb
    simp only [List.mem_cons, List.not_mem_nil, or_false] at hb
    rcases hb with z | z | z
    · rw [z]; exact r1
    · rw [z]; exact r2
    · rw [z]; exact rT
  have t12 : Trn (frs (cxOf (CX1 P w) P w K mg base N qual scope f cd A outer s0 H0 E).stack) [ea, T, T1] s.heap h2 := (t1.mono (by simp)).trans ((t2 _).mono (by simp))
  have J := I.trn (t' := s.toks) hR t12
  exact ⟨ea, _, cls, H, rfl, I.os, I.bare, un_trn I rfl hR t12, J.hok, f2, r1.2.2.2.1, rT.2.2.2.1, r1.1, rT.1, q⟩
end

/-! ### an item that may raise -/
/-- an exception in a block; in a state of the block's neither it nor its entry was there -/
def XPc (X : Cx) (pins : List (Addr × Obj)) (σ : St) (E : XK) (e : Value) (s' : Shared) : Prop :=
  ∃ ea T cls H' s1 H1, e = .ref ea ∧ Inv X pins σ H' s' ∧ Fly s'.heap ea T cls .none ∧ H' ea = none ∧ H' T = none ∧ Inv X pins σ H1 s1 ∧ s1.heap.get? ea = none ∧ s1.heap.get? T = none ∧ E cls none H'
def PEY (X : Cx) (e : Expr) (t : St → Hp → VK → XK → Prop) : Prop :=
  ∀ (pins : List (Addr × Obj)) (s : Shared) (σ : St) (H : Hp) (Q : VK) (E : XK), Inv X pins σ H s → t σ H Q E → wpAny (model X.prog X.w) X.A (eval e X.env) (EP X pins σ Q) (XPc X pins σ E) s
section
variable {X : Cx} {k : Nat} {f C : Addr} {fd : FuncData} {ps : List Str} {sp : Sp} {dvs : List V} {ds : List Value} {x m : Str} {p pos apos : Pos} {e o : Expr} {es : List Expr} {ta : TE} {t : TA}
theorem xpc_of {pins : List (Addr × Obj)} {σ : St} {H : Hp} {s s' : Shared} {E : XK} {e : Value} (I : Inv X pins σ H s) (h : CX1 X.prog X.w X.stack H s E e s') : XPc X pins σ E e s' := by
  obtain ⟨ea, T, cls, H', he, os, bare, un, hok, fl, n1, n2, h1, h2, q⟩ := h
  exact ⟨ea, T, cls, H', s, H, he, I.call' (ch := []) os un hok bare (fun b z => absurd z (by simp)), fl, h1, h2, I, n1, n2, q⟩
theorem run_fnY {pins : List (Addr × Obj)} {σ : St} {H : Hp} {s : Shared} {Q : VK} {E : XK} {us : List Value} {vs : List V} (F : FnOk X.prog X.w X.K X.mg X.base (CX1 X.prog X.w) k f fd ps sp) (hr : Room k X.A) (hb : Binds X.K fd ps ds) (hd : Vals dvs ds)
    (I : Inv X pins σ H s) (r : Vals vs us) (h : sp (vs ++ dvs) H Q E) : wpAny (model X.prog X.w) X.A (call (.ref f) us) (EP X pins σ Q) (XPc X pins σ E) s := by
  have r2 : Vals (vs ++ dvs) (us ++ ds) := r.append hd
  have hl : (us ++ ds).length = ps.length := by rw [← r2.length]; exact F.len _ _ _ _ h
  refine wpAny_call (codeAny_mono (F.run X.A X.stack s H ⟨us, []⟩ (us ++ ds) (vs ++ dvs) Q E hr I.env0 (hb s us I.kIn hl) r2 h) fun r s' hq => ?_)
  cases r with
  | error e => exact xpc_of I hq
  | ok fl =>
    cases fl with
    | ret u => exact I.after hq
    | next => exact False.elim hq
    | brk => exact False.elim hq
    | cont => exact False.elim hq
theorem pey_call (F : FnOk X.prog X.w X.K X.mg X.base (CX1 X.prog X.w) k f fd ps sp) (hr : Room k X.A) (hg : Gl X x) (hm : X.mg x = some (.ref f)) (hk : PySem.W.keepIn X.K (.ref f) = true) (hb : Binds X.K fd ps ds) (hd : Vals dvs ds)
    (ha : PA X.nox (e :: es) t) (hdb : (x == ("__debug__" : Str)) = false := by decide) (he : starEach (e :: es) X.env = (false, eval e X.env) :: starEach es X.env := by rfl) (hpl : (backTo pos (starEach es X.env)).any (·.1) = false := by rfl) :
    PEY X (.Call (.Name x p) (e :: es) [] pos) (tCallX sp dvs t) := by
  intro pins s σ H Q E I h
  refine wpAny_Call_Name_kw (ld_glob I hg hm ?_ hdb)
  refine PySem.W.callWith_K (h₀ := X.base) I.ok.mod.kin hk (thn (ha.nx I h) fun us s1 ⟨vs, H1, I1, r, q⟩ => ⟨I1.kIn, ?_⟩) he hpl
  exact run_fnY F hr hb hd I1 r q
end

theorem comp_loopX {elt target iter : PySem.Expr} {ifs : List PySem.Expr} {scope : Scope} {pos : Pos} {it acc : Value} {env : Env} {prog : Program} {w : World} {A : Around} {s : Shared} {R : Result → Shared → Prop} (I : Nat → Shared → Prop)
    (turn : ∀ n s, I n s → wpAny (model prog w) A (pyNext it) (fun r s₁ => match r with
      | none => R (.ok .next) s₁
      | some v => wpAny (model prog w) A (letOwnedTupleGo target it v) (fun _ s₀ => wpAny (model prog w) A (assign target env v) (fun _ s₂ =>
          wpAny (model prog w) A (forIn ifs true fun c r => if r = true then do let ok ← isTrue c env (eval c env); pure (ForInStep.yield ok) else pure (ForInStep.yield r)) (fun ok s₃ => if ok = true then wpAny (model prog w) A (eval elt env) (fun x s₄ =>
            wpAny (model prog w) A (call (.builtin "list.append") [acc, x]) (fun _ s₅ => ∃ m, m < n ∧ I m s₅) (fun _ _ => False) s₄) (notedBy (model prog w) A env fun x s' => R (.error x) s') s₃
            else ∃ m, m < n ∧ I m s₃) (fun _ _ => False) s₂)
          (fun _ _ => False) s₀) (fun _ _ => False) s₁) (fun _ _ => False) s)
    (n : Nat) (h : I n s) : codeAny (model prog w) A (.compLoop (.ListComp elt [⟨target, iter, ifs, 0⟩] scope pos) 0 it acc env) R s := by
  refine codeAny_loop rfl I (fun n s hI => ?_) n h
  show wpAny _ A ((compTurn (.ListComp elt [⟨target, iter, ifs, 0⟩] scope pos) 0 it acc env).onRaise (fun x => do noteFrame x env; theTreesLotGoes x)) _ _ s
  refine wpAny_noted ?_
  rw [compTurn_list]
  refine wpAny_bind (wpAny_standAt (wpAny_bind (wpAny_mono (turn n s hI) (fun r s₁ h₁ => ?_) fun _ _ z => z.elim)))
  cases r with
  | none => exact wpAny_pure h₁
  | some v =>
    refine wpAny_bind (wpAny_mono h₁ (fun _ s₀ h₀' => ?_) fun _ _ z => z.elim)
    refine wpAny_bind (wpAny_mono h₀' (fun _ s₂ h₂ => ?_) fun _ _ z => z.elim)
    refine wpAny_bind (wpAny_mono h₂ (fun okb s₃ h₃ => ?_) fun _ _ z => z.elim)
    cases okb with
    | false => exact wpAny_pure ⟨rfl, h₃⟩
    | true => exact wpAny_bind (wpAny_bind (wpAny_mono h₃ (fun x s₄ h₄ => wpAny_bind (wpAny_mono h₄ (fun _ s₅ h₅ => wpAny_pure (wpAny_pure ⟨rfl, h₅⟩)) fun _ _ z => z.elim)) fun _ _ z => z))
section
variable {X : Cx} {scope : Scope} {N' : List Str} {cap : List (Option Nat)} {fp : List Addr} {pins : List (Addr × Obj)} {s : Shared} {σ : St} {H : Hp}
/-- the block from its entry on; RR: what is wanted behind it -/
theorem comp_blockX {elt tg iter : Expr} {ifs : List Expr} {pos : Pos} {g : TG} {tc : TT} {te : St → Hp → VK → XK → Prop} {XE : XK} {Q : VK} {s2 : Shared} {H2 : Hp} {it : Addr} {tn : Nat → Heap → Prop} {J : It} {E : Value → Shared → Prop} {RR : Value → Addr → Result → Shared → Prop}
    (S : CompOk X scope N' cap) (hc : X.calm = true) (hg : ∀ fp pins s H, PG (cxComp X scope N' fp pins s H) tg g) (hts : ∀ fp pins s H, PTs (cxComp X scope N' fp pins s H) ifs tc) (he : ∀ fp pins s H, PEY (cxComp X scope N' fp pins s H) elt te) (hex : X.ex = [])
    (I2 : Inv X pins σ H2 s2) (T : Turn X.prog X.w X.K tg J fp it tn) (st2 : tn 0 s2.heap) (f2 : ∀ b ∈ fp, FpOk X pins H2 b)
    (h : ∀ acc, H2 acc = none → ∃ W : Nat → Nat → Hp → Prop, (∃ m, W 0 m (upd H2 acc (.lst []))) ∧ ∀ i m H, W i m H →
      (J.stop i H ∧ Q (.ref acc) H) ∨ (J.go i H ∧ ∀ x H', J.yld i H x H' → g x (capSt cap σ) H' fun σ2 H2 => tc σ2 H2 fun b H3 => if b = true then te σ2 H3 (fun y H4 => ∃ xs, H4 acc = some (.lst xs) ∧ xs.length < sizeLine ∧
        ∃ m', m' < m ∧ W (i + 1) m' (upd H4 acc (.lst (xs ++ [y])))) XE else ∃ m', m' < m ∧ W (i + 1) m' H3))
    (hRR : ∀ C s' H', (∃ m, s'.heap.Ns C m) → (∀ h'', Heap.SameBut C s'.heap h'' → Inv X pins σ H' { s' with heap := h'' }) → Q (.ref s2.heap.objs.size) H' → H' C = none → s2.heap.objs.size < C →
      RR (.ref s2.heap.objs.size) C (.ok .next) s')
    (hRX : ∀ C s' H' ea T cls, (∃ m, s'.heap.Ns C m) → Inv X pins σ H' s' → Fly s'.heap ea T cls .none → Rec X pins H' ea → Rec X pins H' T → Rec X pins H' C → XE cls none H' →
      notedBy (model X.prog X.w) X.A X.env (fun x s'' => RR (.ref s2.heap.objs.size) C (.error x) s'') (.ref ea) s') :
    wpAny (model X.prog X.w) X.A (newList []) (fun acc s₃ => wpAny (model X.prog X.w) X.A (newFunctionEnv scope X.env.globals (closOf X.env scope.names []) [] X.env.qual none .none (some X.env)) (fun cenv s₄ =>
      codeAny (model X.prog X.w) X.A (.compStart (.ListComp elt [⟨tg, iter, ifs, 0⟩] scope pos) 0 (.ref it) acc { cenv with scope := relabel scope X.env }) (RR acc cenv.locals) s₄) E s₃) E s2 := by
  refine wpAny_newObj_type (wpAny_newFunctionEnv S.nocell (by intro y hy; simp at hy) (fun h₁ hns₁ hsb₁ => ?_) S.kind)
  dsimp only at hns₁ hsb₁ ⊢
  have hfr : H2 s2.heap.objs.size = none := I2.hok.fresh (Nat.le_refl _)
  generalize hH3 : s2.heap.push { cls := .type "list", dict := none, data := .seq ([] : List Value).toArray } = h3 at hns₁ hsb₁ ⊢
  have e3 : h3.objs.size = s2.heap.objs.size + 1 := by rw [← hH3, Heap.size_push]
  have k3 : ∀ b u, s2.heap.get? b = some u → h3.get? b = some u := fun b u e => by rw [← hH3]; exact Heap.get?_push_of_some _ e
  -- the state with the new list
  have I3 : Inv X pins σ (upd H2 s2.heap.objs.size (.lst [])) { s2 with heap := h3, toks := s2.toks } := by
    refine I2.laid (t' := s2.toks) k3 (Nat.le_refl _) ?_
    exact ⟨Nat.zero_le _, [], 0, .nil, by rw [← hH3]; exact Heap.get?_push_size _ rfl⟩
  have f3 : ∀ b ∈ fp, FpOk X pins (upd H2 s2.heap.objs.size (.lst [])) b := fun b hb => by
    obtain ⟨o, e, _⟩ := T.obj _ _ st2 b hb
    exact ⟨by rw [upd_ne (Nat.ne_of_lt (Heap.lt_size e))]; exact (f2 b hb).1, (f2 b hb).2⟩
  have ex3 : ∀ b ∈ fp, ∃ o, h3.get? b = some o := fun b hb => by
    obtain ⟨o, e, _⟩ := T.obj _ _ st2 b hb
    exact ⟨o, k3 b o e⟩
  have kp : ∀ b o, h3.get? b = some o → h₁.get? b = some o := fun b o e => hsb₁.extBut b o (Nat.ne_of_lt (Heap.lt_size e)) (Heap.get?_push_of_some _ e)
  have I4 := S.start (fp := fp) (tk := s2.toks + ([] : List (Str × Value)).length) I3 f3 ex3 hns₁ kp
  have st4 : tn 0 h₁ := T.keep _ _ _ st2 fun b _ o e => kp b o (k3 b o e)
  obtain ⟨W, ⟨m0, w0⟩, turn⟩ := h s2.heap.objs.size hfr
  let X' := cxComp X scope N' fp pins { s2 with heap := h3, toks := s2.toks } (upd H2 s2.heap.objs.size (.lst []))
  have stat : ∀ {pins' : List (Addr × Obj)} {H' : Hp}, (∀ p ∈ pins', p.1 ∉ fp) → (∀ b ∈ fp, H' b = none) → ∀ b ∈ fp, FpOk X' pins' H' b := fun {pins' H'} hpn hn b hb => by
    obtain ⟨o, e⟩ := ex3 b hb
    refine ⟨hn b hb, Nat.ne_of_lt (Heap.lt_size e), fun z => ?_, .inl hb, fun x c hx => (f3 b hb).2.2.2.2.1 x c (closOf_sub _ _ (S.clos I2.ok) (fun z => by simp at z) hx), fun p hp => ?_⟩
    · rcases List.mem_cons.mp (I2.stkSub b z) with q | q
      · exact (f2 b hb).2.1 q
      · exact (f2 b hb).2.2.1 q
    · rcases List.mem_append.mp hp with q | q
      · exact (f2 b hb).2.2.2.2.2 p q
      · exact fun z => hpn p q (z ▸ hb)
  have loop : codeAny (model X.prog X.w) X.A (.compLoop (.ListComp elt [⟨tg, iter, ifs, 0⟩] scope pos) 0 (.ref it) (.ref s2.heap.objs.size) X'.env) (RR (.ref s2.heap.objs.size) h3.objs.size) { s2 with heap := h₁, toks := s2.toks + ([] : List (Str × Value)).length } := by
    refine comp_loopX (fun n s' => ∃ i H', Inv X' [] (capSt cap σ) H' s' ∧ tn i s'.heap ∧ (∀ b ∈ fp, H' b = none) ∧ W i n H') ?_ m0 ⟨0, _, I4, st4, fun b hb => (f3 b hb).1, w0⟩
    rintro n s5 ⟨i, H5, I5, st5, fr5, w5⟩
    rcases turn i n H5 w5 with ⟨stop, qn⟩ | ⟨go, step⟩
    · refine wpAny_mono (T.done X' rfl rfl rfl hc i [] s5 (capSt cap σ) H5 (fun _ _ => False) I5 (stat (fun _ z => absurd z (by simp)) fr5) st5 stop) (fun r s6 ⟨hr, I6⟩ => ?_) fun _ _ z => z
      subst hr
      refine hRR _ s6 H5 ?_ (fun h'' sb => S.back I2 f2 (s3 := { s2 with heap := h3, toks := s2.toks }) e3 k3 rfl rfl I6 sb) qn I6.free (by rw [e3]; exact Nat.lt_succ_self _)
      obtain ⟨m, hn, _⟩ := I6.loc
      exact ⟨m, hn⟩
    · refine wpAny_mono (T.item X' rfl rfl rfl hc i [] s5 (capSt cap σ) H5 (fun _ _ => False) I5 (stat (fun _ z => absurd z (by simp)) fr5) st5 go) (fun r s6 ⟨u, hr, h6⟩ => ?_) fun _ _ z => z
      subst hr
      refine wpAny_mono h6 (fun _ s7 ⟨x, H7, I7, r7, y7, st7, fr7⟩ => ?_) fun _ _ z => z
      have I7' := I7.pinned (stat (fun _ z => absurd z (by simp)) fr7) (T.obj _ _ st7)
      have again : ∀ {σ8 : St} {H8 : Hp} {s8 : Shared}, Inv X' ([] ++ pinsAt fp s7.heap) σ8 H8 s8 → (∃ m', m' < n ∧ W (i + 1) m' H8) → ∃ m, m < n ∧ ∃ i H', Inv X' [] (capSt cap σ) H' s8 ∧ tn i s8.heap ∧ (∀ b ∈ fp, H' b = none) ∧ W i m H' := fun {σ8 H8 s8} I8 n8 => by
        obtain ⟨m', hm, w8⟩ := n8
        have pn : ∀ b ∈ fp, ∃ o, s7.heap.get? b = some o ∧ s8.heap.get? b = some o ∧ H8 b = none := fun b hb => by
          obtain ⟨o, e, d⟩ := T.obj _ _ st7 b hb
          have q := I8.pin (b, o) (List.mem_append_right _ (List.mem_append_right _ (mem_pinsAt hb e)))
          exact ⟨o, e, q.1, q.2.1⟩
        refine ⟨m', hm, i + 1, H8, S.again I3 f3 I8.unpinned, T.keep _ _ _ st7 fun b hb o e => ?_, fun b hb => ?_, w8⟩
        · obtain ⟨o', e', q, _⟩ := pn b hb
          rw [e] at e'; cases e'
          exact q
        · obtain ⟨_, _, _, q⟩ := pn b hb
          exact q
      refine wpAny_mono (hg fp pins _ _ _ s7 (capSt cap σ) H7 x u _ I7' r7 (step x H7 y7)) (fun _ s8 ⟨σ8, H8, I8, q8⟩ => ?_) fun _ _ z => z
      refine wpAny_mono (hts fp pins _ _ _ s8 σ8 H8 _ I8 q8) (fun b s9 ⟨H9, I9, q9⟩ => ?_) fun _ _ z => z
      cases b with
      | false => exact again I9 q9
      | true =>
        refine wpAny_mono (he fp pins _ _ _ s9 σ8 H9 _ _ I9 q9) (fun u s10 ⟨y, H10, I10, r10, xs, hx, hl, q10⟩ => ?_) fun ev s10 ⟨ea, Ta, cls, H10, s1, H1, eev, I10, fl, hea, hTa, I1, n1, n2, q10⟩ => ?_
        rotate_left
        · subst eev
          have out : ∀ b, s1.heap.get? b = none → s2.heap.get? b = none := fun b hb => by
            cases q : s2.heap.get? b with
            | none => rfl
            | some ob =>
              by_cases hbf : b ∈ fp
              · obtain ⟨o7, e7, _⟩ := T.obj _ _ st7 b hbf
                have := (I1.pin (b, o7) (List.mem_append_right _ (List.mem_append_right _ (mem_pinsAt hbf e7)))).1
                rw [hb] at this; cases this
              · obtain ⟨o', e'⟩ := I1.base.there b ob (k3 b ob q) hbf
                rw [hb] at e'; cases e'
          have hC : H10 h3.objs.size = none := I10.free
          have gC : s2.heap.get? h3.objs.size = none := by
            cases q : s2.heap.get? h3.objs.size with
            | none => rfl
            | some ob =>
              have := Heap.lt_size q
              rw [e3] at this
              exact absurd this (Nat.not_lt.mpr (Nat.le_succ _))
          obtain ⟨m10, hn10, _⟩ := I10.loc
          exact hRX h3.objs.size s10 H10 ea Ta cls ⟨m10, hn10⟩ (S.back I2 f2 (s3 := { s2 with heap := h3, toks := s2.toks }) e3 k3 rfl rfl I10.unpinned (.refl ..)) fl (I2.recd hex hea (out _ n1)) (I2.recd hex hTa (out _ n2)) (I2.recd hex hC gC) q10
        refine wpAny_mono (mt_append (X := X') _ s10 σ8 H10 (.ref s2.heap.objs.size) [y] (.ref s2.heap.objs.size) [u] (fun _ H' => ∃ m', m' < n ∧ W (i + 1) m' H') I10 rfl (.cons r10 .nil) ⟨_, xs, y, rfl, rfl, hx, hl, q10⟩) (fun _ s11 ⟨_, H11, I11, _, q11⟩ => again I11 q11) fun _ _ z => z
  exact codeAny_compStart_list loop (T.self _ 0 _ _ _ st4 loop)

/-- [..] as a value; its item may raise, and what is raised leaves the def -/
def tCompX (wi : TI) (cap : List (Option Nat)) (g : TG) (tc : TT) (te : St → Hp → VK → XK → Prop) (XE : XK) : TE := fun σ H Q => wi σ H fun J H1 => ∀ acc, H1 acc = none → ∃ W : Nat → Nat → Hp → Prop, (∃ m, W 0 m (upd H1 acc (.lst []))) ∧ ∀ i m H, W i m H →
  (J.stop i H ∧ Q (.ref acc) H) ∨ (J.go i H ∧ ∀ x H', J.yld i H x H' → g x (capSt cap σ) H' fun σ2 H2 => tc σ2 H2 fun b H3 => if b = true then te σ2 H3 (fun y H4 => ∃ xs, H4 acc = some (.lst xs) ∧ xs.length < sizeLine ∧
    ∃ m', m' < m ∧ W (i + 1) m' (upd H4 acc (.lst (xs ++ [y])))) XE else ∃ m', m' < m ∧ W (i + 1) m' H3)
theorem pe_compX {elt tg iter : Expr} {ifs : List Expr} {pos : Pos} {wi : TI} {g : TG} {tc : TT} {te : St → Hp → VK → XK → Prop} {XE : XK} {L : Addr} (S : CompOk X scope N' cap) (hc : X.calm = true) (hex : X.ex = []) (hst : X.stack = X.env :: X.outer) (hfl : X.env.frame = some L) (hL : Lets X XE)
    (hi : PI X tg iter wi) (hg : ∀ fp pins s H, PG (cxComp X scope N' fp pins s H) tg g)
    (hts : ∀ fp pins s H, PTs (cxComp X scope N' fp pins s H) ifs tc) (he : ∀ fp pins s H, PEY (cxComp X scope N' fp pins s H) elt te) (hs : ∀ x, foldedSetIterable iter X.env x = pure x := by intro _; rfl) :
    PE X (.ListComp elt [⟨tg, iter, ifs, 0⟩] scope pos) (tCompX wi cap g tc te XE) := by
  intro pins s σ H Q I h
  rw [eval_ListComp]
  refine wpAny_comprehension_free (use := none) rfl hs (closureFor_ok (S.clos I.ok)) S.kind S.loc (thn (hi pins s σ H _ I h) fun v s1 h1 => thn h1 fun itv s2 h2 => ?_)
  obtain ⟨it, fp, tn, J, H2, e, I2, T, st2, f2, hW⟩ := h2
  subst e
  refine comp_blockX (RR := fun acc C => compPost (model X.prog X.w) X.A X.xe none (EP X pins σ Q) acc C) S hc hg hts he hex I2 T st2 f2 hW ?_ ?_
  · intro C s' H' ⟨m, hn⟩ hI hq _ _
    exact ⟨m, hn, fun h'' sb => ⟨.ref s2.heap.objs.size, H', hI h'' sb, rfl, hq⟩⟩
  · intro C s' H' ea Ta cls ⟨m, hn⟩ I' fl r1 r2 rC q
    have hfr : X.A.frames = some (X.env :: X.outer) := by rw [← hst]; exact I'.ok.frames
    have hfu : s'.heap.FunFrames X.base (X.env :: X.outer) := by rw [← hst]; exact I'.stack
    obtain ⟨oC, esC, epC, hoC, hdC, restC⟩ := id hn
    have neF : ∀ {b : Addr} {ob : Obj} {vs : Array Value}, s'.heap.get? b = some ob → ob.data = .fields vs → b ≠ C := fun {b ob vs} e1 e2 z => by
      subst z
      rw [hoC] at e1
      cases e1
      rw [hdC] at e2; cases e2
    obtain ⟨oe, vs, oT, ts, he', hc', hdc', hd', h1', nT', hT', hdT', h3'⟩ := id fl
    have nea : ea ≠ C := neF he' hd'
    have nTa : Ta ≠ C := neF hT' hdT'
    have nN : s'.heap.objs.size ≠ C := Ne.symm (Nat.ne_of_lt (Heap.lt_size hoC))
    have nfC : C ∉ frs (X.env :: X.outer) := fun z => (List.mem_cons.mp (I'.stkSub C (by rw [hst]; exact z))).elim rC.2.1 rC.2.2.1
    refine note_next (base := X.base) hfr hfu hfl fl fun h1 f1 t1 => ?_
    have kC : h1.get? C = some oC := t1.keep C oC nfC (by simp [Ne.symm nea, Ne.symm nTa]) hoC
    refine ⟨m, ⟨oC, esC, epC, kC, hdC, restC⟩, fun h' sb cenv _ => ?_⟩
    have f2' : Fly h' ea s'.heap.objs.size cls (rawInt L) := f1.same (sb.2 _ nea) (sb.2 _ nN)
    refine pass_any (s := { s' with heap := h' }) f2' fun h4 v4 f4 t4 => ?_
    have rn := I'.recd_new hex
    have hR : ∀ b ∈ [ea, Ta, s'.heap.objs.size, C], Rec X pins H' b := by
      intro b hb
      simp only [List.mem_cons, List.not_mem_nil, or_false] at hb
      rcases hb with z | z | z | z
      · rw [z]; exact r1
      · rw [z]; exact r2
      · rw [z]; exact rn
      · rw [z]; exact rC
    have tC : Trn (frs X.stack) [C] h1 h' := ⟨fun b o _ hb e => (sb.2 b (fun z => hb (by simp [z]))).trans e, fun b o _ hb e => ⟨o.slots, (sb.2 b (fun z => hb (by simp [z]))).trans e⟩⟩
    have tt : Trn (frs X.stack) [ea, Ta, s'.heap.objs.size, C] s'.heap h4 := ((by rw [hst]; exact t1 : Trn (frs X.stack) [ea, Ta] s'.heap h1).mono (by simp)).trans ((tC.mono (by simp)).trans ((t4 _).mono (by simp)))
    exact hL pins σ H' _ ea _ cls v4 (I'.trn (t' := s'.toks) hR tt) f4 r1 rn q
end
end L2

set_option Elab.async false
set_option linter.all false
set_option maxRecDepth 100000
/-! EXTENSION 30: slices of texts, a text many times, try with an if in it -/
namespace L2
open PySem PySem.Spec PyProof.Rows PySem.Builtin PySem.Builtin.Str
section
variable {X : Cx}
def tBox (te : TE) : TE := te
theorem pe_box {e : Expr} {te : TE} (h : PE X e te) : PE X e (tBox te) := h
theorem sl_str : SlR X (fun x lo hi H Q => ∃ z, x = .str z ∧ z.length ≤ sizeLine ∧ Q (.str (Txt.slice z lo hi)) H) := by
  intro pins s σ H x v vl vu lo hi sl Q I rx hs pl pu h
  obtain ⟨z, rfl, hz, q⟩ := h
  obtain ⟨t, rfl⟩ := rx
  have fin : ∀ (t' : Tok) (k : Nat), EP X pins σ Q (.str (Txt.slice z lo hi) t') { s with toks := k } := fun t' k => ⟨.str (Txt.slice z lo hi), H, I.tok _, ⟨_, rfl⟩, q⟩
  have hle := Nat.le_trans (Txt.slice_le z lo hi) hz
  obtain ⟨o, ho, hc, hd⟩ := hs
  refine ⟨"str", _, F.slot_str_getitem.lookup, typeIs_str _ _ _, ?_⟩
  cases pl with
  | none =>
    cases pu with
    | none => exact wpAny_getItem_str_slice (l := none) (u := none) (st := none) ⟨o, ho, hc, hd⟩ rfl (post_val_or_str ⟨hle, fun t' k => fin t' k⟩)
    | int j uj => exact wpAny_getItem_str_slice (l := none) (u := some (j, uj)) (st := none) ⟨o, ho, hc, hd⟩ rfl (post_val_or_str ⟨hle, fun t' k => fin t' k⟩)
  | int i ui =>
    cases pu with
    | none => exact wpAny_getItem_str_slice (l := some (i, ui)) (u := none) (st := none) ⟨o, ho, hc, hd⟩ rfl (post_val_or_str ⟨hle, fun t' k => fin t' k⟩)
    | int j uj => exact wpAny_getItem_str_slice (l := some (i, ui)) (u := some (j, uj)) (st := none) ⟨o, ho, hc, hd⟩ rfl (post_val_or_str ⟨hle, fun t' k => fin t' k⟩)
/-- a text many times -/
theorem op_mulS : OpR X (binaryOp .Mult) (fun x y H Q => ∃ z k, x = .str z ∧ y = .int k ∧ 1 < k ∧ k < 1000 ∧ 0 < z.length ∧ z.length < 1000 ∧ (⟨(List.replicate k.toNat z.cps).foldl (· ++ ·) #[]⟩ : Str).length ≤ sizeLine ∧ Q (.str ⟨(List.replicate k.toNat z.cps).foldl (· ++ ·) #[]⟩) H) := by
  intro pins s σ H x y v u Q I rx ry h
  obtain ⟨z, k, rfl, rfl, h1, h2, h3, h4, hz, q⟩ := h
  obtain ⟨t, rfl⟩ := rx
  obtain ⟨t', rfl⟩ := ry
  have hb : z.length * k.toNat < 1000000 := Nat.lt_of_lt_of_le (Nat.mul_lt_mul_of_lt_of_le h4 (show k.toNat ≤ 1000 by omega) (by omega)) (by decide)
  refine P.mul_str (by simp; omega) (fun _ _ => ?_) (fun _ _ => ?_) ?_
  · have : (2 ^ 63 - 1 : Int) / 1000 ≤ (2 ^ 63 - 1) / k := by
      refine (Int.le_ediv_iff_mul_le (by omega)).mpr ?_
      refine Int.le_trans (Int.mul_le_mul_of_nonneg_left (show k ≤ 1000 by omega) (by decide)) (by decide)
    have h5 : (2 ^ 63 - 1 : Int) / 1000 ≥ 1000 := by decide
    omega
  · have : 1000000 ≤ sizeLine := by decide
    exact decide_eq_false (by omega)
  · rw [if_neg (by omega), if_neg (by simp; omega)]
    exact ⟨hz, ⟨.str _, H, I.tok _, ⟨_, rfl⟩, q⟩⟩
/-- try: if c: e1 else: e2 except C as n: suite -/
def tTry2 (K : PySem.W.Frag) (tc : TT) (t1 t2 : St → Hp → VK → XK → Prop) (D : Addr) (i : Nat) (ts : TS) : TS := fun En σ H => tc σ H fun b H0 => (if b = true then t1 else t2) σ H0 (fun _ H1 => En.nx σ H1) fun cls _ H1 => ∃ C, cls = .ref C ∧ PySem.W.kitCls K (.ref C) (.ref D) = some true ∧
  ∀ ea, H1 ea = none → ts { nx := fun σ' H' => En.nx (σ'.set i none) H', rt := En.rt, bk := fun σ' H' => En.bk (σ'.set i none) H', ct := fun σ' H' => En.ct (σ'.set i none) H' } (σ.set i (some (.ref ea))) (upd H1 ea (ExcO ea C))
/-- what a try does with an exception that came up in its suite -/
theorem try_caught {x n : Str} {D L : Addr} {i : Nat} {ts : TS} {b0 : Stmt} {suite body : List Stmt} {np hp pos : Pos} {pins : List (Addr × Obj)} {s : Shared} {σ : St} {H : Hp} {En : Ends} (I : Inv X pins σ H s)
    (hg : Gl X x) (hm : X.mg x = some (.ref D)) (hD : PySem.W.kitCls X.K (.ref D) (.type "BaseException") = some true)
    (hN : X.N.Nodup) (hi : X.N[i]? = some n) (hl : X.env.scope.names.lookup n = some .local) (hex : X.ex = []) (hst : X.stack = X.env :: X.outer) (hf : X.env.frame = some L)
    (hs : ∀ ea, PSs (X.held ea) (b0 :: suite) ts) (hdb : (x == ("__debug__" : Str)) = false := by decide)
    (hb : wpAny (model X.prog X.w) X.A (execs body X.env) (fun fw s' => fw = .next ∧ ∃ H1, Inv X pins σ H1 s' ∧ En.nx σ H1) (XP X pins σ fun cls _ H1 => ∃ C, cls = .ref C ∧ PySem.W.kitCls X.K (.ref C) (.ref D) = some true ∧
      ∀ ea, H1 ea = none → ts { nx := fun σ' H' => En.nx (σ'.set i none) H', rt := En.rt, bk := fun σ' H' => En.bk (σ'.set i none) H', ct := fun σ' H' => En.ct (σ'.set i none) H' } (σ.set i (some (.ref ea))) (upd H1 ea (ExcO ea C))) s) :
    wpAny (model X.prog X.w) X.A (exec (.Try body [.ExceptHandler (some (.Name x np)) (some n) (b0 :: suite) hp] [] [] pos) X.env) (SP X pins En) X.xe s := by
  refine wpAny_Try_except (wpAny_mono hb (fun fw s1 ⟨e1, H1, I1, q1⟩ => ?_) fun ev s1 hx => ?_)
  · subst e1
    exact wpAny_execs_nil ⟨σ, H1, I1, q1⟩
  · obtain ⟨ea, T, cls, H1, rfl, I1, fl, r1, r2, C, rfl, hk, q⟩ := hx
    have hfr : X.A.frames = some (X.env :: X.outer) := by rw [← hst]; exact I1.ok.frames
    have hfu : s1.heap.FunFrames X.base (X.env :: X.outer) := by rw [← hst]; exact I1.stack
    refine note_next hfr hfu hf fl fun h1 f1 t1 => ?_
    refine flight_none f1 fun h2 f2 t2 sz => ?_
    have rn := I1.recd_new hex
    have hR : ∀ b ∈ [ea, T, s1.heap.objs.size], Rec X pins H1 b := by
      intro b hb
      simp only [List.mem_cons, List.not_mem_nil, or_false] at hb
      rcases hb with z | z | z
      · rw [z]; exact r1
      · rw [z]; exact r2
      · rw [z]; exact rn
    have t12 : Trn (frs X.stack) [ea, T, s1.heap.objs.size] s1.heap h2 := by rw [hst]; exact (t1.mono (by simp)).trans ((t2 _).mono (by simp))
    have I2 : Inv X pins σ H1 { s1 with heap := h2 } := I1.trn (t' := s1.toks) hR t12
    have I2h := I2.held ea
    obtain ⟨oe, vs, oT, tts, he, hc, hdc, hd, hv1, nT, hT, hdT, h3⟩ := id f2
    refine wpAny_handleBy_cons (codeAny_handlers_test (ld_glob (X := X.held ea) I2h hg hm ?_ hdb)) (by intro q; cases q)
    refine exc_match I2.kIn he hc hk hD ?_
    rw [if_pos rfl]
    refine codeAny_handlers_suite_as ?_
    refine flight_none (s := { s1 with heap := h2 }) f2 fun h4 f4 t4 sz4 => ?_
    have I4 : Inv X pins σ H1 { s1 with heap := h4 } := I2.trn (t' := s1.toks) (R := [s1.heap.objs.size]) (fun b hb => by
      have z : b = s1.heap.objs.size := by simpa using hb
      rw [z]; exact rn) (t4 _)
    obtain ⟨oe4, vs4, _, _, he4, hc4, hdc4, hd4, _⟩ := id f4
    have I5 : Inv X pins σ (upd H1 ea (ExcO ea C)) { s1 with heap := h4 } := I4.track r1 (excO_ok he4 hc4 hdc4 hd4)
    refine store_ok (X := X.held ea) (v := .ref ea) (I5.held ea) hN hi (.inl hl) rfl (fun s6 I6 => ?_) (.inr hl)
    refine wpAny_mono (hs ea pins s6 _ _ _ I6 (q ea r1.1)) (fun fw s7 q7 => ?_) fun _ _ z => z.elim
    cases fw with
    | next => obtain ⟨σ7, H7, I7, q7⟩ := q7; exact name_gone (I7.unheld I.ok) hN hi hl fun s8 I8 => ⟨_, H7, I8, q7⟩
    | cont => obtain ⟨σ7, H7, I7, q7⟩ := q7; exact name_gone (I7.unheld I.ok) hN hi hl fun s8 I8 => ⟨_, H7, I8, q7⟩
    | brk => obtain ⟨σ7, H7, I7, q7⟩ := q7; exact name_gone (I7.unheld I.ok) hN hi hl fun s8 I8 => ⟨_, H7, I8, q7⟩
    | ret v => obtain ⟨x7, σ7, H7, I7, r7, q7⟩ := q7; exact name_gone (I7.unheld I.ok) hN hi hl fun s8 I8 => ⟨x7, _, H7, I8, r7, q7⟩
theorem ps_try2 {c e1 e2 : Expr} {tc : TT} {t1 t2 : St → Hp → VK → XK → Prop} {x n : Str} {D L : Addr} {i : Nat} {ts : TS} {b0 : Stmt} {suite : List Stmt} {np p1 p2 ip hp pos : Pos} (hc : PT X.nox c tc) (h1 : PEX X e1 t1) (h2 : PEX X e2 t2) (hg : Gl X x) (hm : X.mg x = some (.ref D)) (hD : PySem.W.kitCls X.K (.ref D) (.type "BaseException") = some true)
    (hN : X.N.Nodup) (hi : X.N[i]? = some n) (hl : X.env.scope.names.lookup n = some .local) (hex : X.ex = []) (hst : X.stack = X.env :: X.outer) (hf : X.env.frame = some L)
    (hs : ∀ ea, PSs (X.held ea) (b0 :: suite) ts) (hw1 : swapsWith e1 none p1.line X.env = pure false := by rfl) (hw2 : swapsWith e2 none p2.line X.env = pure false := by rfl) (hdb : (x == ("__debug__" : Str)) = false := by decide) :
    PS X (.Try [.If c [.Expr e1 p1] [.Expr e2 p2] ip] [.ExceptHandler (some (.Name x np)) (some n) (b0 :: suite) hp] [] [] pos) (tTry2 X.K tc t1 t2 D i ts) := by
  intro pins s σ H En I h
  refine try_caught I hg hm hD hN hi hl hex hst hf hs hdb (wpAny_execs_cons (wpAny_If (wpAny_mono (hc pins s σ H _ (I.wish _) h) (fun d s1 ⟨H1, I1, q1⟩ => ?_) fun _ _ z => z.elim)))
  have I1' := I1.unwish
  cases d with
  | true =>
    refine wpAny_execs_cons (wpAny_Expr_any (wpAny_mono (h1 pins s1 σ H1 _ _ I1' q1) (fun v s2 ⟨y, H2, I2, r2, q2⟩ => ?_) fun _ _ z => z) I1'.quiet hw1)
    exact wpAny_execs_nil (wpAny_execs_nil ⟨rfl, H2, I2, q2⟩)
  | false =>
    refine wpAny_execs_cons (wpAny_Expr_any (wpAny_mono (h2 pins s1 σ H1 _ _ I1' q1) (fun v s2 ⟨y, H2, I2, r2, q2⟩ => ?_) fun _ _ z => z) I1'.quiet hw2)
    exact wpAny_execs_nil (wpAny_execs_nil ⟨rfl, H2, I2, q2⟩)
end
end L2
namespace TX
open PySem PySem.Builtin PySem.Builtin.Str
theorem fm_congr {α β : Type} {f g : α → Option β} : ∀ {l : List α}, (∀ x ∈ l, f x = g x) → l.filterMap f = l.filterMap g
  | [], _ => rfl
  | x :: l, h => by rw [List.filterMap_cons, List.filterMap_cons, h x (List.mem_cons_self ..), fm_congr fun y hy => h y (List.mem_cons_of_mem _ hy)]
theorem range_all (l : List Nat) : (List.range l.length).filterMap (l[·]?) = l := by
  apply List.ext_getElem?
  intro i
  have e : (List.range l.length).filterMap (l[·]?) = (List.range l.length).map fun i => l.getD i 0 := by
    rw [← List.filterMap_eq_map']
    refine fm_congr fun x hx => ?_
    have := List.mem_range.mp hx
    simp [List.getElem?_eq_getElem this]
  rw [e]
  by_cases h : i < l.length
  · simp [h]
  · simp [List.getElem?_eq_none (Nat.not_lt.mp h), h]
theorem range_take (l : List Nat) (j : Nat) (hj : j ≤ l.length) : (List.range j).filterMap (l[·]?) = l.take j := by
  have := range_all (l.take j)
  rw [List.length_take, Nat.min_eq_left hj] at this
  rw [← this]
  refine fm_congr fun x hx => ?_
  rw [List.getElem?_take_of_lt (List.mem_range.mp hx)]
theorem range_drop (l : List Nat) (i : Nat) : ((List.range (l.length - i)).map fun k => i + k).filterMap (l[·]?) = l.drop i := by
  have := range_all (l.drop i)
  rw [List.length_drop] at this
  rw [← this, List.filterMap_map]
  refine fm_congr fun x hx => ?_
  show l[i + x]? = _
  rw [List.getElem?_drop]
theorem cs_slice (z : Str) (l u : Option Int) : cs (Txt.slice z l u) = (strSliceIndices l u 1 z.length).filterMap ((cs z)[·]?) ∨ ((strSliceIndices l u 1 z.length).length = z.length ∧ Txt.slice z l u = z) := by
  unfold Txt.slice
  split
  · rename_i h
    simp only [Bool.and_eq_true, beq_iff_eq] at h
    exact .inr ⟨h.2, rfl⟩
  · left
    show ((List.filterMap _ _).toArray).toList = _
    rw [List.toList_toArray]
    refine fm_congr fun x _ => ?_
    simp [cs]
theorem cs_upto (z : Str) {j : Int} (h0 : 0 ≤ j) (hj : j ≤ z.length) : cs (Txt.slice z none (some j)) = (cs z).take j.toNat := by
  have e : strSliceIndices none (some j) 1 z.length = List.range j.toNat := by
    unfold strSliceIndices sliceRange
    simp only [show (1 : Int) > 0 by decide, if_true, if_neg (show ¬ j < 0 by omega)]
    rw [Int.min_eq_left hj, Int.max_eq_right h0]
    by_cases hz : 0 < j
    · rw [if_pos hz, show (j - 0 + 1 - 1) / 1 = j by omega]
      refine (List.map_congr_left fun k _ => ?_).trans (List.map_id _)
      show ((0 : Int) + 1 * (k : Int)).toNat = k
      omega
    · rw [if_neg hz, show j = 0 by omega]
      rfl
  rcases cs_slice z none (some j) with h | ⟨h, h'⟩
  · rw [h, e, range_take _ _ (by rw [cs_len]; omega)]
  · rw [h', List.take_of_length_le]
    rw [e, List.length_range] at h
    rw [cs_len]; omega
theorem cs_from (z : Str) {i : Int} (h0 : 0 ≤ i) (hi : i ≤ z.length) : cs (Txt.slice z (some i) none) = (cs z).drop i.toNat := by
  have e : strSliceIndices (some i) none 1 z.length = (List.range ((cs z).length - i.toNat)).map fun k => i.toNat + k := by
    unfold strSliceIndices sliceRange
    simp only [show (1 : Int) > 0 by decide, if_true, if_neg (show ¬ i < 0 by omega)]
    rw [Int.min_eq_left hi, Int.max_eq_right h0, cs_len]
    by_cases hz : i < z.length
    · rw [if_pos hz, show ((z.length : Int) - i + 1 - 1) / 1 = ((z.length - i.toNat : Nat) : Int) by omega, Int.toNat_natCast]
      refine List.map_congr_left fun k _ => ?_
      show (i + 1 * (k : Int)).toNat = i.toNat + k
      omega
    · rw [if_neg hz, show z.length - i.toNat = 0 by omega]
      rfl
  rcases cs_slice z (some i) none with h | ⟨h, h'⟩
  · rw [h, e, range_drop]
  · rw [h']
    rw [e, List.length_map, List.length_range, cs_len] at h
    by_cases hz : i.toNat = 0
    · rw [hz]; rfl
    · have hl : z.length = 0 := by omega
      have : cs z = [] := by
        have := cs_len z
        rw [hl] at this
        exact List.length_eq_zero_iff.mp this
      rw [this, List.drop_nil]
end TX

set_option Elab.async false
set_option linter.all false
set_option maxRecDepth 100000
/-! which texts are read -/
namespace TX
open PySem PySem.StrLaws PySem.Builtin PySem.Builtin.Str
def isDig (c : Nat) : Bool := decide (48 ≤ c) && decide (c ≤ 57)
/-- a word that writes a number -/
def okN (z : Str) : Bool := decide (1 ≤ z.length) && (decide (z.length ≤ 60) && ((cs z).all isDig && (decide ((cs z)[0]? ≠ some 48) || decide (z = "0"))))
def okNs (ws : List Str) : Bool := ws.all okN
/-- the words of a part: the first, and so many numbers -/
def okP (k : Str) (m : Nat) (ws : List Str) : Bool := decide (ws[0]? = some k) && (decide ((ws.drop 1).length = m) && okNs (ws.drop 1))
def okH (ws : List Str) : Bool := decide (ws[0]? = some ("names" : Str)) && (decide (2 ≤ ws.length) && okNs (ws.drop 1))
def okR : Bool → List (List Str) → Bool
  | _, [] => true
  | seen, ws :: r => if ws[0]? = some ("rope" : Str) ∧ seen = false then okP "rope" 5 ws && okR seen r else if ws[0]? = some ("caller" : Str) then okP "caller" 2 ws && okR true r else false
def okT : List (List Str) → Bool
  | [] => false
  | h :: r => okH h && okR false r
def told (x : Str) : List (List Str) := (Txt.split x sep2).map fun p => Txt.split p sep1

/-! ### what is read has a form -/
def Part (ws : List Str) : Prop := ∃ k r, ws = k :: r ∧ (k = "names" ∨ k = "rope" ∨ k = "caller") ∧ r ≠ [] ∧ ∀ z ∈ r, okN z = true
theorem okNs_mem {ws : List Str} (h : okNs ws = true) : ∀ z ∈ ws, okN z = true := fun z hz => List.all_eq_true.mp h z hz
theorem part_of {k : Str} {ws : List Str} (hk : k = "names" ∨ k = "rope" ∨ k = "caller") (h1 : ws[0]? = some k) (h2 : 1 ≤ (ws.drop 1).length) (h3 : okNs (ws.drop 1) = true) : Part ws := by
  cases ws with
  | nil => simp at h1
  | cons a r =>
    have ea : a = k := by simpa using h1
    subst ea
    exact ⟨a, r, rfl, hk, by intro z; subst z; simp at h2, okNs_mem h3⟩
theorem okP_part {k : Str} {m : Nat} {ws : List Str} (hk : k = "names" ∨ k = "rope" ∨ k = "caller") (hm : 1 ≤ m) (h : okP k m ws = true) : Part ws := by
  unfold okP at h
  simp only [Bool.and_eq_true, decide_eq_true_eq] at h
  exact part_of hk h.1 (by omega) h.2.2
theorem okR_parts : ∀ {l : List (List Str)} {b : Bool}, okR b l = true → ∀ ws ∈ l, Part ws
  | [], _, _, ws, h => absurd h (by simp)
  | w :: r, b, h, ws, hm => by
    unfold okR at h
    split at h
    · rw [Bool.and_eq_true] at h
      rcases List.mem_cons.mp hm with e | hm
      · rw [e]; exact okP_part (.inr (.inl rfl)) (by decide) h.1
      · exact okR_parts h.2 ws hm
    · split at h
      · rw [Bool.and_eq_true] at h
        rcases List.mem_cons.mp hm with e | hm
        · rw [e]; exact okP_part (.inr (.inr rfl)) (by decide) h.1
        · exact okR_parts h.2 ws hm
      · cases h
theorem okT_parts : ∀ {l : List (List Str)}, okT l = true → ∀ ws ∈ l, Part ws
  | [], h, _, _ => by cases h
  | w :: r, h, ws, hm => by
    unfold okT at h
    rw [Bool.and_eq_true] at h
    rcases List.mem_cons.mp hm with e | hm
    · have h1 := h.1
      unfold okH at h1
      simp only [Bool.and_eq_true, decide_eq_true_eq] at h1
      rw [e]; exact part_of (.inl rfl) h1.1 (by rw [List.length_drop]; omega) h1.2.2
    · exact okR_parts h.2 ws hm

/-! ### signs and blanks -/
def isLet (c : Nat) : Bool := decide (97 ≤ c) && decide (c ≤ 122)
def okw (x y : Nat) : Bool := x != 32 && (y != 32 && (y != 59 && !(isLet x && isLet y)))
/-- each blank stands between two signs that go with it -/
def W (l : List Nat) : Prop := ∀ k, l[k]? = some 32 → ∃ x y, 0 < k ∧ l[k - 1]? = some x ∧ l[k + 1]? = some y ∧ okw x y = true
theorem W_free {l : List Nat} (h : 32 ∉ l) : W l := fun k hk => absurd (List.mem_of_getElem? hk) h
theorem W_snoc {l : List Nat} {c : Nat} (h : W l) (hc : c ≠ 32) : W (l ++ [c]) := by
  intro k hk
  by_cases h1 : k < l.length
  · rw [List.getElem?_append_left h1] at hk
    obtain ⟨u, v, h0, e1, e2, h2⟩ := h k hk
    have h3 := (List.getElem?_eq_some_iff.mp e2).1
    exact ⟨u, v, h0, by rw [List.getElem?_append_left (by omega)]; exact e1, by rw [List.getElem?_append_left h3]; exact e2, h2⟩
  · rw [List.getElem?_append_right (by omega)] at hk
    have : c = 32 := by
      have h2 := (List.getElem?_eq_some_iff.mp hk).1
      have h3 : k - l.length = 0 := by simp at h2; omega
      rw [h3] at hk
      simpa using hk
    exact absurd this hc
theorem W_cat {a b : List Nat} {x y : Nat} (hx : a[a.length - 1]? = some x) (hy : b[0]? = some y) (ha : W a) (hb : W b) (h : okw x y = true) : W (a ++ 32 :: b) := by
  have la : 0 < a.length := by have := (List.getElem?_eq_some_iff.mp hx).1; omega
  intro k hk
  by_cases h1 : k < a.length
  · rw [List.getElem?_append_left h1] at hk
    obtain ⟨u, v, h0, e1, e2, h2⟩ := ha k hk
    have h3 := (List.getElem?_eq_some_iff.mp e2).1
    exact ⟨u, v, h0, by rw [List.getElem?_append_left (by omega)]; exact e1, by rw [List.getElem?_append_left h3]; exact e2, h2⟩
  · by_cases h2 : k = a.length
    · subst h2
      refine ⟨x, y, la, ?_, ?_, h⟩
      · rw [List.getElem?_append_left (by omega)]; exact hx
      · rw [List.getElem?_append_right (by omega), show a.length + 1 - a.length = 1 by omega]
        exact hy
    · obtain ⟨j, rfl⟩ : ∃ j, k = a.length + 1 + j := ⟨k - (a.length + 1), by omega⟩
      rw [List.getElem?_append_right (by omega), show a.length + 1 + j - a.length = j + 1 by omega, List.getElem?_cons_succ] at hk
      obtain ⟨u, v, h0, e1, e2, h3⟩ := hb j hk
      refine ⟨u, v, by omega, ?_, ?_, h3⟩
      · rw [List.getElem?_append_right (by omega), show a.length + 1 + j - 1 - a.length = (j - 1) + 1 by omega, List.getElem?_cons_succ]
        exact e1
      · rw [List.getElem?_append_right (by omega), show a.length + 1 + j + 1 - a.length = (j + 1) + 1 by omega, List.getElem?_cons_succ]
        exact e2
/-- a list of signs without a blank, not empty, by one test each -/
def Wd (f : Nat → Bool) (d : List Nat) : Prop := d ≠ [] ∧ ∀ c ∈ d, f c = true
theorem Wd.head {f : Nat → Bool} {d : List Nat} (h : Wd f d) : ∃ c, d[0]? = some c ∧ f c = true := by
  cases d with
  | nil => exact absurd rfl h.1
  | cons c t => exact ⟨c, rfl, h.2 c (List.mem_cons_self ..)⟩
theorem Wd.last {f : Nat → Bool} {d : List Nat} (h : Wd f d) : ∃ c, d[d.length - 1]? = some c ∧ f c = true := by
  have hl : 0 < d.length := List.length_pos_iff.mpr h.1
  exact ⟨d[d.length - 1], List.getElem?_eq_getElem (by omega), h.2 _ (List.getElem_mem _)⟩
theorem dig_nb {c : Nat} (h : isDig c = true) : c ≠ 32 ∧ c ≠ 59 ∧ isLet c = false := by
  unfold isDig at h
  simp only [Bool.and_eq_true, decide_eq_true_eq] at h
  refine ⟨by omega, by omega, ?_⟩
  unfold isLet
  rw [decide_eq_false (by omega)]
  rfl
theorem let_nb {c : Nat} (h : isLet c = true) : c ≠ 32 ∧ c ≠ 59 := by
  unfold isLet at h
  simp only [Bool.and_eq_true, decide_eq_true_eq] at h
  omega
theorem okw_dig {x y : Nat} (hx : x ≠ 32) (hy : isDig y = true) : okw x y = true := by
  obtain ⟨h1, h2, h3⟩ := dig_nb hy
  unfold okw
  rw [h3]
  simp [hx, h1, h2]
theorem nums_W : ∀ {ds : List (List Nat)}, ds ≠ [] → (∀ d ∈ ds, Wd isDig d) → W (inter [32] ds) ∧ ∃ c, (inter [32] ds)[0]? = some c ∧ isDig c = true
  | [], h, _ => absurd rfl h
  | [d], _, h => by
    have hd := h d (List.mem_cons_self ..)
    exact ⟨W_free fun z => (dig_nb (hd.2 _ z)).1 rfl, hd.head⟩
  | d :: e :: r, _, h => by
    have hd := h d (List.mem_cons_self ..)
    obtain ⟨w, c, hc, dc⟩ := nums_W (ds := e :: r) (by simp) fun x hx => h x (List.mem_cons_of_mem _ hx)
    obtain ⟨x, hx, dx⟩ := hd.last
    refine ⟨W_cat (a := d) hx hc (W_free fun z => (dig_nb (hd.2 _ z)).1 rfl) w (okw_dig (dig_nb dx).1 dc), ?_⟩
    obtain ⟨y, hy, dy⟩ := hd.head
    refine ⟨y, ?_, dy⟩
    show (d ++ _)[0]? = _
    rw [List.getElem?_append_left (List.length_pos_iff.mpr hd.1)]
    exact hy
theorem okN_wd {z : Str} (h : okN z = true) : Wd isDig (cs z) := by
  unfold okN at h
  simp only [Bool.and_eq_true, decide_eq_true_eq] at h
  refine ⟨fun e => ?_, fun c hc => List.all_eq_true.mp h.2.2.1 c hc⟩
  have := cs_len z
  rw [e] at this
  have h1 := h.1
  simp at this
  omega
theorem kw_wd {k : Str} (h : k = "names" ∨ k = "rope" ∨ k = "caller") : Wd isLet (cs k) := by
  rcases h with rfl | rfl | rfl
  · exact ⟨by decide +kernel, by decide +kernel⟩
  · exact ⟨by decide +kernel, by decide +kernel⟩
  · exact ⟨by decide +kernel, by decide +kernel⟩
def kwL (c : Nat) : Bool := [110, 97, 109, 101, 115, 114, 111, 112, 99, 108].contains c
theorem kw_let {k : Str} (h : k = "names" ∨ k = "rope" ∨ k = "caller") : ∀ c ∈ cs k, kwL c = true := by
  rcases h with rfl | rfl | rfl
  · decide +kernel
  · decide +kernel
  · decide +kernel
theorem part_W {ws : List Str} (h : Part ws) : W (inter [32] (ws.map cs)) ∧ (∃ c, (inter [32] (ws.map cs))[0]? = some c ∧ isLet c = true) ∧ ∀ c ∈ inter [32] (ws.map cs), c = 32 ∨ isDig c = true ∨ kwL c = true := by
  obtain ⟨k, r, rfl, hk, hr, hz⟩ := h
  have hkw := kw_wd hk
  have hd : ∀ d ∈ r.map cs, Wd isDig d := fun d hd => by
    obtain ⟨z, h1, rfl⟩ := List.mem_map.mp hd
    exact okN_wd (hz z h1)
  have hne : r.map cs ≠ [] := by simpa using hr
  obtain ⟨w, c, hc, dc⟩ := nums_W hne hd
  have e : inter [32] ((k :: r).map cs) = cs k ++ 32 :: inter [32] (r.map cs) := by
    cases r with
    | nil => exact absurd rfl hr
    | cons a b => rfl
  obtain ⟨x, hx, lx⟩ := hkw.last
  obtain ⟨y, hy, ly⟩ := hkw.head
  rw [e]
  refine ⟨W_cat hx hc (W_free fun z => (let_nb (hkw.2 _ z)).1 rfl) w (okw_dig (let_nb lx).1 dc), ⟨y, ?_, ly⟩, fun q hq => ?_⟩
  · rw [List.getElem?_append_left (List.length_pos_iff.mpr hkw.1)]
    exact hy
  · rcases List.mem_append.mp hq with h | h
    · exact .inr (.inr (kw_let hk q h))
    · rcases List.mem_cons.mp h with h | h
      · exact .inl h
      · by_cases h32 : q = 32
        · exact .inl h32
        · refine .inr (.inl ?_)
          have : ∀ {ds : List (List Nat)}, (∀ d ∈ ds, Wd isDig d) → ∀ q ∈ inter [32] ds, q = 32 ∨ isDig q = true := by
            intro ds
            induction ds with
            | nil => intro _ q hq; simp [inter] at hq
            | cons d r ih =>
              intro hds q hq
              cases r with
              | nil => exact .inr ((hds d (List.mem_cons_self ..)).2 q hq)
              | cons e r =>
                rcases List.mem_append.mp (show q ∈ d ++ ([32] ++ inter [32] (e :: r)) from hq) with h | h
                · exact .inr ((hds d (List.mem_cons_self ..)).2 q h)
                · rcases List.mem_append.mp h with h | h
                  · exact .inl (by simpa using h)
                  · exact ih (fun x hx => hds x (List.mem_cons_of_mem _ hx)) q h
          exact (this hd q h).resolve_left h32
theorem town_W : ∀ {l : List (List Str)}, l ≠ [] → (∀ ws ∈ l, Part ws) → W (inter [59, 32] (l.map fun ws => inter [32] (ws.map cs))) ∧ (∃ c, (inter [59, 32] (l.map fun ws => inter [32] (ws.map cs)))[0]? = some c ∧ isLet c = true) ∧ ∀ c ∈ inter [59, 32] (l.map fun ws => inter [32] (ws.map cs)), c = 32 ∨ c = 59 ∨ isDig c = true ∨ kwL c = true
  | [], h, _ => absurd rfl h
  | [ws], _, h => by
    obtain ⟨a, b, c⟩ := part_W (h ws (List.mem_cons_self ..))
    exact ⟨a, b, fun q hq => (c q hq).elim .inl fun z => .inr (.inr z)⟩
  | ws :: vs :: r, _, h => by
    obtain ⟨a, ⟨y, hy, ly⟩, c⟩ := part_W (h ws (List.mem_cons_self ..))
    obtain ⟨a2, ⟨y2, hy2, ly2⟩, c2⟩ := town_W (l := vs :: r) (by simp) fun x hx => h x (List.mem_cons_of_mem _ hx)
    have hlp : 0 < (inter [32] (ws.map cs)).length := (List.getElem?_eq_some_iff.mp hy).1
    have e : inter [59, 32] ((ws :: vs :: r).map fun ws => inter [32] (ws.map cs)) = (inter [32] (ws.map cs) ++ [59]) ++ 32 :: inter [59, 32] ((vs :: r).map fun ws => inter [32] (ws.map cs)) := by
      rw [List.append_assoc]
      rfl
    rw [e]
    refine ⟨W_cat (x := 59) (by simp) hy2 (W_snoc a (by decide)) a2 ?_, ⟨y, ?_, ly⟩, fun q hq => ?_⟩
    · obtain ⟨h1, h2⟩ := let_nb ly2
      unfold okw
      simp [h1, h2, isLet]
    · rw [List.append_assoc, List.getElem?_append_left hlp]
      exact hy
    · rcases List.mem_append.mp hq with h | h
      · rcases List.mem_append.mp h with h | h
        · exact (c q h).elim .inl fun z => .inr (.inr z)
        · exact .inr (.inl (by simpa using h))
      · rcases List.mem_cons.mp h with h | h
        · exact .inl h
        · exact c2 q h
theorem cs_told (x : Str) : cs x = inter [59, 32] ((told x).map fun ws => inter [32] (ws.map cs)) := by
  have h := congrArg cs (join_split x sep2)
  rw [cs_join, show cs sep2 = [59, 32] by decide +kernel] at h
  rw [← h]
  congr 1
  unfold told
  rw [List.map_map]
  refine List.map_congr_left fun p _ => ?_
  have h := congrArg cs (join_split p sep1)
  rw [cs_join, show cs sep1 = [32] by decide +kernel] at h
  exact h.symm
theorem told_ne (x : Str) : told x ≠ [] := by
  unfold told
  intro h
  exact split_ne x sep2 (List.map_eq_nil_iff.mp h)
theorem read_W {x : Str} (h : okT (told x) = true) : W (cs x) := by
  rw [cs_told]; exact (town_W (told_ne x) (okT_parts h)).1
theorem read_alpha {x : Str} (h : okT (told x) = true) : ∀ c ∈ cs x, c = 32 ∨ c = 59 ∨ isDig c = true ∨ kwL c = true := by
  have := (town_W (told_ne x) (okT_parts h)).2.2
  rw [← cs_told] at this
  exact this
theorem read_semi {x : Str} (h : okT (told x) = true) {k : Nat} (hk : (cs x)[k]? = some 59) : (cs x)[k + 1]? = some 32 := by
  have e := cs_told x
  have hf : ∀ p ∈ (told x).map fun ws => inter [32] (ws.map cs), 59 ∉ p := fun p hp => by
    obtain ⟨ws, hw, rfl⟩ := List.mem_map.mp hp
    intro z
    rcases (part_W (okT_parts h ws hw)).2.2 59 z with q | q | q
    · cases q
    · exact absurd q (by decide)
    · exact absurd q (by decide)
  rw [e] at hk
  have h3 := inter_at (c := 59) (t := [32]) (by decide) hf hk
  rw [← e] at h3
  have h4 := congrArg (fun l : List Nat => l[1]?) h3
  simpa using h4

/-! ### what is not read -/
theorem told_join {l : List Str} (hne : l ≠ []) (hf : ∀ p ∈ l, 59 ∉ cs p) : told (Txt.join sep2 l) = l.map fun p => Txt.split p sep1 := by
  unfold told
  rw [join_eq, split_two (c := 59) (t := [32]) (by decide +kernel) (by decide) (by decide +kernel) hne hf]
theorem okR_bad : ∀ {l : List (List Str)} {b : Bool} {ws : List Str}, ws ∈ l → okP "rope" 5 ws = false → okP "caller" 2 ws = false → okR b l = false
  | [], _, _, h, _, _ => absurd h (by simp)
  | w :: r, b, ws, hm, h1, h2 => by
    unfold okR
    rcases List.mem_cons.mp hm with e | hm
    · subst e
      split
      · rw [h1]; rfl
      · split
        · rw [h2]; rfl
        · rfl
    · split
      · rw [okR_bad hm h1 h2, Bool.and_false]
      · split
        · rw [okR_bad hm h1 h2, Bool.and_false]
        · rfl
theorem okR_order : ∀ {l : List (List Str)} {b : Bool} {c r : List Str}, c[0]? = some ("caller" : Str) → r[0]? = some ("rope" : Str) → okR b (l ++ [c, r]) = false
  | [], b, c, r, hc, hr => by
    show okR b [c, r] = false
    unfold okR
    rw [if_neg (by rw [hc]; intro z; exact absurd z.1 (by decide +kernel)), if_pos hc]
    unfold okR
    rw [if_neg (by intro z; cases z.2), if_neg (by rw [hr]; decide +kernel), Bool.and_false]
  | w :: l, b, c, r, hc, hr => by
    show okR b (w :: (l ++ [c, r])) = false
    unfold okR
    split
    · rw [okR_order hc hr, Bool.and_false]
    · split
      · rw [okR_order hc hr, Bool.and_false]
      · rfl
theorem inter_mid {sep : List Nat} : ∀ (a : List (List Nat)) (p : List Nat) (b : List (List Nat)), ∃ A B, inter sep (a ++ p :: b) = A ++ (p ++ B) ∧ (B = [] ∨ ∃ B', B = sep ++ B')
  | [], p, [] => ⟨[], [], by simp [inter], .inl rfl⟩
  | [], p, q :: r => ⟨[], sep ++ inter sep (q :: r), rfl, .inr ⟨_, rfl⟩⟩
  | [x], p, b => by
    obtain ⟨A, B, e, h⟩ := inter_mid [] p b
    refine ⟨x ++ (sep ++ A), B, ?_, h⟩
    show x ++ (sep ++ inter sep (p :: b)) = _
    rw [show inter sep (p :: b) = A ++ (p ++ B) from e]
    simp
  | x :: y :: a, p, b => by
    obtain ⟨A, B, e, h⟩ := inter_mid (y :: a) p b
    refine ⟨x ++ (sep ++ A), B, ?_, h⟩
    show x ++ (sep ++ inter sep (y :: (a ++ p :: b))) = _
    rw [show inter sep (y :: (a ++ p :: b)) = A ++ (p ++ B) from e]
    simp
/-- a part that ends with the sign that parts are cut at -/
theorem semi_bad {a b : List Str} {p : Str} {q : List Nat} (hp : cs p = q ++ [59]) : okT (told (Txt.join sep2 (a ++ p :: b))) = false := by
  cases h : okT (told (Txt.join sep2 (a ++ p :: b))) with
  | false => rfl
  | true =>
    exfalso
    have e : cs (Txt.join sep2 (a ++ p :: b)) = inter [59, 32] ((a.map cs) ++ cs p :: b.map cs) := by
      rw [join_eq, cs_join, show cs sep2 = [59, 32] by decide +kernel, List.map_append, List.map_cons]
    obtain ⟨A, B, e2, hB⟩ := inter_mid (sep := [59, 32]) (a.map cs) (cs p) (b.map cs)
    rw [e2, hp] at e
    have hk : (cs (Txt.join sep2 (a ++ p :: b)))[A.length + q.length]? = some 59 := by
      rw [e, List.getElem?_append_right (by omega), List.append_assoc, List.getElem?_append_right (by omega), show A.length + q.length - A.length - q.length = 0 by omega]
      rfl
    have h2 := read_semi h hk
    rw [e, List.getElem?_append_right (by omega), List.append_assoc, List.getElem?_append_right (by omega), show A.length + q.length + 1 - A.length - q.length = 1 by omega] at h2
    have h3 : B[0]? = some 32 := by simpa using h2
    rcases hB with rfl | ⟨B', rfl⟩
    · cases h3
    · cases h3
theorem okT_cons {h : List Str} {r : List (List Str)} (hb : okR false r = false) : okT (h :: r) = false := by
  show (okH h && okR false r) = false
  rw [hb, Bool.and_false]
/-- a part that is none, anywhere behind the first -/
theorem part_bad {f : Str} {a b : List Str} {p : Str} (hf : 59 ∉ cs f) (ha : ∀ q ∈ a, 59 ∉ cs q) (hb : ∀ q ∈ b, 59 ∉ cs q) (hp : 59 ∉ cs p) (h1 : okP "rope" 5 (Txt.split p sep1) = false) (h2 : okP "caller" 2 (Txt.split p sep1) = false) :
    okT (told (Txt.join sep2 (f :: (a ++ p :: b)))) = false := by
  rw [told_join (by simp) fun q hq => ?_]
  · refine okT_cons (okR_bad (ws := Txt.split p sep1) ?_ h1 h2)
    exact List.mem_map.mpr ⟨p, by simp, rfl⟩
  · rcases List.mem_cons.mp hq with e | hq
    · rw [e]; exact hf
    · rcases List.mem_append.mp hq with hq | hq
      · exact ha q hq
      · rcases List.mem_cons.mp hq with e | hq
        · rw [e]; exact hp
        · exact hb q hq
/-- a sign that no such text has -/
theorem sign_bad {x : Str} {c : Nat} (hc : c ∈ cs x) (h : (c == 32 || (c == 59 || (isDig c || kwL c))) = false) : okT (told x) = false := by
  cases q : okT (told x) with
  | false => rfl
  | true =>
    exfalso
    rcases read_alpha q c hc with e | e | e | e
    · subst e; cases h
    · subst e; cases h
    · rw [e] at h; simp at h
    · rw [e] at h; simp at h
def adjB : List Nat → Bool
  | x :: y :: r => !okw x y && adjB (y :: r)
  | _ => true
theorem adj_at : ∀ {l : List Nat} {k x y : Nat}, adjB l = true → l[k]? = some x → l[k + 1]? = some y → okw x y = false
  | [], k, x, y, _, h, _ => by cases h
  | [a], k, x, y, _, _, h => by simp at h
  | a :: b :: r, 0, x, y, h, h1, h2 => by
    unfold adjB at h
    rw [Bool.and_eq_true, Bool.not_eq_true'] at h
    have e1 : a = x := by simpa using h1
    have e2 : b = y := by simpa using h2
    rw [← e1, ← e2]; exact h.1
  | a :: b :: r, k + 1, x, y, h, h1, h2 => by
    unfold adjB at h
    rw [Bool.and_eq_true] at h
    exact adj_at (l := b :: r) (k := k) h.2 (by simpa using h1) (by simpa using h2)
/-- a blank more -/
theorem blank_bad {x : Str} {g : List Nat} {k : Nat} (hg : adjB g = true) (hk : k ≤ g.length) (e : cs x = g.take k ++ 32 :: g.drop k) : okT (told x) = false := by
  cases q : okT (told x) with
  | false => rfl
  | true =>
    exfalso
    have w := read_W q
    rw [e] at w
    have lt : (g.take k).length = k := by rw [List.length_take]; omega
    obtain ⟨u, v, h0, h1, h2, h3⟩ := w k (by rw [List.getElem?_append_right (by omega), lt, Nat.sub_self]; rfl)
    rw [List.getElem?_append_left (by omega), List.getElem?_take_of_lt (by omega)] at h1
    rw [List.getElem?_append_right (by omega), lt, show k + 1 - k = 0 + 1 by omega, List.getElem?_cons_succ, List.getElem?_drop] at h2
    obtain ⟨j, rfl⟩ : ∃ j, k = j + 1 := ⟨k - 1, by omega⟩
    rw [adj_at hg (k := j) (by simpa using h1) (by simpa using h2)] at h3
    cases h3
theorem inter_all {sep : List Nat} {f : Nat → Prop} (hs : ∀ c ∈ sep, f c) : ∀ {l : List (List Nat)}, (∀ p ∈ l, ∀ c ∈ p, f c) → ∀ c ∈ inter sep l, f c
  | [], _, c, hc => by simp [inter] at hc
  | [p], h, c, hc => h p (List.mem_cons_self ..) c hc
  | p :: q :: r, h, c, hc => by
    rcases List.mem_append.mp (show c ∈ p ++ (sep ++ inter sep (q :: r)) from hc) with z | z
    · exact h p (List.mem_cons_self ..) c z
    · rcases List.mem_append.mp z with z | z
      · exact hs c z
      · exact inter_all hs (fun x hx => h x (List.mem_cons_of_mem _ hx)) c z
theorem join_ascii {l : List Str} (h : ∀ p ∈ l, p.cps.all (· < 128) = true) : (Txt.join sep2 l).cps.all (· < 128) = true := by
  rw [← Array.all_toList, List.all_eq_true]
  intro c hc
  have hc : c ∈ cs (Txt.join sep2 l) := hc
  rw [join_eq, cs_join, show cs sep2 = [59, 32] by decide +kernel] at hc
  refine decide_eq_true (inter_all (f := fun c => c < 128) (by decide) (fun p hp c hc => ?_) c hc)
  obtain ⟨q, hq, rfl⟩ := List.mem_map.mp hp
  have := h q hq
  rw [← Array.all_toList, List.all_eq_true] at this
  exact of_decide_eq_true (this c hc)
end TX

set_option Elab.async false
set_option linter.all false
set_option maxRecDepth 100000
set_option maxHeartbeats 4000000
namespace K38
open PySem L2
def top (i : Nat) : Stmt := PySem.Challenge.pw_knotless_k38_town_text_refused.main.body.getD i (.Pass ⟨0, 0, 0, 0⟩)
abbrev s_read_number : Stmt := (top 16)
abbrev s_read_numbers : Stmt := (top 17)
abbrev s_read_town : Stmt := (top 18)
abbrev s_read_names : Stmt := (top 19)
abbrev s_w_cell_at : Stmt := (top 21)
abbrev s_w_good : Stmt := (top 22)
abbrev s_w_odd_part : Stmt := (top 23)
abbrev s_w_odd_head : Stmt := (top 24)
abbrev s_w_bad : Stmt := (top 25)
abbrev s_w_odd_word : Stmt := (top 26)
abbrev s_w_refused : Stmt := (top 27)
abbrev s_law : Stmt := (top 28)
theorem sc_read_number : FnScope ["word"] ["word"] (defScope s_read_number) := ⟨rfl, rfl, rfl, by decide +kernel, rfl, by decide +kernel, by decide +kernel⟩
theorem nd_read_number_c0 : (["sign"] : List Str).Nodup := by decide +kernel
theorem sc_read_numbers : FnScope ["words", "many"] ["words", "many"] (defScope s_read_numbers) := ⟨rfl, rfl, rfl, by decide +kernel, rfl, by decide +kernel, by decide +kernel⟩
theorem nd_read_numbers_c0 : (["word"] : List Str).Nodup := by decide +kernel
theorem sc_read_town : FnScope ["text", "told", "names", "ropes", "callers", "words"] ["text"] (defScope s_read_town) := ⟨rfl, rfl, rfl, by decide +kernel, rfl, by decide +kernel, by decide +kernel⟩
theorem nd_read_town_c0 : (["part"] : List Str).Nodup := by decide +kernel
theorem sc_read_names : FnScope ["words"] ["words"] (defScope s_read_names) := ⟨rfl, rfl, rfl, by decide +kernel, rfl, by decide +kernel, by decide +kernel⟩
theorem nd_read_names_c0 : (["word"] : List Str).Nodup := by decide +kernel
theorem sc_w_cell_at : FnScope ["_law_script", "_law_k"] ["_law_script", "_law_k"] (defScope s_w_cell_at) := ⟨rfl, rfl, rfl, by decide +kernel, rfl, by decide +kernel, by decide +kernel⟩
theorem sc_w_good : FnScope ["_law_script", "_law_first", "_law_second", "_law_ropes", "_law_callers"] ["_law_script"] (defScope s_w_good) := ⟨rfl, rfl, rfl, by decide +kernel, rfl, by decide +kernel, by decide +kernel⟩
theorem nd_w_good_c0 : (["_law_number"] : List Str).Nodup := by decide +kernel
theorem nd_w_good_c1 : (["_law_number"] : List Str).Nodup := by decide +kernel
theorem sc_w_odd_part : FnScope ["_law_cell", "_law_some"] ["_law_cell"] (defScope s_w_odd_part) := ⟨rfl, rfl, rfl, by decide +kernel, rfl, by decide +kernel, by decide +kernel⟩
theorem sc_w_odd_head : FnScope ["_law_cell", "_law_some"] ["_law_cell"] (defScope s_w_odd_head) := ⟨rfl, rfl, rfl, by decide +kernel, rfl, by decide +kernel, by decide +kernel⟩
theorem sc_w_bad : FnScope ["_law_pieces", "_law_cell", "_law_kind", "_law_more", "_law_text", "_law_at"] ["_law_pieces", "_law_cell"] (defScope s_w_bad) := ⟨rfl, rfl, rfl, by decide +kernel, rfl, by decide +kernel, by decide +kernel⟩
theorem sc_w_odd_word : FnScope ["_law_cell", "_law_word", "_law_some"] ["_law_cell"] (defScope s_w_odd_word) := ⟨rfl, rfl, rfl, by decide +kernel, rfl, by decide +kernel, by decide +kernel⟩
theorem sc_w_refused : FnScope ["_law_text", "_law_town", "_law_seen", "e", "_law_others"] ["_law_text", "_law_town"] (defScope s_w_refused) := ⟨rfl, rfl, rfl, by decide +kernel, rfl, by decide +kernel, by decide +kernel⟩
theorem sc_law : FnScope ["_law_script", "_law_pieces", "_law_good_here", "_law_cell"] ["_law_script"] (defScope s_law) := ⟨rfl, rfl, rfl, by decide +kernel, rfl, by decide +kernel, by decide +kernel⟩
set_option genInjectivity false in
structure Ad where
  f_read_number : Addr
  d_read_number : FuncData
  f_read_numbers : Addr
  d_read_numbers : FuncData
  f_read_town : Addr
  d_read_town : FuncData
  f_read_names : Addr
  d_read_names : FuncData
  f_w_cell_at : Addr
  d_w_cell_at : FuncData
  f_w_good : Addr
  d_w_good : FuncData
  f_w_odd_part : Addr
  d_w_odd_part : FuncData
  f_w_odd_head : Addr
  d_w_odd_head : FuncData
  f_w_bad : Addr
  d_w_bad : FuncData
  f_w_odd_word : Addr
  d_w_odd_word : FuncData
  f_w_refused : Addr
  d_w_refused : FuncData
  f_law : Addr
  d_law : FuncData
  a_KnotError : Addr
  a_NoText : Addr
  a_Apart : Addr
  a_BadTown : Addr
  a_NoCaller : Addr
  a_NoCopy : Addr
  a_NoHouse : Addr
  a_NoLetter : Addr
  a_NoGroup : Addr
  a_NoWire : Addr
  q_FIGURES : Tok
  q_MOST_FIGURES : Tok
  q_ROPE_NUMBERS : Tok
  q_CALLER_NUMBERS : Tok
structure Txt (K : PySem.W.Frag) (mg : Str → Option Value) (t : Ad) : Prop where
  F_read_number : Fun K "read_number" "read_number" s_read_number t.f_read_number t.d_read_number
  B_read_number : Binds K t.d_read_number ["word"] []
  g_read_number : mg "read_number" = some (.ref t.f_read_number)
  F_read_numbers : Fun K "read_numbers" "read_numbers" s_read_numbers t.f_read_numbers t.d_read_numbers
  B_read_numbers : Binds K t.d_read_numbers ["words", "many"] []
  g_read_numbers : mg "read_numbers" = some (.ref t.f_read_numbers)
  F_read_town : Fun K "read_town" "read_town" s_read_town t.f_read_town t.d_read_town
  B_read_town : Binds K t.d_read_town ["text"] []
  g_read_town : mg "read_town" = some (.ref t.f_read_town)
  F_read_names : Fun K "read_names" "read_names" s_read_names t.f_read_names t.d_read_names
  B_read_names : Binds K t.d_read_names ["words"] []
  g_read_names : mg "read_names" = some (.ref t.f_read_names)
  F_w_cell_at : Fun K "_law_cell_at" "_law_cell_at" s_w_cell_at t.f_w_cell_at t.d_w_cell_at
  B_w_cell_at : Binds K t.d_w_cell_at ["_law_script", "_law_k"] []
  g_w_cell_at : mg "_law_cell_at" = some (.ref t.f_w_cell_at)
  F_w_good : Fun K "_law_good" "_law_good" s_w_good t.f_w_good t.d_w_good
  B_w_good : Binds K t.d_w_good ["_law_script"] []
  g_w_good : mg "_law_good" = some (.ref t.f_w_good)
  F_w_odd_part : Fun K "_law_odd_part" "_law_odd_part" s_w_odd_part t.f_w_odd_part t.d_w_odd_part
  B_w_odd_part : Binds K t.d_w_odd_part ["_law_cell"] []
  g_w_odd_part : mg "_law_odd_part" = some (.ref t.f_w_odd_part)
  F_w_odd_head : Fun K "_law_odd_head" "_law_odd_head" s_w_odd_head t.f_w_odd_head t.d_w_odd_head
  B_w_odd_head : Binds K t.d_w_odd_head ["_law_cell"] []
  g_w_odd_head : mg "_law_odd_head" = some (.ref t.f_w_odd_head)
  F_w_bad : Fun K "_law_bad" "_law_bad" s_w_bad t.f_w_bad t.d_w_bad
  B_w_bad : Binds K t.d_w_bad ["_law_pieces", "_law_cell"] []
  g_w_bad : mg "_law_bad" = some (.ref t.f_w_bad)
  F_w_odd_word : Fun K "_law_odd_word" "_law_odd_word" s_w_odd_word t.f_w_odd_word t.d_w_odd_word
  B_w_odd_word : Binds K t.d_w_odd_word ["_law_cell"] []
  g_w_odd_word : mg "_law_odd_word" = some (.ref t.f_w_odd_word)
  F_w_refused : Fun K "_law_refused" "_law_refused" s_w_refused t.f_w_refused t.d_w_refused
  B_w_refused : Binds K t.d_w_refused ["_law_text", "_law_town"] []
  g_w_refused : mg "_law_refused" = some (.ref t.f_w_refused)
  F_law : Fun K "law" "law" s_law t.f_law t.d_law
  B_law : Binds K t.d_law ["_law_script"] []
  g_law : mg "law" = some (.ref t.f_law)
  g_KnotError : mg "KnotError" = some (.ref t.a_KnotError)
  b_KnotError : PySem.W.kitCls K (.ref t.a_KnotError) (.type "BaseException") = some true
  g_NoText : mg "NoText" = some (.ref t.a_NoText)
  x_NoText : ExcC K t.a_NoText
  g_Apart : mg "Apart" = some (.ref t.a_Apart)
  g_BadTown : mg "BadTown" = some (.ref t.a_BadTown)
  g_NoCaller : mg "NoCaller" = some (.ref t.a_NoCaller)
  g_NoCopy : mg "NoCopy" = some (.ref t.a_NoCopy)
  g_NoHouse : mg "NoHouse" = some (.ref t.a_NoHouse)
  g_NoLetter : mg "NoLetter" = some (.ref t.a_NoLetter)
  g_NoGroup : mg "NoGroup" = some (.ref t.a_NoGroup)
  g_NoWire : mg "NoWire" = some (.ref t.a_NoWire)
  i_NoText_Apart : PySem.W.kitOne K (.ref t.a_NoText) (.ref t.a_Apart) = some false
  i_NoText_BadTown : PySem.W.kitOne K (.ref t.a_NoText) (.ref t.a_BadTown) = some false
  i_NoText_NoCaller : PySem.W.kitOne K (.ref t.a_NoText) (.ref t.a_NoCaller) = some false
  i_NoText_NoCopy : PySem.W.kitOne K (.ref t.a_NoText) (.ref t.a_NoCopy) = some false
  i_NoText_NoHouse : PySem.W.kitOne K (.ref t.a_NoText) (.ref t.a_NoHouse) = some false
  i_NoText_NoLetter : PySem.W.kitOne K (.ref t.a_NoText) (.ref t.a_NoLetter) = some false
  i_NoText_NoGroup : PySem.W.kitOne K (.ref t.a_NoText) (.ref t.a_NoGroup) = some false
  i_NoText_NoWire : PySem.W.kitOne K (.ref t.a_NoText) (.ref t.a_NoWire) = some false
  i_NoText_NoText : PySem.W.kitOne K (.ref t.a_NoText) (.ref t.a_NoText) = some true
  i_NoText_ValueError : PySem.W.kitOne K (.ref t.a_NoText) (.type "ValueError") = some true
  h_NoText_KnotError : PySem.W.kitCls K (.ref t.a_NoText) (.ref t.a_KnotError) = some true
  k_FIGURES : mg "FIGURES" = some (.str "0123456789" t.q_FIGURES)
  k_MOST_FIGURES : mg "MOST_FIGURES" = some (.int 60 t.q_MOST_FIGURES)
  k_ROPE_NUMBERS : mg "ROPE_NUMBERS" = some (.int 5 t.q_ROPE_NUMBERS)
  k_CALLER_NUMBERS : mg "CALLER_NUMBERS" = some (.int 2 t.q_CALLER_NUMBERS)
  n_len : mg "len" = none
  n_isinstance : mg "isinstance" = none
  n_int : mg "int" = none
  n_tuple : mg "tuple" = none
  n_range : mg "range" = none
  n_str : mg "str" = none
  n_all : mg "all" = none
  n_ValueError : mg "ValueError" = none
theorem el1 {α : Type} {M : List α → Prop} (h : ∀ x0, M [x0]) : ∀ us : List α, us.length = 1 → M us
  | [_], _ => h _
theorem el2 {α : Type} {M : List α → Prop} (h : ∀ x0 x1, M [x0, x1]) : ∀ us : List α, us.length = 2 → M us
  | [_, _], _ => h _ _
theorem txt_mk {K : PySem.W.Frag} {h : Heap} {mg : Str → Option Value} (X : K.In h) (G : h.Ns mainGlobals mg) {oc_read_number kV_read_number dc_read_number pm_read_number cd_read_number ct_read_number : Value} {od_read_number an_read_number : Option Addr} {sl_read_number : Array (Option Value)} {f_read_number : Addr}
    {oc_read_numbers kV_read_numbers dc_read_numbers pm_read_numbers cd_read_numbers ct_read_numbers : Value} {od_read_numbers an_read_numbers : Option Addr} {sl_read_numbers : Array (Option Value)} {f_read_numbers : Addr}
    {oc_read_town kV_read_town dc_read_town pm_read_town cd_read_town ct_read_town : Value} {od_read_town an_read_town : Option Addr} {sl_read_town : Array (Option Value)} {f_read_town : Addr}
    {oc_read_names kV_read_names dc_read_names pm_read_names cd_read_names ct_read_names : Value} {od_read_names an_read_names : Option Addr} {sl_read_names : Array (Option Value)} {f_read_names : Addr}
    {oc_w_cell_at kV_w_cell_at dc_w_cell_at pm_w_cell_at cd_w_cell_at ct_w_cell_at : Value} {od_w_cell_at an_w_cell_at : Option Addr} {sl_w_cell_at : Array (Option Value)} {f_w_cell_at : Addr}
    {oc_w_good kV_w_good dc_w_good pm_w_good cd_w_good ct_w_good : Value} {od_w_good an_w_good : Option Addr} {sl_w_good : Array (Option Value)} {f_w_good : Addr}
    {oc_w_odd_part kV_w_odd_part dc_w_odd_part pm_w_odd_part cd_w_odd_part ct_w_odd_part : Value} {od_w_odd_part an_w_odd_part : Option Addr} {sl_w_odd_part : Array (Option Value)} {f_w_odd_part : Addr}
    {oc_w_odd_head kV_w_odd_head dc_w_odd_head pm_w_odd_head cd_w_odd_head ct_w_odd_head : Value} {od_w_odd_head an_w_odd_head : Option Addr} {sl_w_odd_head : Array (Option Value)} {f_w_odd_head : Addr}
    {oc_w_bad kV_w_bad dc_w_bad pm_w_bad cd_w_bad ct_w_bad : Value} {od_w_bad an_w_bad : Option Addr} {sl_w_bad : Array (Option Value)} {f_w_bad : Addr}
    {oc_w_odd_word kV_w_odd_word dc_w_odd_word pm_w_odd_word cd_w_odd_word ct_w_odd_word : Value} {od_w_odd_word an_w_odd_word : Option Addr} {sl_w_odd_word : Array (Option Value)} {f_w_odd_word : Addr}
    {oc_w_refused kV_w_refused dc_w_refused pm_w_refused cd_w_refused ct_w_refused : Value} {od_w_refused an_w_refused : Option Addr} {sl_w_refused : Array (Option Value)} {f_w_refused : Addr}
    {oc_law kV_law dc_law pm_law cd_law ct_law : Value} {od_law an_law : Option Addr} {sl_law : Array (Option Value)} {f_law : Addr}
    {X_KnotError : Addr}
    {X_NoText : Addr}
    {X_Apart : Addr}
    {X_BadTown : Addr}
    {X_NoCaller : Addr}
    {X_NoCopy : Addr}
    {X_NoHouse : Addr}
    {X_NoLetter : Addr}
    {X_NoGroup : Addr}
    {X_NoWire : Addr}
    {q_FIGURES : Tok}
    {q_MOST_FIGURES : Tok}
    {q_ROPE_NUMBERS : Tok}
    {q_CALLER_NUMBERS : Tok}
    (a_read_number : PySem.W.nsIn K mainGlobals "read_number" = some (some (.ref f_read_number)))
    (l_read_number : K.lookup f_read_number = some ⟨oc_read_number, od_read_number, .func (PySem.W.fnOf "read_number" "read_number" (defArgs s_read_number) (defBody s_read_number) (defScope s_read_number) .none kV_read_number dc_read_number pm_read_number an_read_number cd_read_number ct_read_number), sl_read_number⟩)
    (c_read_number : PySem.W.codeIn K cd_read_number "read_number" = true)
    (k_read_number : PySem.W.keepIn K (.ref f_read_number) = true)
    (a_read_numbers : PySem.W.nsIn K mainGlobals "read_numbers" = some (some (.ref f_read_numbers)))
    (l_read_numbers : K.lookup f_read_numbers = some ⟨oc_read_numbers, od_read_numbers, .func (PySem.W.fnOf "read_numbers" "read_numbers" (defArgs s_read_numbers) (defBody s_read_numbers) (defScope s_read_numbers) .none kV_read_numbers dc_read_numbers pm_read_numbers an_read_numbers cd_read_numbers ct_read_numbers), sl_read_numbers⟩)
    (c_read_numbers : PySem.W.codeIn K cd_read_numbers "read_numbers" = true)
    (k_read_numbers : PySem.W.keepIn K (.ref f_read_numbers) = true)
    (a_read_town : PySem.W.nsIn K mainGlobals "read_town" = some (some (.ref f_read_town)))
    (l_read_town : K.lookup f_read_town = some ⟨oc_read_town, od_read_town, .func (PySem.W.fnOf "read_town" "read_town" (defArgs s_read_town) (defBody s_read_town) (defScope s_read_town) .none kV_read_town dc_read_town pm_read_town an_read_town cd_read_town ct_read_town), sl_read_town⟩)
    (c_read_town : PySem.W.codeIn K cd_read_town "read_town" = true)
    (k_read_town : PySem.W.keepIn K (.ref f_read_town) = true)
    (a_read_names : PySem.W.nsIn K mainGlobals "read_names" = some (some (.ref f_read_names)))
    (l_read_names : K.lookup f_read_names = some ⟨oc_read_names, od_read_names, .func (PySem.W.fnOf "read_names" "read_names" (defArgs s_read_names) (defBody s_read_names) (defScope s_read_names) .none kV_read_names dc_read_names pm_read_names an_read_names cd_read_names ct_read_names), sl_read_names⟩)
    (c_read_names : PySem.W.codeIn K cd_read_names "read_names" = true)
    (k_read_names : PySem.W.keepIn K (.ref f_read_names) = true)
    (a_w_cell_at : PySem.W.nsIn K mainGlobals "_law_cell_at" = some (some (.ref f_w_cell_at)))
    (l_w_cell_at : K.lookup f_w_cell_at = some ⟨oc_w_cell_at, od_w_cell_at, .func (PySem.W.fnOf "_law_cell_at" "_law_cell_at" (defArgs s_w_cell_at) (defBody s_w_cell_at) (defScope s_w_cell_at) .none kV_w_cell_at dc_w_cell_at pm_w_cell_at an_w_cell_at cd_w_cell_at ct_w_cell_at), sl_w_cell_at⟩)
    (c_w_cell_at : PySem.W.codeIn K cd_w_cell_at "_law_cell_at" = true)
    (k_w_cell_at : PySem.W.keepIn K (.ref f_w_cell_at) = true)
    (a_w_good : PySem.W.nsIn K mainGlobals "_law_good" = some (some (.ref f_w_good)))
    (l_w_good : K.lookup f_w_good = some ⟨oc_w_good, od_w_good, .func (PySem.W.fnOf "_law_good" "_law_good" (defArgs s_w_good) (defBody s_w_good) (defScope s_w_good) .none kV_w_good dc_w_good pm_w_good an_w_good cd_w_good ct_w_good), sl_w_good⟩)
    (c_w_good : PySem.W.codeIn K cd_w_good "_law_good" = true)
    (k_w_good : PySem.W.keepIn K (.ref f_w_good) = true)
    (a_w_odd_part : PySem.W.nsIn K mainGlobals "_law_odd_part" = some (some (.ref f_w_odd_part)))
    (l_w_odd_part : K.lookup f_w_odd_part = some ⟨oc_w_odd_part, od_w_odd_part, .func (PySem.W.fnOf "_law_odd_part" "_law_odd_part" (defArgs s_w_odd_part) (defBody s_w_odd_part) (defScope s_w_odd_part) .none kV_w_odd_part dc_w_odd_part pm_w_odd_part an_w_odd_part cd_w_odd_part ct_w_odd_part), sl_w_odd_part⟩)
    (c_w_odd_part : PySem.W.codeIn K cd_w_odd_part "_law_odd_part" = true)
    (k_w_odd_part : PySem.W.keepIn K (.ref f_w_odd_part) = true)
    (a_w_odd_head : PySem.W.nsIn K mainGlobals "_law_odd_head" = some (some (.ref f_w_odd_head)))
    (l_w_odd_head : K.lookup f_w_odd_head = some ⟨oc_w_odd_head, od_w_odd_head, .func (PySem.W.fnOf "_law_odd_head" "_law_odd_head" (defArgs s_w_odd_head) (defBody s_w_odd_head) (defScope s_w_odd_head) .none kV_w_odd_head dc_w_odd_head pm_w_odd_head an_w_odd_head cd_w_odd_head ct_w_odd_head), sl_w_odd_head⟩)
    (c_w_odd_head : PySem.W.codeIn K cd_w_odd_head "_law_odd_head" = true)
    (k_w_odd_head : PySem.W.keepIn K (.ref f_w_odd_head) = true)
    (a_w_bad : PySem.W.nsIn K mainGlobals "_law_bad" = some (some (.ref f_w_bad)))
    (l_w_bad : K.lookup f_w_bad = some ⟨oc_w_bad, od_w_bad, .func (PySem.W.fnOf "_law_bad" "_law_bad" (defArgs s_w_bad) (defBody s_w_bad) (defScope s_w_bad) .none kV_w_bad dc_w_bad pm_w_bad an_w_bad cd_w_bad ct_w_bad), sl_w_bad⟩)
    (c_w_bad : PySem.W.codeIn K cd_w_bad "_law_bad" = true)
    (k_w_bad : PySem.W.keepIn K (.ref f_w_bad) = true)
    (a_w_odd_word : PySem.W.nsIn K mainGlobals "_law_odd_word" = some (some (.ref f_w_odd_word)))
    (l_w_odd_word : K.lookup f_w_odd_word = some ⟨oc_w_odd_word, od_w_odd_word, .func (PySem.W.fnOf "_law_odd_word" "_law_odd_word" (defArgs s_w_odd_word) (defBody s_w_odd_word) (defScope s_w_odd_word) .none kV_w_odd_word dc_w_odd_word pm_w_odd_word an_w_odd_word cd_w_odd_word ct_w_odd_word), sl_w_odd_word⟩)
    (c_w_odd_word : PySem.W.codeIn K cd_w_odd_word "_law_odd_word" = true)
    (k_w_odd_word : PySem.W.keepIn K (.ref f_w_odd_word) = true)
    (a_w_refused : PySem.W.nsIn K mainGlobals "_law_refused" = some (some (.ref f_w_refused)))
    (l_w_refused : K.lookup f_w_refused = some ⟨oc_w_refused, od_w_refused, .func (PySem.W.fnOf "_law_refused" "_law_refused" (defArgs s_w_refused) (defBody s_w_refused) (defScope s_w_refused) .none kV_w_refused dc_w_refused pm_w_refused an_w_refused cd_w_refused ct_w_refused), sl_w_refused⟩)
    (c_w_refused : PySem.W.codeIn K cd_w_refused "_law_refused" = true)
    (k_w_refused : PySem.W.keepIn K (.ref f_w_refused) = true)
    (a_law : PySem.W.nsIn K mainGlobals "law" = some (some (.ref f_law)))
    (l_law : K.lookup f_law = some ⟨oc_law, od_law, .func (PySem.W.fnOf "law" "law" (defArgs s_law) (defBody s_law) (defScope s_law) .none kV_law dc_law pm_law an_law cd_law ct_law), sl_law⟩)
    (c_law : PySem.W.codeIn K cd_law "law" = true)
    (k_law : PySem.W.keepIn K (.ref f_law) = true)
    (aX_KnotError : PySem.W.nsIn K mainGlobals "KnotError" = some (some (.ref X_KnotError)))
    (xb_KnotError : PySem.W.subIn K (.ref X_KnotError) (.type "BaseException") = some true)
    (xd_KnotError : PySem.W.hasDictIn K X_KnotError = true)
    (xt_KnotError : PySem.W.typeIn K (.ref X_KnotError) = some (.type "type"))
    (aX_NoText : PySem.W.nsIn K mainGlobals "NoText" = some (some (.ref X_NoText)))
    (xex_NoText : PySem.W.excIn K X_NoText veMro "ValueError.__new__" = true)
    (xga_NoText : PySem.W.findIn K (.ref X_NoText) "__getattribute__" = some (some (.builtin "BaseException.__getattribute__")))
    (xgb_NoText : PySem.W.findIn K (.ref X_NoText) "__getattr__" = some none)
    (xhd_NoText : PySem.W.hasDictIn K X_NoText = true)
    (xca_NoText : PySem.W.findIn K (.ref X_NoText) "__class__" = some (some (.builtin "object.__class__")))
    (xcg_NoText : PySem.W.specialIn K (.builtin "object.__class__") "__get__" = some (some (.builtin "getset_descriptor.__get__")))
    (xct_NoText : PySem.W.takesIn K (.builtin "object.__class__") = some true)
    (xmo_NoText : PySem.W.mroIn K X_NoText (.type "object") = some true)
    (xmb_NoText : PySem.W.mroIn K X_NoText (.type "BaseException") = some true)
    (aX_Apart : PySem.W.nsIn K mainGlobals "Apart" = some (some (.ref X_Apart)))
    (aX_BadTown : PySem.W.nsIn K mainGlobals "BadTown" = some (some (.ref X_BadTown)))
    (aX_NoCaller : PySem.W.nsIn K mainGlobals "NoCaller" = some (some (.ref X_NoCaller)))
    (aX_NoCopy : PySem.W.nsIn K mainGlobals "NoCopy" = some (some (.ref X_NoCopy)))
    (aX_NoHouse : PySem.W.nsIn K mainGlobals "NoHouse" = some (some (.ref X_NoHouse)))
    (aX_NoLetter : PySem.W.nsIn K mainGlobals "NoLetter" = some (some (.ref X_NoLetter)))
    (aX_NoGroup : PySem.W.nsIn K mainGlobals "NoGroup" = some (some (.ref X_NoGroup)))
    (aX_NoWire : PySem.W.nsIn K mainGlobals "NoWire" = some (some (.ref X_NoWire)))
    (xi_NoText_Apart : PySem.W.kitOne K (.ref X_NoText) (.ref X_Apart) = some false)
    (xi_NoText_BadTown : PySem.W.kitOne K (.ref X_NoText) (.ref X_BadTown) = some false)
    (xi_NoText_NoCaller : PySem.W.kitOne K (.ref X_NoText) (.ref X_NoCaller) = some false)
    (xi_NoText_NoCopy : PySem.W.kitOne K (.ref X_NoText) (.ref X_NoCopy) = some false)
    (xi_NoText_NoHouse : PySem.W.kitOne K (.ref X_NoText) (.ref X_NoHouse) = some false)
    (xi_NoText_NoLetter : PySem.W.kitOne K (.ref X_NoText) (.ref X_NoLetter) = some false)
    (xi_NoText_NoGroup : PySem.W.kitOne K (.ref X_NoText) (.ref X_NoGroup) = some false)
    (xi_NoText_NoWire : PySem.W.kitOne K (.ref X_NoText) (.ref X_NoWire) = some false)
    (xi_NoText_NoText : PySem.W.kitOne K (.ref X_NoText) (.ref X_NoText) = some true)
    (xi_NoText_ValueError : PySem.W.kitOne K (.ref X_NoText) (.type "ValueError") = some true)
    (xh_NoText_KnotError : PySem.W.subIn K (.ref X_NoText) (.ref X_KnotError) = some true)
    (g_FIGURES : PySem.W.nsIn K mainGlobals "FIGURES" = some (some (.str "0123456789" q_FIGURES)))
    (g_MOST_FIGURES : PySem.W.nsIn K mainGlobals "MOST_FIGURES" = some (some (.int 60 q_MOST_FIGURES)))
    (g_ROPE_NUMBERS : PySem.W.nsIn K mainGlobals "ROPE_NUMBERS" = some (some (.int 5 q_ROPE_NUMBERS)))
    (g_CALLER_NUMBERS : PySem.W.nsIn K mainGlobals "CALLER_NUMBERS" = some (some (.int 2 q_CALLER_NUMBERS)))
    (z_len : PySem.W.nsIn K mainGlobals "len" = some none)
    (z_isinstance : PySem.W.nsIn K mainGlobals "isinstance" = some none)
    (z_int : PySem.W.nsIn K mainGlobals "int" = some none)
    (z_tuple : PySem.W.nsIn K mainGlobals "tuple" = some none)
    (z_range : PySem.W.nsIn K mainGlobals "range" = some none)
    (z_str : PySem.W.nsIn K mainGlobals "str" = some none)
    (z_all : PySem.W.nsIn K mainGlobals "all" = some none)
    (z_ValueError : PySem.W.nsIn K mainGlobals "ValueError" = some none) : ∃ t, Txt K mg t := by
  have F_read_number := fun_mk (st := s_read_number) l_read_number c_read_number k_read_number
  have F_read_numbers := fun_mk (st := s_read_numbers) l_read_numbers c_read_numbers k_read_numbers
  have F_read_town := fun_mk (st := s_read_town) l_read_town c_read_town k_read_town
  have F_read_names := fun_mk (st := s_read_names) l_read_names c_read_names k_read_names
  have F_w_cell_at := fun_mk (st := s_w_cell_at) l_w_cell_at c_w_cell_at k_w_cell_at
  have F_w_good := fun_mk (st := s_w_good) l_w_good c_w_good k_w_good
  have F_w_odd_part := fun_mk (st := s_w_odd_part) l_w_odd_part c_w_odd_part k_w_odd_part
  have F_w_odd_head := fun_mk (st := s_w_odd_head) l_w_odd_head c_w_odd_head k_w_odd_head
  have F_w_bad := fun_mk (st := s_w_bad) l_w_bad c_w_bad k_w_bad
  have F_w_odd_word := fun_mk (st := s_w_odd_word) l_w_odd_word c_w_odd_word k_w_odd_word
  have F_w_refused := fun_mk (st := s_w_refused) l_w_refused c_w_refused k_w_refused
  have F_law := fun_mk (st := s_law) l_law c_law k_law
  exact ⟨⟨f_read_number, (PySem.W.fnOf "read_number" "read_number" (defArgs s_read_number) (defBody s_read_number) (defScope s_read_number) .none kV_read_number dc_read_number pm_read_number an_read_number cd_read_number ct_read_number), f_read_numbers, (PySem.W.fnOf "read_numbers" "read_numbers" (defArgs s_read_numbers) (defBody s_read_numbers) (defScope s_read_numbers) .none kV_read_numbers dc_read_numbers pm_read_numbers an_read_numbers cd_read_numbers ct_read_numbers), f_read_town, (PySem.W.fnOf "read_town" "read_town" (defArgs s_read_town) (defBody s_read_town) (defScope s_read_town) .none kV_read_town dc_read_town pm_read_town an_read_town cd_read_town ct_read_town), f_read_names, (PySem.W.fnOf "read_names" "read_names" (defArgs s_read_names) (defBody s_read_names) (defScope s_read_names) .none kV_read_names dc_read_names pm_read_names an_read_names cd_read_names ct_read_names), f_w_cell_at, (PySem.W.fnOf "_law_cell_at" "_law_cell_at" (defArgs s_w_cell_at) (defBody s_w_cell_at) (defScope s_w_cell_at) .none kV_w_cell_at dc_w_cell_at pm_w_cell_at an_w_cell_at cd_w_cell_at ct_w_cell_at), f_w_good, (PySem.W.fnOf "_law_good" "_law_good" (defArgs s_w_good) (defBody s_w_good) (defScope s_w_good) .none kV_w_good dc_w_good pm_w_good an_w_good cd_w_good ct_w_good), f_w_odd_part, (PySem.W.fnOf "_law_odd_part" "_law_odd_part" (defArgs s_w_odd_part) (defBody s_w_odd_part) (defScope s_w_odd_part) .none kV_w_odd_part dc_w_odd_part pm_w_odd_part an_w_odd_part cd_w_odd_part ct_w_odd_part), f_w_odd_head, (PySem.W.fnOf "_law_odd_head" "_law_odd_head" (defArgs s_w_odd_head) (defBody s_w_odd_head) (defScope s_w_odd_head) .none kV_w_odd_head dc_w_odd_head pm_w_odd_head an_w_odd_head cd_w_odd_head ct_w_odd_head), f_w_bad, (PySem.W.fnOf "_law_bad" "_law_bad" (defArgs s_w_bad) (defBody s_w_bad) (defScope s_w_bad) .none kV_w_bad dc_w_bad pm_w_bad an_w_bad cd_w_bad ct_w_bad), f_w_odd_word, (PySem.W.fnOf "_law_odd_word" "_law_odd_word" (defArgs s_w_odd_word) (defBody s_w_odd_word) (defScope s_w_odd_word) .none kV_w_odd_word dc_w_odd_word pm_w_odd_word an_w_odd_word cd_w_odd_word ct_w_odd_word), f_w_refused, (PySem.W.fnOf "_law_refused" "_law_refused" (defArgs s_w_refused) (defBody s_w_refused) (defScope s_w_refused) .none kV_w_refused dc_w_refused pm_w_refused an_w_refused cd_w_refused ct_w_refused), f_law, (PySem.W.fnOf "law" "law" (defArgs s_law) (defBody s_law) (defScope s_law) .none kV_law dc_law pm_law an_law cd_law ct_law), X_KnotError, X_NoText, X_Apart, X_BadTown, X_NoCaller, X_NoCopy, X_NoHouse, X_NoLetter, X_NoGroup, X_NoWire, q_FIGURES, q_MOST_FIGURES, q_ROPE_NUMBERS, q_CALLER_NUMBERS⟩, ⟨F_read_number,
    (F_read_number.binds (ps := ["word"]) fun _ _ _ _ _ _ => el1 fun _ => rfl),
    (PySem.W.mg_of X G a_read_number),
    F_read_numbers,
    (F_read_numbers.binds (ps := ["words", "many"]) fun _ _ _ _ _ _ => el2 fun _ _ => rfl),
    (PySem.W.mg_of X G a_read_numbers),
    F_read_town,
    (F_read_town.binds (ps := ["text"]) fun _ _ _ _ _ _ => el1 fun _ => rfl),
    (PySem.W.mg_of X G a_read_town),
    F_read_names,
    (F_read_names.binds (ps := ["words"]) fun _ _ _ _ _ _ => el1 fun _ => rfl),
    (PySem.W.mg_of X G a_read_names),
    F_w_cell_at,
    (F_w_cell_at.binds (ps := ["_law_script", "_law_k"]) fun _ _ _ _ _ _ => el2 fun _ _ => rfl),
    (PySem.W.mg_of X G a_w_cell_at),
    F_w_good,
    (F_w_good.binds (ps := ["_law_script"]) fun _ _ _ _ _ _ => el1 fun _ => rfl),
    (PySem.W.mg_of X G a_w_good),
    F_w_odd_part,
    (F_w_odd_part.binds (ps := ["_law_cell"]) fun _ _ _ _ _ _ => el1 fun _ => rfl),
    (PySem.W.mg_of X G a_w_odd_part),
    F_w_odd_head,
    (F_w_odd_head.binds (ps := ["_law_cell"]) fun _ _ _ _ _ _ => el1 fun _ => rfl),
    (PySem.W.mg_of X G a_w_odd_head),
    F_w_bad,
    (F_w_bad.binds (ps := ["_law_pieces", "_law_cell"]) fun _ _ _ _ _ _ => el2 fun _ _ => rfl),
    (PySem.W.mg_of X G a_w_bad),
    F_w_odd_word,
    (F_w_odd_word.binds (ps := ["_law_cell"]) fun _ _ _ _ _ _ => el1 fun _ => rfl),
    (PySem.W.mg_of X G a_w_odd_word),
    F_w_refused,
    (F_w_refused.binds (ps := ["_law_text", "_law_town"]) fun _ _ _ _ _ _ => el2 fun _ _ => rfl),
    (PySem.W.mg_of X G a_w_refused),
    F_law,
    (F_law.binds (ps := ["_law_script"]) fun _ _ _ _ _ _ => el1 fun _ => rfl),
    (PySem.W.mg_of X G a_law),
    (PySem.W.mg_of X G aX_KnotError),
    (kitBase_of xb_KnotError),
    (PySem.W.mg_of X G aX_NoText),
    ⟨xex_NoText, xga_NoText, xgb_NoText, xhd_NoText, xca_NoText, xcg_NoText, xct_NoText, xmo_NoText, xmb_NoText⟩,
    (PySem.W.mg_of X G aX_Apart),
    (PySem.W.mg_of X G aX_BadTown),
    (PySem.W.mg_of X G aX_NoCaller),
    (PySem.W.mg_of X G aX_NoCopy),
    (PySem.W.mg_of X G aX_NoHouse),
    (PySem.W.mg_of X G aX_NoLetter),
    (PySem.W.mg_of X G aX_NoGroup),
    (PySem.W.mg_of X G aX_NoWire),
    xi_NoText_Apart,
    xi_NoText_BadTown,
    xi_NoText_NoCaller,
    xi_NoText_NoCopy,
    xi_NoText_NoHouse,
    xi_NoText_NoLetter,
    xi_NoText_NoGroup,
    xi_NoText_NoWire,
    xi_NoText_NoText,
    xi_NoText_ValueError,
    (kitCls_of xd_KnotError xt_KnotError xh_NoText_KnotError),
    (PySem.W.mg_of X G g_FIGURES),
    (PySem.W.mg_of X G g_MOST_FIGURES),
    (PySem.W.mg_of X G g_ROPE_NUMBERS),
    (PySem.W.mg_of X G g_CALLER_NUMBERS),
    (PySem.W.mg_none_of X G z_len),
    (PySem.W.mg_none_of X G z_isinstance),
    (PySem.W.mg_none_of X G z_int),
    (PySem.W.mg_none_of X G z_tuple),
    (PySem.W.mg_none_of X G z_range),
    (PySem.W.mg_none_of X G z_str),
    (PySem.W.mg_none_of X G z_all),
    (PySem.W.mg_none_of X G z_ValueError)⟩⟩
end K38

set_option Elab.async false
set_option linter.all false
set_option maxRecDepth 100000
set_option maxHeartbeats 4000000
namespace K38
open PySem L2 TW PyProof.Rows
open RM (rowV byV byV_non byV_int)
seal L2.PE L2.PA L2.PT L2.PW L2.PS L2.PSs L2.PG L2.PGs L2.PI L2.PTs
section
variable {P : Program} {w : World} {K : PySem.W.Frag} {mg : Str → Option Value} {base : Heap}
theorem fig_is (c : Nat) : (!(Builtin.Str.occurrences ("0123456789" : Str) ⟨#[c]⟩ 0 ("0123456789" : Str).length 1).isEmpty) = TX.isDig c := by
  rw [StrLaws.found_one]
  by_cases h : 48 ≤ c ∧ c ≤ 57
  · have : c = 48 ∨ c = 49 ∨ c = 50 ∨ c = 51 ∨ c = 52 ∨ c = 53 ∨ c = 54 ∨ c = 55 ∨ c = 56 ∨ c = 57 := by omega
    rcases this with rfl | rfl | rfl | rfl | rfl | rfl | rfl | rfl | rfl | rfl <;> decide +kernel
  · rw [show TX.isDig c = false by unfold TX.isDig; rw [Bool.and_eq_false_iff, decide_eq_false_iff_not, decide_eq_false_iff_not]; omega]
    refine decide_eq_false fun z => ?_
    have e : ("0123456789" : Str).cps.toList = [48, 49, 50, 51, 52, 53, 54, 55, 56, 57] := by decide +kernel
    rw [e] at z
    simp only [List.mem_cons, List.not_mem_nil, or_false] at z
    omega
/-- what a word writes -/
def wval (z : Str) : Int := (PySem.intText? z).getD 0
def spReadNumber (NT : Addr) : Sp := fun vs H Q E => ∃ z : Str, vs = [.str z] ∧ z.cps.all (· < 128) = true ∧ z.length ≤ 100000 ∧ (∀ H', Same H H' → TX.okN z = true → Q (.int (wval z)) H') ∧ (∀ H', Same H H' → TX.okN z = false → E (.ref NT) none H')
theorem ok_read_number {t : Ad} (T : Txt K mg t) : FnOk P w K mg base (CX1 P w) 1 t.f_read_number t.d_read_number ["word"]  (spReadNumber t.a_NoText) := by
  refine T.F_read_number.okX sc_read_number (fun vs H Q E h => ?_) (fun cdv A outer s H vs Q E hr h => ?_)
  · obtain ⟨_, rfl, _⟩ := h; rfl
  · obtain ⟨z, rfl, hz, hl, kq, ke⟩ := h
    refine ⟨_, (pss_cons (ps_if (pt_not (pt_chain op_le op_le pe_int (pe_callB call_len_str (by rfl) T.n_len PySem.boot_len (pa_c (pv 0) pa_nil)) (pe_glob rfl T.k_MOST_FIGURES (v := .int 60) ⟨_, rfl⟩))) (pss_one (ps_raise rfl T.g_NoText T.x_NoText hr.hd (pe_fstr (pj_cons pe_str (pj_cons (pe_fmtI (pe_glob rfl T.k_MOST_FIGURES (v := .int 60) ⟨_, rfl⟩)) (pj_cons pe_str pj_nil)))))) pss_nil)
      (pss_cons (ps_if (pt_not (pt_val (pe_callB (call_all rfl) (by rfl) T.n_all boot_all (pa_c (pe_comp (compOk_of (dsc := defScope s_read_number) (N0 := ["word"]) (N2 := ["sign"]) (cap := [none]) rfl rfl (by decide +kernel)) rfl (pi_str (pv 0)) (fun _ _ _ _ => by exact (pg_name (i := 0) nd_read_number_c0 rfl (Or.inl rfl))) (fun _ _ _ _ => by exact pts_nil) (fun _ _ _ _ => by exact (pe_cmpR op_in_str (pv 0) (pe_glob rfl T.k_FIGURES (v := .str "0123456789") ⟨_, rfl⟩) (by with_unfolding_all rfl)))) pa_nil)))) (pss_one (ps_raise rfl T.g_NoText T.x_NoText hr.hd pe_str)) pss_nil)
      (pss_cons (ps_if (PW.pt (pw_and (pt_cmpR op_eq (pe_ix ix_str (pv 0) pe_int (fun _ _ => rfl)) pe_str (nomark _)) (pw_and1 (pt_cmpR op_ne (pv 0) pe_str (nomark _))))) (pss_one (ps_raise rfl T.g_NoText T.x_NoText hr.hd pe_str)) pss_nil)
      (pss_one (ps_ret (pe_callTy call_intS (by rfl) T.n_int boot_int (pa_c (pv 0) pa_nil))))))), ?_⟩
    have hsz : z.length ≤ sizeLine := Nat.le_trans hl (by decide)
    refine ⟨_, rfl, _, rfl, hsz, _, _, rfl, rfl, _, rfl, ?_⟩
    have bad1 : ¬ (1 ≤ z.length ∧ z.length ≤ 60) → TX.okN z = false := fun h => by
      unfold TX.okN
      by_cases h1 : 1 ≤ z.length
      · rw [decide_eq_false (show ¬ z.length ≤ 60 from fun q => h ⟨h1, q⟩)]; simp
      · rw [decide_eq_false h1]; rfl
    refine ite2 (fun e1 => ?_) (fun e1 => ?_)
    · have e1 : (1 : Int) ≤ z.length := of_decide_eq_true e1
      refine ⟨_, _, rfl, rfl, _, rfl, ite2 (fun e2 => ?_) (fun e2 => ?_)⟩
      · have e2 : ¬ (z.length : Int) ≤ 60 := by simpa using e2
        exact ⟨_, rfl, by decide +kernel, _, rfl, by decide, _, rfl, by decide +kernel, _, rfl, by decide +kernel, by decide +kernel, ke _ (Same.refl _) (bad1 (by omega))⟩
      · have e2 : (z.length : Int) ≤ 60 := by simpa using e2
        have hcs : z.cps.size = z.length := rfl
        refine ⟨_, rfl, _, rfl, hz, fun acc hacc => ?_⟩
        refine comp_opt (n := z.cps.size) (fun i => .str ⟨#[z.cps.getD i 0]⟩) (fun i => some (.bl (TX.isDig (z.cps.getD i 0)))) hacc its_go its_stop (fun i H2 x H3 hi s2 hx => ?_) (by omega) (fun i H2 R S hi s2 h1 h2 => ?_) (fun H2 s2 hy => ?_)
        · obtain ⟨rfl, c, hc, rfl⟩ := hx
          refine ⟨rfl, ?_⟩
          rw [Array.getD_eq_getD_getElem?, hc]
          rfl
        · refine ⟨_, rfl, _, _, rfl, rfl, ?_⟩
          rw [fig_is]
          exact h1 _ _ (Same.refl _) rfl
        · have e : (List.range z.cps.size).filterMap (fun i => some (V.bl (TX.isDig (z.cps.getD i 0)))) = ((TX.cs z).map TX.isDig).map V.bl := by
            rw [List.filterMap_eq_map', List.map_map]
            apply List.ext_getElem?
            intro i
            rw [List.getElem?_map, List.getElem?_map]
            by_cases hi : i < z.cps.size
            · rw [List.getElem?_range hi, List.getElem?_eq_getElem (by rw [Array.length_toList]; exact hi)]
              simp [hi]
            · rw [List.getElem?_eq_none (by rw [List.length_range]; omega), List.getElem?_eq_none (by rw [Array.length_toList]; omega)]
              rfl
          rw [e] at hy
          refine ⟨acc, _, rfl, SqL.of hy, _, rfl, ?_⟩
          have eall : ((TX.cs z).map TX.isDig).all id = (TX.cs z).all TX.isDig := by rw [List.all_map]; rfl
          rw [eall]
          refine ite2 (fun e3 => ?_) (fun e3 => ?_)
          · have e3 : (TX.cs z).all TX.isDig = false := by simpa using e3
            refine ke _ s2 ?_
            unfold TX.okN
            rw [e3]; simp
          · have e3 : (TX.cs z).all TX.isDig = true := by simpa using e3
            have h0 : 0 < z.cps.toList.length := by rw [Array.length_toList]; omega
            have hat : atI z.cps.toList 0 = some z.cps.toList[0] := atI_nat (j := 0) (List.getElem?_eq_getElem h0)
            have hval : PySem.intText? z = some (wval z) := by
              have e := PySem.intText_digits (x := z) (fun c hc => by
                have := List.all_eq_true.mp e3 c hc
                unfold TX.isDig at this
                simp only [Bool.and_eq_true, decide_eq_true_eq] at this
                exact this) (fun q => by rw [q] at h0; simp at h0) (by omega)
              unfold wval
              rw [e]
              rfl
            have good : ((TX.cs z)[0]? ≠ some 48 ∨ z = "0") → TX.okN z = true := fun q => by
              unfold TX.okN
              rw [decide_eq_true (show 1 ≤ z.length by omega), decide_eq_true (show z.length ≤ 60 by omega), e3]
              rcases q with q | q
              · rw [decide_eq_true q]; rfl
              · rw [decide_eq_true q]; simp
            refine ⟨_, rfl, _, _, _, rfl, rfl, hsz, hat, rfl, _, rfl, ite2 (fun e => ?_) (fun e => ?_)⟩
            · have e1' : (⟨#[z.cps.toList[0]]⟩ : Str) = ("0" : Str) := V.str.inj (of_decide_eq_true e)
              have e2' : z.cps.toList[0] = 48 := by
                have := congrArg (fun z : Str => z.cps.getD 0 0) e1'
                exact this
              refine ⟨_, rfl, rfl, _, rfl, ite2 (fun e4 => ?_) (fun e4 => ?_)⟩
              · have e4 : z ≠ ("0" : Str) := by
                  intro q
                  rw [q] at e4
                  exact absurd e4 (by decide +kernel)
                refine ke _ s2 ?_
                unfold TX.okN
                rw [e3, decide_eq_false e4, decide_eq_false (fun q : (TX.cs z)[0]? ≠ some 48 => q (by rw [List.getElem?_eq_getElem h0, e2']))]
                simp
              · have e4 : z = ("0" : Str) := by
                  by_cases q : z = ("0" : Str)
                  · exact q
                  · exfalso
                    revert e4
                    simp [q]
                exact ⟨_, rfl, _, _, rfl, hval, by omega, kq H2 s2 (good (.inr e4))⟩
            · have e5 : (TX.cs z)[0]? ≠ some 48 := fun q => by
                rw [List.getElem?_eq_getElem h0] at q
                have q : z.cps.toList[0] = 48 := Option.some.inj q
                rw [q] at e
                exact absurd e (by decide +kernel)
              exact ⟨_, rfl, _, _, rfl, hval, by omega, kq H2 s2 (good (.inl e5))⟩
    · have e1 : ¬ (1 : Int) ≤ z.length := fun q => e1 (decide_eq_true q)
      refine ⟨_, rfl, ?_⟩
      exact iteT ⟨_, rfl, by decide +kernel, _, rfl, by decide, _, rfl, by decide +kernel, _, rfl, by decide +kernel, by decide +kernel, ke _ (Same.refl _) (bad1 (by omega))⟩
/-- words as the law's texts have them -/
def Wds (ws : List Str) : Prop := ws.length ≤ 1000 ∧ ∀ z ∈ ws, z.cps.all (· < 128) = true ∧ z.length ≤ 100000
theorem Wds.drop {ws : List Str} (h : Wds ws) (n : Nat) : Wds (ws.drop n) := ⟨by rw [List.length_drop]; have := h.1; omega, fun z hz => h.2 z (List.mem_of_mem_drop hz)⟩
def intsOf (ws : List Str) : List V := (ws.map wval).map V.int
theorem okNs_not {ws : List Str} {i : Nat} {z : Str} (h : ws[i]? = some z) (hz : TX.okN z = false) : TX.okNs ws = false := by
  cases q : TX.okNs ws with
  | false => rfl
  | true => rw [TX.okNs_mem q z (List.mem_of_getElem? h)] at hz; cases hz
def spReadNumbers (K : PySem.W.Frag) (NT : Addr) : Sp := fun vs H Q E => ∃ (l : Addr) (ws : List Str) (m : Int), vs = [.ref l, .int m] ∧ SqL K H l (strsV ws) ∧ Wds ws ∧ (m = 5 ∨ m = 2) ∧
  (∀ l' H', (ws.length : Int) = m → TX.okNs ws = true → Same H H' → H l' = none → H' l' = some (.lst (intsOf ws)) → Q (.ref l') H') ∧ (∀ H', ((ws.length : Int) ≠ m ∨ TX.okNs ws = false) → Same H H' → E (.ref NT) none H')
theorem numbers_comp {l acc : Addr} {ws : List Str} {H : Hp} {Q : Hp → Prop} {E : XK} {NT : Addr} {σ : L2.St} (hacc : H acc = none) (hS : SqL K H l (strsV ws)) (hw : Wds ws)
    (kq : ∀ H', TX.okNs ws = true → Same H H' → H' acc = some (.lst (intsOf ws)) → Q H') (ke : ∀ H', TX.okNs ws = false → Same H H' → E (.ref NT) none H') :
    ∃ W : Nat → Nat → Hp → Prop, (∃ m, W 0 m (upd H acc (.lst []))) ∧ ∀ i m H, W i m H →
      ((Itl K l).stop i H ∧ Q H) ∨ ((Itl K l).go i H ∧ ∀ x H', (Itl K l).yld i H x H' → gName 0 x (capSt [none] σ) H' fun σ2 H2 => tTrue σ2 H2 fun b H3 => if b = true then tCallX (spReadNumber NT) [] (tCons (tVar 0) tNil) σ2 H3 (fun y H4 => ∃ xs, H4 acc = some (.lst xs) ∧ xs.length < sizeLine ∧
        ∃ m', m' < m ∧ W (i + 1) m' (upd H4 acc (.lst (xs ++ [y])))) E else ∃ m', m' < m ∧ W (i + 1) m' H3) := by
  have hlen : (strsV ws).length = ws.length := by simp
  refine comp_by (te := fun σ2 H3 R => tCallX (spReadNumber NT) [] (tCons (tVar 0) tNil) σ2 H3 R E) (n := (strsV ws).length) (fun i ys _ => ys = intsOf (ws.take i) ∧ TX.okNs (ws.take i) = true) hacc (itl_go hS) (itl_stop hS) ⟨rfl, rfl⟩ ?_ ?_
  · rintro i ys H2 hi s2 hy ⟨rfl, ok⟩ x H3 ⟨rfl, hx⟩
    have hx := hx _ (s2.seq hS)
    have hi' : i < ws.length := by omega
    have ex : x = .str ws[i] := by
      simp only [List.getElem?_map, List.getElem?_eq_getElem hi', Option.map_some, Option.some.injEq] at hx
      exact hx.symm
    subst ex
    obtain ⟨ha, hlz⟩ := hw.2 _ (List.getElem_mem hi')
    refine ⟨_, rfl, _, rfl, ha, hlz, fun H4 s4 hok => ?_, fun H4 s4 hok => ke H4 (okNs_not (List.getElem?_eq_getElem hi') hok) (s2.trans s4)⟩
    have et : ws.take (i + 1) = ws.take i ++ [ws[i]] := by rw [List.take_add_one, List.getElem?_eq_getElem hi']; rfl
    refine comp_add hacc hi (s2.trans s4) (s4 _ _ hy) (small1000 (by unfold intsOf; rw [List.length_map, List.length_map, List.length_take]; have := hw.1; omega)) ⟨?_, ?_⟩
    · rw [et]
      unfold intsOf
      rw [List.map_append, List.map_append]
      rfl
    · rw [et]
      unfold TX.okNs at ok ⊢
      rw [List.all_append, ok]
      simp [hok]
  · rintro ys H2 s2 hy ⟨rfl, ok⟩
    rw [hlen, List.take_length] at ok hy
    exact kq H2 ok s2 hy
theorem ok_read_numbers {t : Ad} (T : Txt K mg t) : FnOk P w K mg base (CX1 P w) 2 t.f_read_numbers t.d_read_numbers ["words", "many"]  (spReadNumbers K t.a_NoText) := by
  refine T.F_read_numbers.okX sc_read_numbers (fun vs H Q E h => ?_) (fun cdv A outer s H vs Q E hr h => ?_)
  · obtain ⟨_, _, _, rfl, _⟩ := h; rfl
  · obtain ⟨l, ws, m, rfl, hS, hw, hm, kq, ke⟩ := h
    refine ⟨_, (pss_cons (ps_if (pt_cmpR op_ne (pe_callB call_len_seq (by rfl) T.n_len PySem.boot_len (pa_c (pv 0) pa_nil)) (pv 1) (nomark _)) (pss_one (ps_raise rfl T.g_NoText T.x_NoText hr.hd (pe_fstr (pj_cons (pe_fmtI (pv 1)) (pj_cons pe_str pj_nil))))) pss_nil)
      (pss_one (ps_ret (pe_compX (compOk_of (dsc := defScope s_read_numbers) (N0 := ["words", "many"]) (N2 := ["word"]) (cap := [none]) rfl rfl (by decide +kernel)) rfl rfl rfl rfl lets1 (pi_list (pv 0)) (fun _ _ _ _ => by exact (pg_name (i := 0) nd_read_numbers_c0 rfl (Or.inl rfl))) (fun _ _ _ _ => by exact pts_nil) (fun _ _ _ _ => by exact (pey_call (ok_read_number T) (hr.mono (by decide)) rfl T.g_read_number T.F_read_number.kp T.B_read_number .nil (pa_c (pv 0) pa_nil))))))), ?_⟩
    have hlen : (strsV ws).length = ws.length := by simp
    refine ⟨_, rfl, l, _, rfl, .inl hS, _, rfl, rfl, _, rfl, ite2 (fun e => ?_) (fun e => ?_)⟩
    · rw [hlen] at e
      have e : (ws.length : Int) ≠ m := by simpa using e
      have kk := ke H (.inl e) (Same.refl _)
      rcases hm with rfl | rfl
      · exact ⟨_, rfl, _, rfl, by decide, _, rfl, by decide +kernel, _, rfl, by decide +kernel, by decide +kernel, kk⟩
      · exact ⟨_, rfl, _, rfl, by decide, _, rfl, by decide +kernel, _, rfl, by decide +kernel, by decide +kernel, kk⟩
    · rw [hlen] at e
      have e : (ws.length : Int) = m := by simpa using e
      refine ⟨_, rfl, l, rfl, ⟨_, hS⟩, fun acc hacc => ?_⟩
      exact numbers_comp hacc hS hw (fun H' h1 h2 h3 => kq acc H' e h1 h2 hacc h3) (fun H' h1 h2 => ke H' (.inr h1) h2)
def spReadNames (K : PySem.W.Frag) (NT : Addr) : Sp := fun vs H Q E => ∃ (l : Addr) (ws : List Str), vs = [.ref l] ∧ SqL K H l (strsV ws) ∧ Wds ws ∧ ws ≠ [] ∧
  (∀ l' H', TX.okH ws = true → Same H H' → H l' = none → H' l' = some (.lst (intsOf (ws.drop 1))) → Q (.ref l') H') ∧ (∀ H', TX.okH ws = false → Same H H' → E (.ref NT) none H')
theorem drop1V (ws : List Str) : cutV (strsV ws) (some 1) none = strsV (ws.drop 1) := by
  have := cut_from (strsV ws) 1
  rw [show ((1 : Nat) : Int) = 1 from rfl] at this
  exact this.trans List.map_drop.symm
theorem ok_read_names {t : Ad} (T : Txt K mg t) : FnOk P w K mg base (CX1 P w) 2 t.f_read_names t.d_read_names ["words"]  (spReadNames K t.a_NoText) := by
  refine T.F_read_names.okX sc_read_names (fun vs H Q E h => ?_) (fun cdv A outer s H vs Q E hr h => ?_)
  · obtain ⟨_, _, rfl, _⟩ := h; rfl
  · obtain ⟨l, ws, rfl, hS, hw, hne, kq, ke⟩ := h
    refine ⟨_, (pss_cons (ps_if (PW.pt (pw_or (pt_cmpR op_ne (pe_ix ix_list (pv 0) pe_int (fun _ _ => rfl)) pe_str (nomark _)) (pw_or1 (pt_cmpR op_lt (pe_callB call_len_seq (by rfl) T.n_len PySem.boot_len (pa_c (pv 0) pa_nil)) pe_int (nomark _))))) (pss_one (ps_raise rfl T.g_NoText T.x_NoText hr.hd pe_str)) pss_nil)
      (pss_one (ps_ret (pe_compX (compOk_of (dsc := defScope s_read_names) (N0 := ["words"]) (N2 := ["word"]) (cap := [none]) rfl rfl (by decide +kernel)) rfl rfl rfl rfl lets1 (pi_list (pe_slice sl_list (pv 0) (po_some pe_int) po_none)) (fun _ _ _ _ => by exact (pg_name (i := 0) nd_read_names_c0 rfl (Or.inl rfl))) (fun _ _ _ _ => by exact pts_nil) (fun _ _ _ _ => by exact (pey_call (ok_read_number T) (hr.mono (by decide)) rfl T.g_read_number T.F_read_number.kp T.B_read_number .nil (pa_c (pv 0) pa_nil))))))), ?_⟩
    have hlen : (strsV ws).length = ws.length := by simp
    have h0 : 0 < ws.length := List.length_pos_iff.mpr hne
    have hat : atI (strsV ws) 0 = some (.str ws[0]) := atI_nat (j := 0) (by rw [List.getElem?_map, List.getElem?_eq_getElem h0]; rfl)
    have e0 : ws[0]? = some ws[0] := List.getElem?_eq_getElem h0
    refine ⟨_, rfl, l, _, _, _, rfl, rfl, hS, hat, rfl, _, rfl, ite2 (fun e => ?_) (fun e => ?_)⟩
    · have e : ws[0] ≠ ("names" : Str) := by simpa using e
      refine ke _ ?_ (Same.refl _)
      unfold TX.okH
      rw [e0, decide_eq_false (fun q => e (Option.some.inj q))]
      rfl
    · have e : ws[0] = ("names" : Str) := by simpa using e
      refine ⟨_, rfl, l, _, rfl, .inl hS, _, _, rfl, rfl, _, rfl, ite2 (fun e2 => ?_) (fun e2 => ?_)⟩
      · rw [hlen] at e2
        have e2 : (ws.length : Int) < 2 := of_decide_eq_true e2
        refine ke _ ?_ (Same.refl _)
        unfold TX.okH
        rw [decide_eq_false (show ¬ 2 ≤ ws.length by omega)]
        simp
      · rw [hlen] at e2
        have e2 : ¬ (ws.length : Int) < 2 := fun q => e2 (decide_eq_true q)
        have eH : TX.okH ws = TX.okNs (ws.drop 1) := by
          unfold TX.okH
          rw [e0, decide_eq_true (show some ws[0] = some ("names" : Str) by rw [e]), decide_eq_true (show 2 ≤ ws.length by omega)]
          rfl
        refine ⟨_, rfl, _, rfl, l, _, rfl, hS, fun l2 hl2 => ?_⟩
        rw [drop1V]
        have u2 := Same.new (o := .lst (strsV (ws.drop 1))) hl2
        have h2 := upd_same (H := H) (a := l2) (o := .lst (strsV (ws.drop 1)))
        generalize upd H l2 (.lst (strsV (ws.drop 1))) = H2 at u2 h2
        refine ⟨l2, rfl, ⟨_, SqL.of h2⟩, fun acc hacc => ?_⟩
        exact numbers_comp hacc (SqL.of h2) (hw.drop 1) (fun H' h1 s2 h3 => kq acc H' (eH.trans h1) (u2.trans s2) (u2.free hacc) h3) (fun H' h1 s2 => ke H' (eH.trans h1) (u2.trans s2))
end
end K38

set_option Elab.async false
set_option linter.all false
set_option maxRecDepth 100000
set_option maxHeartbeats 4000000
namespace K38
open PySem L2 TW PyProof.Rows
open RM (rowV byV byV_non byV_int)
seal L2.PE L2.PA L2.PT L2.PW L2.PS L2.PSs L2.PG L2.PGs L2.PI L2.PTs
section
variable {P : Program} {w : World} {K : PySem.W.Frag} {mg : Str → Option Value} {base : Heap}
theorem inter_has {sep : List Nat} : ∀ {l : List (List Nat)} {d : List Nat}, d ∈ l → (∀ c ∈ d, c ∈ TX.inter sep l) ∧ d.length ≤ (TX.inter sep l).length
  | [], _, h => absurd h (by simp)
  | [p], d, h => by rw [List.mem_singleton.mp h]; exact ⟨fun _ z => z, Nat.le_refl _⟩
  | p :: q :: r, d, h => by
    show (∀ c ∈ d, c ∈ p ++ (sep ++ TX.inter sep (q :: r))) ∧ d.length ≤ (p ++ (sep ++ TX.inter sep (q :: r))).length
    rw [List.length_append, List.length_append]
    rcases List.mem_cons.mp h with e | h
    · rw [e]; exact ⟨fun c hc => List.mem_append_left _ hc, by omega⟩
    · obtain ⟨h1, h2⟩ := inter_has h
      exact ⟨fun c hc => List.mem_append_right _ (List.mem_append_right _ (h1 c hc)), by omega⟩
theorem split_has {x y z : Str} (h : z ∈ Txt.split x y) : (∀ c ∈ TX.cs z, c ∈ TX.cs x) ∧ z.length ≤ x.length := by
  have e := congrArg TX.cs (StrLaws.join_split x y)
  rw [TX.cs_join] at e
  have := inter_has (sep := TX.cs y) (List.mem_map.mpr ⟨z, h, rfl⟩ : TX.cs z ∈ (Txt.split x y).map TX.cs)
  rw [e, TX.cs_len, TX.cs_len] at this
  exact this
theorem split_ascii {x y z : Str} (h : z ∈ Txt.split x y) (hx : x.cps.all (· < 128) = true) : z.cps.all (· < 128) = true := by
  rw [← Array.all_toList, List.all_eq_true] at hx ⊢
  exact fun c hc => hx c ((split_has h).1 c hc)
theorem told_wds {x : Str} (hx : x.cps.all (· < 128) = true) (hl : x.length ≤ 900) {ws : List Str} (h : ws ∈ TX.told x) : Wds ws ∧ ws ≠ [] := by
  obtain ⟨p, hp, rfl⟩ := List.mem_map.mp h
  have h1 := (split_has hp).2
  refine ⟨⟨Nat.le_trans (split_len p TX.sep1) (by omega), fun z hz => ⟨split_ascii hz (split_ascii hp hx), ?_⟩⟩, TX.split_ne _ _⟩
  have := (split_has hz).2
  omega
def tupsD (cl : List (List Int)) : List PyData := cl.map fun xs => .tuple (xs.map .int)
theorem rep_TL {H : Hp} : ∀ {qs : List Addr} {xss : List (List Int)}, TupsAt K H qs xss → RepAll K H (tupsD xss) (qs.map V.ref)
  | [], [], _ => rfl
  | [], _ :: _, h => by cases h.len
  | _ :: _, [], h => by cases h.len
  | q :: qs, xs :: xss, h => ⟨_, _, rfl, Rep.intsT (h.at' 0 q xs rfl rfl), rep_TL ⟨Nat.succ.inj h.len, fun i a b c d => h.at' (i + 1) a b c d⟩⟩
theorem TL_lay : ∀ xss : List (List Int), PyData.canLayAll0 (tupsD xss) = true
  | [] => rfl
  | xs :: xss => by
    show (PyData.canLay0 (.tuple (xs.map .int)) && PyData.canLayAll0 (tupsD xss)) = true
    rw [TL_lay xss, show PyData.canLay0 (.tuple (xs.map .int)) = true from ints_lay xs]
    rfl
theorem eqvTL (cl : List (List Int)) : PyData.eqv (PyData.list (tupsD cl)) (.list []) = cl.isEmpty := by cases cl <;> rfl
def spReadTown (K : PySem.W.Frag) (NT : Addr) : Sp := fun vs H Q E => ∃ x : Str, vs = [.str x] ∧ x.cps.all (· < 128) = true ∧ x.length ≤ 900 ∧
  (∀ p l0 l1 l2 H', TX.okT (TX.told x) = true → Same H H' → H' p = some (.tup [.ref l0, .ref l1, .ref l2]) → H' l0 = some (.lst (intsOf (((TX.told x).headD []).drop 1))) → Q (.ref p) H') ∧ (∀ H', TX.okT (TX.told x) = false → Same H H' → E (.ref NT) none H')
theorem ok_read_town {t : Ad} (T : Txt K mg t) : FnOk P w K mg base (CX1 P w) 3 t.f_read_town t.d_read_town ["text"]  (spReadTown K t.a_NoText) := by
  refine T.F_read_town.okX sc_read_town (fun vs H Q E h => ?_) (fun cdv A outer s H vs Q E hr h => ?_)
  · obtain ⟨_, rfl, _⟩ := h; rfl
  · obtain ⟨x, rfl, hx, hl, k, ke⟩ := h
    refine ⟨_, (pss_cons (ps_setcomp (i := 1) sc_read_town.nd rfl (Or.inl rfl) (compOk_of (dsc := defScope s_read_town) (N0 := ["text", "told", "names", "ropes", "callers", "words"]) (N2 := ["part"]) (cap := [none]) rfl rfl (by decide +kernel)) rfl (pi_list (pe_bm PySem.F.plainAttrs_str PySem.F.slot_str_split PySem.F.type_str_split mt_split (pv 0) (pa_c pe_str pa_nil))) (fun _ _ _ _ => by exact (pg_name (i := 0) nd_read_town_c0 rfl (Or.inl rfl))) (fun _ _ _ _ => by exact pts_nil) (fun _ _ _ _ => by exact (pe_bmK K rfl PySem.F.plainAttrs_str PySem.F.slot_str_split PySem.F.type_str_split mt_split (pv 0) (pa_c pe_str pa_nil))))
      (pss_cons (ps_set (i := 2) sc_read_town.nd rfl (Or.inl rfl) (pe_call (ok_read_names T) (hr.mono (by decide)) rfl T.g_read_names T.F_read_names.kp T.B_read_names .nil pass1 (pa_c (pe_ix ix_list (pv 1) pe_int (fun _ _ => rfl)) pa_nil)))
      (pss_cons (ps_set (i := 3) sc_read_town.nd rfl (Or.inl rfl) (pe_lst pa_nil))
      (pss_cons (ps_set (i := 4) sc_read_town.nd rfl (Or.inl rfl) (pe_lst pa_nil))
      (pss_cons (ps_for passOwn1 rfl (pi_list (pe_slice sl_list (pv 1) (po_some pe_int) po_none)) (pg_name (i := 5) sc_read_town.nd rfl (Or.inl rfl)) (pss_one (ps_if (PW.pt (pw_and (pt_cmpR op_eq (pe_ix ix_list (pv 5) pe_int (fun _ _ => rfl)) pe_str (nomark _)) (pw_and1 (pt_cmpR op_eqD (pv 4) (pe_lst pa_nil) (nomark _))))) (pss_one (ps_expr (pe_bm PySem.F.plainAttrs_list PySem.F.slot_list_append PySem.F.type_list_append mt_append (pv 3) (pa_c (pe_callTy call_tuple_of (by rfl) T.n_tuple boot_tuple (pa_c (pe_call (ok_read_numbers T) (hr.mono (by decide)) rfl T.g_read_numbers T.F_read_numbers.kp T.B_read_numbers .nil pass1 (pa_c (pe_slice sl_list (pv 5) (po_some pe_int) po_none) (pa_c (pe_glob rfl T.k_ROPE_NUMBERS (v := .int 5) ⟨_, rfl⟩) pa_nil))) pa_nil)) pa_nil)))) (pss_one (ps_if (pt_cmpR op_eq (pe_ix ix_list (pv 5) pe_int (fun _ _ => rfl)) pe_str (nomark _)) (pss_one (ps_expr (pe_bm PySem.F.plainAttrs_list PySem.F.slot_list_append PySem.F.type_list_append mt_append (pv 4) (pa_c (pe_callTy call_tuple_of (by rfl) T.n_tuple boot_tuple (pa_c (pe_call (ok_read_numbers T) (hr.mono (by decide)) rfl T.g_read_numbers T.F_read_numbers.kp T.B_read_numbers .nil pass1 (pa_c (pe_slice sl_list (pv 5) (po_some pe_int) po_none) (pa_c (pe_glob rfl T.k_CALLER_NUMBERS (v := .int 2) ⟨_, rfl⟩) pa_nil))) pa_nil)) pa_nil)))) (pss_one (ps_raise rfl T.g_NoText T.x_NoText hr.hd pe_str)))))))
      (pss_one (ps_ret (pe_tup (pa_c (pv 2) (pa_c (pv 3) (pa_c (pv 4) pa_nil))))))))))), ?_⟩
    refine ⟨_, rfl, rfl, _, _, rfl, rfl, (by decide +kernel), Nat.le_trans hl (by decide), fun lp hlp => ?_⟩
    have hsl : (Txt.split x TX.sep2).length ≤ 902 := Nat.le_trans (split_len x TX.sep2) (by omega)
    have htl : (TX.told x).length = (Txt.split x TX.sep2).length := by unfold TX.told; rw [List.length_map]
    have u1 := Same.new (o := .lst (strsV (Txt.split x TX.sep2))) hlp
    have hlp1 := upd_same (H := H) (a := lp) (o := .lst (strsV (Txt.split x TX.sep2)))
    generalize upd H lp (.lst (strsV (Txt.split x TX.sep2))) = H1 at u1 hlp1
    refine ⟨lp, rfl, ⟨_, SqL.of hlp1⟩, fun acc hacc => ?_⟩
    refine comp_by (n := (strsV (Txt.split x TX.sep2)).length) (fun i ys H3 => ∃ ps : List Addr, ys = ps.map V.ref ∧ LLs H3 ps ((TX.told x).take i) ∧ ∀ p ∈ ps, p ≠ acc) hacc (itl_go (SqL.of hlp1)) (itl_stop (SqL.of hlp1)) ⟨[], rfl, ⟨rfl, fun i p ws e => by cases e⟩, fun p hp => by cases hp⟩ ?_ ?_
    · rintro i ys H3 hi s3 hy ⟨ps, rfl, hps, nps⟩ v H4 ⟨rfl, hv⟩
      have hv := hv _ (s3.seq (SqL.of hlp1))
      have hi' : i < (Txt.split x TX.sep2).length := by rw [List.length_map] at hi; exact hi
      have ex : v = .str (Txt.split x TX.sep2)[i] := by
        simp only [List.getElem?_map, List.getElem?_eq_getElem hi', Option.map_some, Option.some.injEq] at hv
        exact hv.symm
      subst ex
      have hw : (TX.told x)[i]? = some (Txt.split (Txt.split x TX.sep2)[i] TX.sep1) := by
        unfold TX.told
        rw [List.getElem?_map, List.getElem?_eq_getElem hi']
        rfl
      have hpl := (split_has (List.getElem_mem hi')).2
      refine ⟨_, rfl, rfl, _, _, rfl, rfl, (by decide +kernel), (by omega), fun p hp => ?_⟩
      have u4 := Same.new (o := .lst ((Txt.split (Txt.split x TX.sep2)[i] TX.sep1).map V.str)) hp
      have hy4 := u4 _ _ hy
      have npa : p ≠ acc := (ne_of_none hy hp).symm
      have hpl2 : ps.length = i := by rw [hps.len, List.length_take]; omega
      refine comp_add hacc hi (s3.trans u4) hy4 (by rw [List.length_map]; exact small1000 (by omega)) ⟨ps ++ [p], by simp, ?_, ?_⟩
      · rw [List.take_add_one, hw]
        have hs := (hps.mono u4).snoc (p := p) (ws := Txt.split (Txt.split x TX.sep2)[i] TX.sep1) upd_same
        refine ⟨hs.len, fun j q ws a b => ?_⟩
        have nq : q ≠ acc := by
          rcases List.mem_append.mp (List.mem_of_getElem? a) with z | z
          · exact nps q z
          · rw [List.mem_singleton.mp z]
            exact npa
        rw [upd_ne nq]
        exact hs.at' j q ws a b
      · intro q hq
        rcases List.mem_append.mp hq with z | z
        · exact nps q z
        · rw [List.mem_singleton.mp z]
          exact npa
    rintro ys H3 s3 hy ⟨ps, rfl, hps, nps⟩
    rw [show (strsV (Txt.split x TX.sep2)).length = (TX.told x).length by rw [htl, List.length_map], List.take_length] at hps
    have s03 := u1.trans s3
    clear s3 u1 hlp1 hacc hlp
    have hW : ∀ ws ∈ TX.told x, Wds ws ∧ ws ≠ [] := fun ws h => told_wds hx hl h
    have hne := TX.told_ne x
    generalize TX.told x = tl at hps hW hne htl k ke
    obtain ⟨hd, rest, rfl⟩ : ∃ hd rest, tl = hd :: rest := by
      cases tl with
      | nil => exact absurd rfl hne
      | cons a b => exact ⟨a, b, rfl⟩
    have hpsl : ps.length = rest.length + 1 := hps.len
    have hp0 : 0 < ps.length := by omega
    have hat0 : atI (ps.map V.ref) 0 = some (.ref ps[0]) := atI_nat (j := 0) (by rw [List.getElem?_map, List.getElem?_eq_getElem hp0]; rfl)
    have hn0 : H3 ps[0] = some (.lst (strsV hd)) := hps.at' 0 _ _ (List.getElem?_eq_getElem hp0) rfl
    obtain ⟨hWd, hdn⟩ := hW hd (List.mem_cons_self ..)
    refine ⟨_, rfl, acc, _, _, _, rfl, rfl, SqL.of hy, hat0, ps[0], hd, rfl, SqL.of hn0, hWd, hdn, fun l0 H4 okh s4 hl0 h04 => ?_, fun H4 bad s4 => ke H4 (by show (TX.okH hd && _) = false; rw [bad]; rfl) (s03.trans s4)⟩
    have s04 := s03.trans s4
    have hy4 := s4 _ _ hy
    have hps4 := hps.mono s4
    clear s03 s4 hy hps hn0 hl0
    refine ⟨Nat.zero_le _, fun l1 hl1 => ?_⟩
    have u5 := Same.new (o := .lst []) hl1
    have h15 := upd_same (H := H4) (a := l1) (o := .lst [])
    have n01 : l0 ≠ l1 := ne_of_none h04 hl1
    have nl1 := s04.free hl1
    have h05 := u5 _ _ h04
    have hy5 := u5 _ _ hy4
    have np1 : ∀ i p, ps[i]? = some p → p ≠ l1 := fun i p e => by
      have hlt := (List.getElem?_eq_some_iff.mp e).1
      rw [hps4.len] at hlt
      exact ne_of_none (hps4.at' i p _ e (List.getElem?_eq_getElem hlt)) hl1
    have hps5 := hps4.mono u5
    have s05 := s04.trans u5
    generalize upd H4 l1 (.lst []) = H5 at u5 h15 h05 hy5 hps5 s05
    clear u5 s04 hy4 hps4 h04
    refine ⟨Nat.zero_le _, fun l2 hl2 => ?_⟩
    have u6 := Same.new (o := .lst []) hl2
    have h26 := upd_same (H := H5) (a := l2) (o := .lst [])
    have n02 : l0 ≠ l2 := ne_of_none h05 hl2
    have n12 : l1 ≠ l2 := ne_of_none h15 hl2
    have nl2 := s05.free hl2
    have h16 := u6 _ _ h15
    have h06 := u6 _ _ h05
    have hy6 := u6 _ _ hy5
    have np2 : ∀ i p, ps[i]? = some p → p ≠ l2 := fun i p e => by
      have hlt := (List.getElem?_eq_some_iff.mp e).1
      rw [hps5.len] at hlt
      exact ne_of_none (hps5.at' i p _ e (List.getElem?_eq_getElem hlt)) hl2
    have hps6 := hps5.mono u6
    have s06 := s05.trans u6
    generalize upd H5 l2 (.lst []) = H6 at u6 h26 h16 h06 hy6 hps6 s06
    clear u6 s05 hy5 hps5 h05 h15
    refine ⟨_, rfl, _, rfl, acc, _, rfl, SqL.of hy6, fun l7 hl7 => ?_⟩
    have ecut : cutV (ps.map V.ref) (some 1) none = (ps.drop 1).map V.ref := by
      have := cut_from (ps.map V.ref) 1
      rw [show ((1 : Nat) : Int) = 1 from rfl] at this
      rw [this, List.map_drop]
    rw [ecut]
    have u7 := Same.new (o := .lst ((ps.drop 1).map V.ref)) hl7
    have h77 := upd_same (H := H6) (a := l7) (o := .lst ((ps.drop 1).map V.ref))
    have n71 : l7 ≠ l1 := (ne_of_none h16 hl7).symm
    have n72 : l7 ≠ l2 := (ne_of_none h26 hl7).symm
    have hps7 := hps6.mono u7
    have s07 := s06.trans u7
    have h07 := u7 _ _ h06
    have h17 := u7 _ _ h16
    have h27 := u7 _ _ h26
    generalize upd H6 l7 (.lst ((ps.drop 1).map V.ref)) = H7 at u7 h77 hps7 s07 h07 h17 h27
    clear u7 s06 hy6 hps6 h06 h16 h26
    have hdl : ((ps.drop 1).map V.ref).length = rest.length := by rw [List.length_map, List.length_drop]; omega
    have hrl : rest.length ≤ 902 := by have : rest.length + 1 = _ := htl; omega
    have keep : ∀ {H8 : Hp}, (∀ b o, H7 b = some o → b ≠ l1 → b ≠ l2 → H8 b = some o) → Same H H8 := fun {H8} kp b o e => kp _ _ (s07 _ _ e) (ne_of_none e nl1) (ne_of_none e nl2)
    have fails : ∀ {H8 H9 : Hp}, (∀ b o, H7 b = some o → b ≠ l1 → b ≠ l2 → H8 b = some o) → Same H8 H9 → TX.okR false rest = false → E (.ref t.a_NoText) none H9 := fun {H8 H9} kp s9 bad => ke H9 (by show (TX.okH hd && TX.okR false rest) = false; rw [bad, Bool.and_false]) ((keep kp).trans s9)
    refine ⟨l7, rfl, ⟨_, SqL.of h77⟩, for_list (K := K) (a := l7) (xs := (ps.drop 1).map V.ref) (fun i σ H8 => (∀ b o, H7 b = some o → b ≠ l1 → b ≠ l2 → H8 b = some o) ∧ (∃ ys, H8 l1 = some (.lst ys) ∧ ys.length ≤ i) ∧ (∃ cl, TL K H8 l2 cl ∧ cl.length ≤ i ∧ TX.okR false rest = TX.okR (!cl.isEmpty) (rest.drop i)) ∧ ∃ v5 : Option V, σ = [some (.str x), some (.ref acc), some (.ref l0), some (.ref l1), some (.ref l2), v5])
      ⟨fun b o e _ _ => e, ⟨[], h17, Nat.zero_le _⟩, ⟨[], ⟨[], h27, TupsAt.nil⟩, Nat.zero_le _, rfl⟩, _, rfl⟩ (fun i σ H8 _ z => SqL.of (z.1 _ _ h77 n71 n72)) ?_ ?_⟩
    · rintro i y σ H8 hi ⟨kp, ⟨ys1, hl18, hy1⟩, ⟨cl, hT2, hcl, hok⟩, v5, rfl⟩
      have hil := (List.getElem?_eq_some_iff.mp hi).1
      rw [hdl] at hil
      have hip : i + 1 < ps.length := by omega
      have ey : y = .ref ps[i + 1] := by
        rw [List.getElem?_map, List.getElem?_drop, Nat.add_comm 1 i, List.getElem?_eq_getElem hip] at hi
        exact (Option.some.inj hi).symm
      subst ey
      generalize hq : ps[i + 1] = pw
      have epw : ps[i + 1]? = some pw := by rw [List.getElem?_eq_getElem hip, hq]
      have edrop : rest.drop i = rest[i] :: rest.drop (i + 1) := List.drop_eq_getElem_cons hil
      obtain ⟨hWw, hwn⟩ := hW rest[i] (List.mem_cons_of_mem _ (List.getElem_mem hil))
      have hpw := kp _ _ (hps7.at' (i + 1) _ rest[i] epw (by show rest[i]? = _; exact List.getElem?_eq_getElem hil)) (np1 _ _ epw) (np2 _ _ epw)
      rw [edrop] at hok
      generalize rest[i] = ws at hWw hwn hpw hok
      have hw0 : 0 < ws.length := List.length_pos_iff.mpr hwn
      have hat : atI (strsV ws) 0 = some (.str ws[0]) := atI_nat (j := 0) (by rw [List.getElem?_map, List.getElem?_eq_getElem hw0]; rfl)
      have e0 : ws[0]? = some ws[0] := List.getElem?_eq_getElem hw0
      obtain ⟨qs2, hl28, hq2⟩ := hT2
      have part2 : ws[0] ≠ ("rope" : Str) ∨ cl ≠ [] → TX.okR (!cl.isEmpty) (ws :: rest.drop (i + 1)) = if ws[0]? = some ("caller" : Str) then TX.okP "caller" 2 ws && TX.okR true (rest.drop (i + 1)) else false := fun h => by
        show (if ws[0]? = some ("rope" : Str) ∧ (!cl.isEmpty) = false then _ else _) = _
        rw [if_neg]
        rintro ⟨a, b⟩
        rcases h with h | h
        · rw [e0] at a; exact h (Option.some.inj a)
        · cases cl with
          | nil => exact h rfl
          | cons _ _ => cases b
      refine ⟨_, rfl, pw, _, _, _, rfl, rfl, SqL.of hpw, hat, rfl, _, rfl, ite2 (fun er => ?_) (fun er => ?_)⟩
      · have er : ws[0] = ("rope" : Str) := V.str.inj (of_decide_eq_true er)
        refine ⟨_, rfl, Nat.zero_le _, fun l9 hl9 => ?_⟩
        have u9 := Same.new (o := .lst []) hl9
        have h99 := upd_same (H := H8) (a := l9) (o := .lst [])
        generalize upd H8 l9 (.lst []) = H9 at u9 h99
        have hpw9 := u9 _ _ hpw
        refine ⟨PyData.list (tupsD cl), .list [], ⟨l2, _, rfl, SqL.of (u9 _ _ hl28), rep_TL (hq2.mono u9)⟩, ⟨l9, [], rfl, SqL.of h99, rfl⟩, TL_lay cl, rfl, Nat.lt_of_le_of_lt (Nat.add_le_add_left (Nat.le_trans (Nat.min_le_right _ _) (show PyData.depth (.list []) ≤ 64 by decide)) _) hr.units, _, rfl, ite2 (fun ec => ?_) (fun ec => ?_)⟩
        · rw [eqvTL] at ec
          have ec : cl = [] := List.isEmpty_iff.mp ec
          subst ec
          have hl19 := u9 _ _ hl18
          have eR : TX.okR false rest = (TX.okP "rope" 5 ws && TX.okR false (rest.drop (i + 1))) := by
            rw [hok]
            show (if ws[0]? = some ("rope" : Str) ∧ false = false then _ else _) = _
            rw [if_pos ⟨by rw [e0, er], rfl⟩]
            rfl
          have eP : TX.okP "rope" 5 ws = (decide ((ws.drop 1).length = 5) && TX.okNs (ws.drop 1)) := by
            unfold TX.okP
            rw [e0, decide_eq_true (show some ws[0] = some ("rope" : Str) by rw [er])]
            rfl
          refine ⟨_, rfl, .inl ⟨rfl, _, SqL.of hl19⟩, _, rfl, _, rfl, pw, _, rfl, SqL.of hpw9, fun l10 hl10 => ?_⟩
          rw [drop1V]
          have u10 := Same.new (o := .lst (strsV (ws.drop 1))) hl10
          have h10 := upd_same (H := H9) (a := l10) (o := .lst (strsV (ws.drop 1)))
          generalize upd H9 l10 (.lst (strsV (ws.drop 1))) = H10 at u10 h10
          refine ⟨l10, ws.drop 1, 5, rfl, SqL.of h10, hWw.drop 1, .inl rfl, fun l11 H11 elen okn s11 hl11 h11 => ?_, fun H11 bad s11 => fails kp (u9.trans (u10.trans s11)) ?_⟩
          · refine ⟨l11, _, rfl, .inl ⟨SqL.of h11, fun q12 hq12 => ?_⟩⟩
            have u12 := Same.new (o := .tup (intsOf (ws.drop 1))) hq12
            generalize upd H11 q12 (.tup (intsOf (ws.drop 1))) = H12 at u12
            have s812 := u9.trans (u10.trans (s11.trans u12))
            have hl112 := s812 _ _ hl18
            refine ⟨l1, _, _, rfl, rfl, hl112, small1000 (by omega), ?_⟩
            refine ⟨fun b o e n1 n2 => by rw [upd_ne n1]; exact s812 _ _ (kp b o e n1 n2), ⟨_, upd_same, by rw [List.length_append]; show _ + 1 ≤ _; omega⟩, ⟨[], ⟨qs2, by rw [upd_ne n12.symm]; exact s812 _ _ hl28, ?_⟩, Nat.zero_le _, ?_⟩, _, rfl⟩
            · have : qs2 = [] := List.length_eq_zero_iff.mp hq2.len
              subst this
              exact TupsAt.nil
            · rw [eR, eP, decide_eq_true (show (ws.drop 1).length = 5 by omega), okn]
              rfl
          · rw [eR, eP]
            rcases bad with bad | bad
            · rw [decide_eq_false (show ¬ (ws.drop 1).length = 5 by omega)]
              rfl
            · rw [bad, Bool.and_false, Bool.false_and]
        · rw [eqvTL] at ec
          have ec : cl ≠ [] := fun z => ec (by rw [z]; rfl)
          refine ⟨_, rfl, pw, _, _, _, rfl, rfl, SqL.of hpw9, hat, rfl, _, rfl, iteFe (decide_eq_false (by rw [er]; decide +kernel)) ?_⟩
          refine fails kp u9 ?_
          rw [hok, part2 (.inr ec), if_neg (by rw [e0, er]; decide +kernel)]
      · have er : ws[0] ≠ ("rope" : Str) := fun z => er (decide_eq_true (by rw [z]))
        refine ⟨_, rfl, pw, _, _, _, rfl, rfl, SqL.of hpw, hat, rfl, _, rfl, ite2 (fun ec => ?_) (fun ec => ?_)⟩
        · have ec : ws[0] = ("caller" : Str) := V.str.inj (of_decide_eq_true ec)
          have eR : TX.okR false rest = (TX.okP "caller" 2 ws && TX.okR true (rest.drop (i + 1))) := by
            rw [hok, part2 (.inl er), if_pos (by rw [e0, ec])]
          have eP : TX.okP "caller" 2 ws = (decide ((ws.drop 1).length = 2) && TX.okNs (ws.drop 1)) := by
            unfold TX.okP
            rw [e0, decide_eq_true (show some ws[0] = some ("caller" : Str) by rw [ec])]
            rfl
          refine ⟨_, rfl, .inl ⟨rfl, _, SqL.of hl28⟩, _, rfl, _, rfl, pw, _, rfl, SqL.of hpw, fun l10 hl10 => ?_⟩
          rw [drop1V]
          have u10 := Same.new (o := .lst (strsV (ws.drop 1))) hl10
          have h10 := upd_same (H := H8) (a := l10) (o := .lst (strsV (ws.drop 1)))
          generalize upd H8 l10 (.lst (strsV (ws.drop 1))) = H10 at u10 h10
          refine ⟨l10, ws.drop 1, 2, rfl, SqL.of h10, hWw.drop 1, .inr rfl, fun l11 H11 elen okn s11 hl11 h11 => ?_, fun H11 bad s11 => fails kp (u10.trans s11) ?_⟩
          · refine ⟨l11, _, rfl, .inl ⟨SqL.of h11, fun q12 hq12 => ?_⟩⟩
            have u12 := Same.new (o := .tup (intsOf (ws.drop 1))) hq12
            have h12 := upd_same (H := H11) (a := q12) (o := .tup (intsOf (ws.drop 1)))
            generalize upd H11 q12 (.tup (intsOf (ws.drop 1))) = H12 at u12 h12
            have s812 := u10.trans (s11.trans u12)
            have hl212 := s812 _ _ hl28
            refine ⟨l2, _, _, rfl, rfl, hl212, (by rw [List.length_map, hq2.len]; exact small1000 (by omega)), ?_⟩
            refine ⟨fun b o e n1 n2 => by rw [upd_ne n2]; exact s812 _ _ (kp b o e n1 n2), ⟨ys1, by rw [upd_ne n12]; exact s812 _ _ hl18, by omega⟩, ⟨cl ++ [(ws.drop 1).map wval], TL.push hl212 (hq2.mono s812) (SqT.of h12), by rw [List.length_append]; show _ + 1 ≤ _; omega, ?_⟩, _, rfl⟩
            rw [eR, eP, decide_eq_true (show (ws.drop 1).length = 2 by omega), okn]
            cases cl <;> rfl
          · rw [eR, eP]
            rcases bad with bad | bad
            · rw [decide_eq_false (show ¬ (ws.drop 1).length = 2 by omega)]
              rfl
            · rw [bad, Bool.and_false, Bool.false_and]
        · have ec : ws[0] ≠ ("caller" : Str) := fun z => ec (decide_eq_true (by rw [z]))
          refine fails kp (Same.refl _) ?_
          rw [hok, part2 (.inl er), if_neg (by rw [e0]; exact fun z => ec (Option.some.inj z))]
    · rintro σ H8 ⟨kp, ⟨ys1, hl18, hy1⟩, ⟨cl, hT2, hcl, hok⟩, v5, rfl⟩
      rw [hdl, List.drop_length] at hok
      refine ⟨_, rfl, _, rfl, _, rfl, (by show 3 ≤ sizeLine; decide), fun p9 hp9 => ?_⟩
      have u9 := Same.new (o := .tup [V.ref l0, .ref l1, .ref l2]) hp9
      refine k p9 l0 l1 l2 _ ?_ ((keep kp).trans u9) upd_same (u9 _ _ (kp _ _ h07 n01 n02))
      show (TX.okH hd && TX.okR false rest) = true
      rw [okh, hok]
      rfl
end
end K38

set_option Elab.async false
set_option linter.all false
set_option maxRecDepth 100000
set_option maxHeartbeats 4000000
namespace K38
open PySem L2 TW PyProof.Rows
open RM (rowV byV byV_non byV_int)
seal L2.PE L2.PA L2.PT L2.PW L2.PS L2.PSs L2.PG L2.PGs L2.PI L2.PTs
section
variable {P : Program} {w : World} {K : PySem.W.Frag} {mg : Str → Option Value} {base : Heap}
def spCell (K : PySem.W.Frag) : Sp := fun vs H Q _ => ∃ (a : Addr) (ns : List Int) (k : Int), vs = [.ref a, .int k] ∧ SqL K H a (ns.map V.int) ∧ 0 ≤ k ∧ Q (.int (ns.getD k.toNat 0)) H
theorem ok_w_cell_at {t : Ad} (T : Txt K mg t) : FnOk P w K mg base CX0 1 t.f_w_cell_at t.d_w_cell_at ["_law_script", "_law_k"]  (spCell K) := by
  refine T.F_w_cell_at.ok sc_w_cell_at (fun vs H Q E h => ?_) (fun cdv A outer s H vs Q E hr h => ?_)
  · obtain ⟨a, ns, i, rfl, _⟩ := h; rfl
  · obtain ⟨a, ns, i, rfl, hS, h0, k⟩ := h
    refine ⟨_, (pss_cons (ps_if (pt_cmpR op_lt (pv 1) (pe_callB call_len_seq (by rfl) T.n_len PySem.boot_len (pa_c (pv 0) pa_nil)) (nomark _)) (pss_one (ps_ret (pe_ix ix_list (pv 0) (pv 1) (fun _ _ => rfl)))) pss_nil)
      (pss_one (ps_ret pe_int))), ?_⟩
    refine ⟨_, rfl, _, rfl, a, _, rfl, .inl hS, _, _, rfl, rfl, _, rfl, ?_⟩
    refine ite2 (fun c => ?_) (fun c => ?_)
    · have hi : i < ns.length := by simpa using c
      refine ⟨_, rfl, _, rfl, a, _, _, _, rfl, rfl, hS, atI_ints h0 hi, k⟩
    · have hi : ¬ i < ns.length := by simpa using c
      have e : ns.getD i.toNat 0 = 0 := by
        rw [List.getD_eq_getElem?_getD, List.getElem?_eq_none (by omega)]; rfl
      rw [e] at k
      exact k
end
section
variable {P : Program} {w : World} {K : PySem.W.Frag} {mg : Str → Option Value} {base : Heap}
theorem comp_rng1 {acc : Addr} {n : Nat} {lo : Int} {cap : List (Option Nat)} {g : TG} {tc : TT} {te : TE} {σ : L2.St} {Qr : Hp → Prop} {H1 : Hp} (F : Nat → Option V) (hacc : H1 acc = none) (hn : n ≤ 1000)
    (step : ∀ (i : Nat) (H : Hp) (R : V → Hp → Prop) (S : Hp → Prop), i < n → Same H1 H → (∀ y H', Same H H' → F i = some y → R y H') → (∀ H', Same H H' → F i = none → S H') →
      g (.int (lo + (i : Nat))) (capSt cap σ) H fun σ2 H2 => tc σ2 H2 fun b H3 => if b = true then te σ2 H3 R else S H3)
    (fin : ∀ H, Same H1 H → H acc = some (.lst ((List.range n).filterMap F)) → Qr H) :
    ∃ W : Nat → Nat → Hp → Prop, (∃ m, W 0 m (upd H1 acc (.lst []))) ∧ ∀ i m H, W i m H →
      ((Itr lo n).stop i H ∧ Qr H) ∨ ((Itr lo n).go i H ∧ ∀ x H', (Itr lo n).yld i H x H' → g x (capSt cap σ) H' fun σ2 H2 => tc σ2 H2 fun b H3 => if b = true then te σ2 H3 fun y H4 => ∃ xs, H4 acc = some (.lst xs) ∧ xs.length < sizeLine ∧
        ∃ m', m' < m ∧ W (i + 1) m' (upd H4 acc (.lst (xs ++ [y]))) else ∃ m', m' < m ∧ W (i + 1) m' H3) :=
  comp_opt (n := n) (fun i => V.int (lo + (i : Nat))) F hacc itr_go itr_stop (fun i H x H' hi s hx => by
    obtain ⟨rfl, rfl⟩ := hx
    exact ⟨rfl, rfl⟩) hn step fin
def ropeT (i : Nat) : Str := Str.empty ++ "rope 0 1 " ++ Str.ofString (toString ((1 : Int) + (i : Nat))) ++ " 2 7"
def callT (i : Nat) : Str := Str.empty ++ "caller " ++ Str.ofString (toString ((i : Nat) : Int)) ++ " 0"
def gParts (x y : Nat) : List Str := ("names 5 0 7" : Str) :: ((List.range x).map ropeT ++ (List.range y).map callT)
def spGood (K : PySem.W.Frag) : Sp := fun vs H Q _ => ∃ (a : Addr) (ns : List Int), vs = [.ref a] ∧ SqL K H a (ns.map V.int) ∧
  ∀ (x y : Nat) l' H', x < 7 → y < 7 → Same H H' → H l' = none → H' l' = some (.lst (strsV (gParts x y))) → Q (.ref l') H'
theorem ok_w_good {t : Ad} (T : Txt K mg t) : FnOk P w K mg base CX0 2 t.f_w_good t.d_w_good ["_law_script"]  (spGood K) := by
  refine T.F_w_good.ok sc_w_good (fun vs H Q E h => ?_) (fun cdv A outer s H vs Q E hr h => ?_)
  · obtain ⟨_, _, rfl, _⟩ := h; rfl
  · obtain ⟨a, ns, rfl, hS, k⟩ := h
    refine ⟨_, (pss_cons (ps_set (i := 1) sc_w_good.nd rfl (Or.inl rfl) (pe_call (ok_w_cell_at T) (hr.mono (by decide)) rfl T.g_w_cell_at T.F_w_cell_at.kp T.B_w_cell_at .nil pass0 (pa_c (pv 0) (pa_c pe_int pa_nil))))
      (pss_cons (ps_set (i := 2) sc_w_good.nd rfl (Or.inl rfl) (pe_call (ok_w_cell_at T) (hr.mono (by decide)) rfl T.g_w_cell_at T.F_w_cell_at.kp T.B_w_cell_at .nil pass0 (pa_c (pv 0) (pa_c pe_int pa_nil))))
      (pss_cons (ps_setcomp (i := 3) sc_w_good.nd rfl (Or.inl rfl) (compOk_of (dsc := defScope s_w_good) (N0 := ["_law_script", "_law_first", "_law_second", "_law_ropes", "_law_callers"]) (N2 := ["_law_number"]) (cap := [none]) rfl rfl (by decide +kernel)) rfl (pi_range2 rfl T.n_range (pa_c pe_int (pa_c (pe_op op_add pe_int (pe_op op_mod (pv 1) pe_int)) pa_nil))) (fun _ _ _ _ => by exact (pg_name (i := 0) nd_w_good_c0 rfl (Or.inl rfl))) (fun _ _ _ _ => by exact pts_nil) (fun _ _ _ _ => by exact (pe_box (pe_fstr (pj_cons pe_str (pj_cons (pe_fmtI (pv 0)) (pj_cons pe_str pj_nil)))))))
      (pss_cons (ps_setcomp (i := 4) sc_w_good.nd rfl (Or.inl rfl) (compOk_of (dsc := defScope s_w_good) (N0 := ["_law_script", "_law_first", "_law_second", "_law_ropes", "_law_callers"]) (N2 := ["_law_number"]) (cap := [none]) rfl rfl (by decide +kernel)) rfl (pi_range1 rfl T.n_range (pa_c (pe_op op_mod (pv 2) pe_int) pa_nil)) (fun _ _ _ _ => by exact (pg_name (i := 0) nd_w_good_c1 rfl (Or.inl rfl))) (fun _ _ _ _ => by exact pts_nil) (fun _ _ _ _ => by exact (pe_box (pe_fstr (pj_cons pe_str (pj_cons (pe_fmtI (pv 0)) (pj_cons pe_str pj_nil)))))))
      (pss_one (ps_ret (pe_op op_cat (pe_op op_cat (pe_lst (pa_c pe_str pa_nil)) (pv 3)) (pv 4)))))))), ?_⟩
    refine ⟨_, rfl, a, ns, 0, rfl, hS, by decide, ?_⟩
    refine ⟨_, rfl, a, ns, 1, rfl, hS, by decide, ?_⟩
    generalize ns.getD (Int.toNat 0) 0 = c0
    generalize ns.getD (Int.toNat 1) 0 = c1
    have m0 := Int.emod_nonneg c0 (show (7 : Int) ≠ 0 by decide)
    have m1 := Int.emod_lt_of_pos c0 (show (0 : Int) < 7 by decide)
    have m2 := Int.emod_nonneg c1 (show (7 : Int) ≠ 0 by decide)
    have m3 := Int.emod_lt_of_pos c1 (show (0 : Int) < 7 by decide)
    refine ⟨_, rfl, _, _, rfl, rfl, (show (0 : Int) < 7 by decide), _, _, rfl, rfl, _, _, rfl, ⟨by decide, by decide, by omega, by omega⟩, fun acc hacc => ?_⟩
    refine comp_rng1 (n := (1 + c0 % 7 - 1).toNat) (fun i => some (.str (ropeT i))) hacc (by omega) (fun i H2 R S hi s2 h1 h2 => ?_) (fun H2 s2 hy => ?_)
    · have hz : ∀ j : Nat, j < 7 → (1 + (j : Int)).natAbs.log2 < 1920 ∧ (Str.empty ++ "rope 0 1 " ++ Str.ofString (toString (1 + (j : Int)))).length ≤ sizeLine ∧ (ropeT j).length ≤ sizeLine := by decide +kernel
      obtain ⟨z1, z2, z3⟩ := hz i (by omega)
      exact ⟨_, rfl, by decide +kernel, _, rfl, _, rfl, z1, _, rfl, z2, _, rfl, z3, z3, h1 _ _ (Same.refl _) rfl⟩
    rw [List.filterMap_eq_map'] at hy
    refine ⟨_, rfl, _, _, rfl, rfl, (show (0 : Int) < 7 by decide), _, rfl, by omega, by omega, fun acc2 hacc2 => ?_⟩
    refine comp_rng (n := (c1 % 7).toNat) (fun i => some (.str (callT i))) hacc2 (by omega) (fun i H3 R S hi s3 h1 h2 => ?_) (fun H3 s3 hy3 => ?_)
    · have hz : ∀ j : Nat, j < 7 → (j : Int).natAbs.log2 < 1920 ∧ (Str.empty ++ "caller " ++ Str.ofString (toString (j : Int))).length ≤ sizeLine ∧ (callT j).length ≤ sizeLine := by decide +kernel
      obtain ⟨z1, z2, z3⟩ := hz i (by omega)
      exact ⟨_, rfl, by decide +kernel, _, rfl, _, rfl, z1, _, rfl, z2, _, rfl, z3, z3, h1 _ _ (Same.refl _) rfl⟩
    rw [List.filterMap_eq_map'] at hy3
    refine ⟨by show 1 ≤ sizeLine; decide, fun l4 hl4 => ?_⟩
    have u4 := Same.new (o := .lst [V.str "names 5 0 7"]) hl4
    have h4 := upd_same (H := H3) (a := l4) (o := .lst [V.str "names 5 0 7"])
    generalize upd H3 l4 (.lst [V.str "names 5 0 7"]) = H4 at u4 h4
    have hx4 := u4 _ _ (s3 _ _ hy)
    have hz4 := u4 _ _ hy3
    refine ⟨_, rfl, l4, acc, _, _, rfl, rfl, h4, hx4, (by rw [List.length_map, List.length_range]; show 1 + _ ≤ sizeLine; have : 100 ≤ sizeLine := by decide
                                                          omega), fun l5 hl5 => ?_⟩
    have u5 := Same.new (o := .lst ([V.str "names 5 0 7"] ++ (List.range (1 + c0 % 7 - 1).toNat).map fun i => V.str (ropeT i))) hl5
    have h5 := upd_same (H := H4) (a := l5) (o := .lst ([V.str "names 5 0 7"] ++ (List.range (1 + c0 % 7 - 1).toNat).map fun i => V.str (ropeT i)))
    generalize upd H4 l5 (.lst ([V.str "names 5 0 7"] ++ (List.range (1 + c0 % 7 - 1).toNat).map fun i => V.str (ropeT i))) = H5 at u5 h5
    refine ⟨_, rfl, l5, acc2, _, _, rfl, rfl, h5, u5 _ _ hz4, (by rw [List.length_append, List.length_map, List.length_range, List.length_map, List.length_range]; show 1 + _ + _ ≤ sizeLine; have : 100 ≤ sizeLine := by decide
                                                                  omega), fun l6 hl6 => ?_⟩
    refine k (1 + c0 % 7 - 1).toNat (c1 % 7).toNat l6 _ (by omega) (by omega) (s2.trans (s3.trans (u4.trans (u5.trans (Same.new hl6))))) (s2.free (s3.free (u4.free (u5.free hl6)))) ?_
    rw [upd_same]
    congr 2
    unfold gParts strsV
    rw [List.map_cons, List.map_append, List.map_map, List.map_map]
    rfl
def many (z : Str) (k : Nat) : Str := ⟨(List.replicate k z.cps).foldl (· ++ ·) #[]⟩
def od1 : List Str := ["", "rope", "caller", "rope 0 1 2 3", "rope 0 1 2 3 4 5", "caller 1", "caller 1 2 3", "names 8"]
def od2 : List Str := ["Rope 0 1 1 1 1", "rope 0 1 1 1 01", "rope 0 1 -1 1 1"]
def od3 : List Str := ["rope 0 1 1 1 +1", "caller 0 x", "caller 0 1_0"]
def od4 : List Str := ["caller 0 1.0", "rope  0 1 1 1 1", " rope 0 1 1 1 1", "rope 0 1 1 1 1 "]
def od5 : List Str := ["caller 00 1", "callers 0 0", "ropes 0 1 1 1 1"]
def od6 : List Str := ["caller 0, 0", "rope 0 1 1 1 1;", "house 0", ("caller 0 " : Str) ++ many "9" 61, "0 1 1 1 1"]
def oddP : List Str := ((((od1 ++ od2) ++ od3) ++ od4) ++ od5) ++ od6
def oh1 : List Str := ["names", "names ", "name 5 0 12", "Names 5 0 12", "names 5 -1"]
def oh2 : List Str := ["names 5  0", "names 05", "names x", ""]
def oh3 : List Str := [" names 5", "names 5;", "5 0 12", ("names " : Str) ++ many "1" 61]
def oddH : List Str := (oh1 ++ oh2) ++ oh3
theorem at_mod {l : List Str} {c m : Int} (hm : m = l.length) (hl : 0 < l.length) : ∃ z ∈ l, atI (strsV l) (c % m) = some (.str z) := by
  subst hm
  have m0 := Int.emod_nonneg c (show (l.length : Int) ≠ 0 by omega)
  have m1 := Int.emod_lt_of_pos c (show (0 : Int) < l.length by omega)
  obtain ⟨j, hj⟩ := Int.eq_ofNat_of_zero_le m0
  rw [hj] at m1 ⊢
  have hj2 : j < l.length := by omega
  exact ⟨l[j], List.getElem_mem hj2, atI_nat (by rw [List.getElem?_map, List.getElem?_eq_getElem hj2]; rfl)⟩
theorem catP {H : Hp} {l p : Addr} {xs : List Str} {R : VK} (ys : List Str) (h : H l = some (.lst (strsV xs))) (hp : H p = none) (hn : xs.length + ys.length ≤ 1000) (k : ∀ q H', Same H H' → H q = none → H' q = some (.lst (strsV (xs ++ ys))) → R (.ref q) H') :
    rCat (.ref l) (.ref p) (upd H p (.lst (strsV ys))) R := by
  have hs : 1000 ≤ sizeLine := by decide
  refine ⟨l, p, _, _, rfl, rfl, Same.new hp _ _ h, upd_same, by rw [List.length_map, List.length_map]; omega, fun q hq => ?_⟩
  refine k q _ ((Same.new hp).trans (Same.new hq)) ((Same.new hp).free hq) ?_
  rw [upd_same]
  congr 2
  exact (List.map_append ..).symm
def spOdd (l : List Str) : Sp := fun vs H Q _ => ∃ c : Int, vs = [.int c] ∧ ∀ z H', z ∈ l → Same H H' → Q (.str z) H'
theorem ok_w_odd_part {t : Ad} (T : Txt K mg t) : FnOk P w K mg base CX0 1 t.f_w_odd_part t.d_w_odd_part ["_law_cell"]  (spOdd oddP) := by
  refine T.F_w_odd_part.ok sc_w_odd_part (fun vs H Q E h => ?_) (fun cdv A outer s H vs Q E hr h => ?_)
  · obtain ⟨_, rfl, _⟩ := h; rfl
  · obtain ⟨c, rfl, k⟩ := h
    refine ⟨_, (pss_cons (ps_set (i := 1) sc_w_odd_part.nd rfl (Or.inl rfl) (pe_lst (pa_c pe_str (pa_c pe_str (pa_c pe_str (pa_c pe_str (pa_c pe_str (pa_c pe_str (pa_c pe_str (pa_c pe_str pa_nil))))))))))
      (pss_cons (ps_set (i := 1) sc_w_odd_part.nd rfl (Or.inl rfl) (pe_op op_cat (pv 1) (pe_lst (pa_c pe_str (pa_c pe_str (pa_c pe_str pa_nil))))))
      (pss_cons (ps_set (i := 1) sc_w_odd_part.nd rfl (Or.inl rfl) (pe_op op_cat (pv 1) (pe_lst (pa_c pe_str (pa_c pe_str (pa_c pe_str pa_nil))))))
      (pss_cons (ps_set (i := 1) sc_w_odd_part.nd rfl (Or.inl rfl) (pe_op op_cat (pv 1) (pe_lst (pa_c pe_str (pa_c pe_str (pa_c pe_str (pa_c pe_str pa_nil)))))))
      (pss_cons (ps_set (i := 1) sc_w_odd_part.nd rfl (Or.inl rfl) (pe_op op_cat (pv 1) (pe_lst (pa_c pe_str (pa_c pe_str (pa_c pe_str pa_nil))))))
      (pss_cons (ps_set (i := 1) sc_w_odd_part.nd rfl (Or.inl rfl) (pe_op op_cat (pv 1) (pe_lst (pa_c pe_str (pa_c pe_str (pa_c pe_str (pa_c (pe_op op_add_str pe_str (pe_op op_mulS pe_str pe_int)) (pa_c pe_str pa_nil))))))))
      (pss_one (ps_ret (pe_ix ix_list (pv 1) (pe_op op_mod (pv 0) pe_int) (fun _ _ => rfl)))))))))), ?_⟩
    refine ⟨by show 8 ≤ sizeLine; decide, fun l1 hl1 => ?_⟩
    refine ⟨_, rfl, by show 3 ≤ sizeLine; decide, fun p2 hp2 => ?_⟩
    refine catP (xs := od1) od2 upd_same hp2 (by decide) fun l2 H2 s2 _ h2 => ?_
    refine ⟨_, rfl, by show 3 ≤ sizeLine; decide, fun p3 hp3 => ?_⟩
    refine catP od3 h2 hp3 (by decide) fun l3 H3 s3 _ h3 => ?_
    refine ⟨_, rfl, by show 4 ≤ sizeLine; decide, fun p4 hp4 => ?_⟩
    refine catP od4 h3 hp4 (by decide) fun l4 H4 s4 _ h4 => ?_
    refine ⟨_, rfl, by show 3 ≤ sizeLine; decide, fun p5 hp5 => ?_⟩
    refine catP od5 h4 hp5 (by decide) fun l5 H5 s5 _ h5 => ?_
    refine ⟨_, rfl, _, _, rfl, rfl, by decide, by decide, by decide +kernel, by decide +kernel, by decide +kernel, _, _, rfl, rfl, by decide +kernel, by show 5 ≤ sizeLine; decide, fun p6 hp6 => ?_⟩
    refine catP od6 h5 hp6 (by decide) fun l6 H6 s6 _ h6 => ?_
    obtain ⟨z, hz, hat⟩ := at_mod (l := oddP) (c := c) (m := 26) rfl (by decide)
    refine ⟨_, rfl, _, rfl, _, _, rfl, rfl, (show (0 : Int) < 26 by decide), l6, _, _, _, rfl, rfl, SqL.of h6, hat, k z H6 hz ?_⟩
    exact (Same.new hl1).trans (s2.trans (s3.trans (s4.trans (s5.trans s6))))
theorem ok_w_odd_head {t : Ad} (T : Txt K mg t) : FnOk P w K mg base CX0 1 t.f_w_odd_head t.d_w_odd_head ["_law_cell"]  (spOdd oddH) := by
  refine T.F_w_odd_head.ok sc_w_odd_head (fun vs H Q E h => ?_) (fun cdv A outer s H vs Q E hr h => ?_)
  · obtain ⟨_, rfl, _⟩ := h; rfl
  · obtain ⟨c, rfl, k⟩ := h
    refine ⟨_, (pss_cons (ps_set (i := 1) sc_w_odd_head.nd rfl (Or.inl rfl) (pe_lst (pa_c pe_str (pa_c pe_str (pa_c pe_str (pa_c pe_str (pa_c pe_str pa_nil)))))))
      (pss_cons (ps_set (i := 1) sc_w_odd_head.nd rfl (Or.inl rfl) (pe_op op_cat (pv 1) (pe_lst (pa_c pe_str (pa_c pe_str (pa_c pe_str (pa_c pe_str pa_nil)))))))
      (pss_one (ps_ret (pe_ix ix_list (pe_op op_cat (pv 1) (pe_lst (pa_c pe_str (pa_c pe_str (pa_c pe_str (pa_c (pe_op op_add_str pe_str (pe_op op_mulS pe_str pe_int)) pa_nil)))))) (pe_op op_mod (pv 0) pe_int) (fun _ _ => rfl)))))), ?_⟩
    refine ⟨by show 5 ≤ sizeLine; decide, fun l1 hl1 => ?_⟩
    refine ⟨_, rfl, by show 4 ≤ sizeLine; decide, fun p2 hp2 => ?_⟩
    refine catP (xs := oh1) oh2 upd_same hp2 (by decide) fun l2 H2 s2 _ h2 => ?_
    refine ⟨_, rfl, _, _, rfl, rfl, by decide, by decide, by decide +kernel, by decide +kernel, by decide +kernel, _, _, rfl, rfl, by decide +kernel, by show 4 ≤ sizeLine; decide, fun p3 hp3 => ?_⟩
    refine catP oh3 h2 hp3 (by decide) fun l3 H3 s3 _ h3 => ?_
    obtain ⟨z, hz, hat⟩ := at_mod (l := oddH) (c := c) (m := 13) rfl (by decide)
    refine ⟨_, rfl, _, _, rfl, rfl, (show (0 : Int) < 13 by decide), l3, _, _, _, rfl, rfl, SqL.of h3, hat, k z H3 hz ?_⟩
    exact (Same.new hl1).trans (s2.trans s3)
/-! words that write no number -/
def ow1 (w : Str) : List Str := ["", "-" ++ w, "+" ++ w, "0" ++ w, w ++ " "]
def ow2 (w : Str) : List Str := [" " ++ w, w ++ "x", w ++ ".0", "-0", "1_" ++ w]
def ow3 : List Str := [many "2" 61, "x"]
def oddW (w : Str) : List Str := (ow1 w ++ ow2 w) ++ ow3
def spOddW : Sp := fun vs H Q _ => ∃ c : Int, vs = [.int c] ∧ ∀ n z H', 0 ≤ n → n < 10 ^ 50 → z ∈ oddW (TX.num n) → Same H H' → Q (.str z) H'
theorem num_small {n : Int} (h : 0 ≤ n) (h' : n < 10 ^ 50) : n.natAbs.log2 < 1920 ∧ (TX.num n).length ≤ 60 := by
  refine ⟨?_, (TX.num_len ⟨h, Int.lt_trans h' (by decide)⟩).2⟩
  have : n.natAbs < 2 ^ 1920 := Nat.lt_of_lt_of_le (show n.natAbs < 10 ^ 50 by omega) (by decide +kernel)
  by_cases hz : n.natAbs = 0
  · rw [hz]; decide
  · exact (Nat.log2_lt hz).mpr this
theorem ok_w_odd_word {t : Ad} (T : Txt K mg t) : FnOk P w K mg base CX0 1 t.f_w_odd_word t.d_w_odd_word ["_law_cell"]  spOddW := by
  refine T.F_w_odd_word.ok sc_w_odd_word (fun vs H Q E h => ?_) (fun cdv A outer s H vs Q E hr h => ?_)
  · obtain ⟨_, rfl, _⟩ := h; rfl
  · obtain ⟨c, rfl, k⟩ := h
    refine ⟨_, (pss_cons (ps_set (i := 1) sc_w_odd_word.nd rfl (Or.inl rfl) (pe_callTy call_str_int (by rfl) T.n_str boot_str (pa_c (pe_op op_mod (pe_op op_fdiv (pv 0) pe_int) (pe_op op_pow pe_int pe_int)) pa_nil)))
      (pss_cons (ps_set (i := 2) sc_w_odd_word.nd rfl (Or.inl rfl) (pe_lst (pa_c pe_str (pa_c (pe_op op_add_str pe_str (pv 1)) (pa_c (pe_op op_add_str pe_str (pv 1)) (pa_c (pe_op op_add_str pe_str (pv 1)) (pa_c (pe_op op_add_str (pv 1) pe_str) pa_nil)))))))
      (pss_cons (ps_set (i := 2) sc_w_odd_word.nd rfl (Or.inl rfl) (pe_op op_cat (pv 2) (pe_lst (pa_c (pe_op op_add_str pe_str (pv 1)) (pa_c (pe_op op_add_str (pv 1) pe_str) (pa_c (pe_op op_add_str (pv 1) pe_str) (pa_c pe_str (pa_c (pe_op op_add_str pe_str (pv 1)) pa_nil))))))))
      (pss_one (ps_ret (pe_ix ix_list (pe_op op_cat (pv 2) (pe_lst (pa_c (pe_op op_mulS pe_str pe_int) (pa_c pe_str pa_nil)))) (pe_op op_mod (pv 0) pe_int) (fun _ _ => rfl))))))), ?_⟩
    have m0 := Int.emod_nonneg (c / 12) (show (10 ^ 50 : Int) ≠ 0 by decide +kernel)
    have m1 := Int.emod_lt_of_pos (c / 12) (show (0 : Int) < 10 ^ 50 by decide +kernel)
    refine ⟨_, rfl, _, _, rfl, rfl, ?_, _, _, rfl, rfl, ?_, _, _, rfl, rfl, (show (0 : Int) < 10 ^ (Int.toNat 50) by decide +kernel), _, rfl, (num_small m0 m1).1, ?_⟩
    · exact ⟨by decide, by decide⟩
    · exact ⟨by decide, by decide, by decide⟩
    have hl := (num_small m0 m1).2
    have ec : c / 12 % 10 ^ Int.toNat 50 = c / 12 % 10 ^ 50 := rfl
    rw [ec]
    generalize c / 12 % 10 ^ 50 = n at m0 m1 hl
    have hs : 1000 ≤ sizeLine := by decide
    have len : ∀ z : Str, z.length ≤ 10 → z.length + (TX.num n).length ≤ sizeLine := fun z hz => by omega
    have len2 : ∀ z : Str, z.length ≤ 10 → (TX.num n).length + z.length ≤ sizeLine := fun z hz => by omega
    refine ⟨_, rfl, _, _, rfl, rfl, len "-" (by decide +kernel), _, rfl, _, _, rfl, rfl, len "+" (by decide +kernel), _, rfl, _, _, rfl, rfl, len "0" (by decide +kernel), _, rfl, _, _, rfl, rfl, len2 " " (by decide +kernel), by show 5 ≤ sizeLine; decide, fun l1 hl1 => ?_⟩
    refine ⟨_, rfl, _, rfl, _, _, rfl, rfl, len " " (by decide +kernel), _, rfl, _, _, rfl, rfl, len2 "x" (by decide +kernel), _, rfl, _, _, rfl, rfl, len2 ".0" (by decide +kernel), _, rfl, _, _, rfl, rfl, len "1_" (by decide +kernel), by show 5 ≤ sizeLine; decide, fun p2 hp2 => ?_⟩
    refine catP (xs := ow1 (TX.num n)) (ow2 (TX.num n)) upd_same hp2 (by show 5 + 5 ≤ 1000; decide) fun l2 H2 s2 _ h2 => ?_
    refine ⟨_, rfl, _, _, rfl, rfl, by decide, by decide, by decide +kernel, by decide +kernel, by decide +kernel, by show 2 ≤ sizeLine; decide, fun p3 hp3 => ?_⟩
    refine catP ow3 h2 hp3 (by show 10 + 2 ≤ 1000; decide) fun l3 H3 s3 _ h3 => ?_
    obtain ⟨z, hz, hat⟩ := at_mod (l := oddW (TX.num n)) (c := c) (m := 12) rfl (by show 0 < 12; decide)
    refine ⟨_, rfl, _, _, rfl, rfl, (show (0 : Int) < 12 by decide), l3, _, _, _, rfl, rfl, SqL.of h3, hat, k n z H3 m0 m1 hz ?_⟩
    exact (Same.new hl1).trans (s2.trans s3)
end
end K38

set_option Elab.async false
set_option linter.all false
set_option maxRecDepth 100000
set_option maxHeartbeats 4000000
namespace K38
open PySem L2 TW PyProof.Rows
open RM (rowV byV byV_non byV_int)
seal L2.PE L2.PA L2.PT L2.PW L2.PS L2.PSs L2.PG L2.PGs L2.PI L2.PTs
section
variable {P : Program} {w : World} {K : PySem.W.Frag} {mg : Str → Option Value} {base : Heap}
def gText (x y : Nat) : Str := Txt.join TX.sep2 (gParts x y)
def pOk (p : Str) : Bool := !(TX.cs p).contains 59 && (p.cps.all (· < 128) && decide (p.length ≤ 20))
theorem g_parts : ∀ x < 7, ∀ y < 7, (gParts x y).all pOk = true := by decide +kernel
theorem g_text : ∀ x < 7, ∀ y < 7, (TX.adjB (TX.cs (gText x y)) && ((gText x y).cps.all (· < 128) && (decide (1 ≤ (gText x y).length) && decide ((gText x y).length ≤ 400)))) = true := by decide +kernel
theorem g_len {x y : Nat} (hx : x < 7) (hy : y < 7) : 1 ≤ (gParts x y).length ∧ (gParts x y).length ≤ 13 := by
  unfold gParts
  rw [List.length_cons, List.length_append, List.length_map, List.length_map, List.length_range, List.length_range]
  omega
theorem g_part {x y : Nat} (hx : x < 7) (hy : y < 7) {p : Str} (hp : p ∈ gParts x y) : 59 ∉ TX.cs p ∧ p.cps.all (· < 128) = true ∧ p.length ≤ 20 := by
  have := List.all_eq_true.mp (g_parts x hx y hy) p hp
  unfold pOk at this
  simp only [Bool.and_eq_true, Bool.not_eq_true', decide_eq_true_eq] at this
  refine ⟨fun z => ?_, this.2.1, this.2.2⟩
  rw [List.contains_iff_mem.mpr z] at this
  cases this.1
theorem g_good {x y : Nat} (hx : x < 7) (hy : y < 7) : TX.adjB (TX.cs (gText x y)) = true ∧ (gText x y).cps.all (· < 128) = true ∧ 1 ≤ (gText x y).length ∧ (gText x y).length ≤ 400 := by
  have := g_text x hx y hy
  simp only [Bool.and_eq_true, decide_eq_true_eq] at this
  exact ⟨this.1, this.2.1, this.2.2.1, this.2.2.2⟩
theorem odd_parts : ∀ z ∈ oddP, z = ("rope 0 1 1 1 1;" : Str) ∨ (59 ∉ TX.cs z ∧ TX.okP "rope" 5 (Txt.split z TX.sep1) = false ∧ TX.okP "caller" 2 (Txt.split z TX.sep1) = false) := by decide +kernel
theorem odd_heads : ∀ z ∈ oddH, z = ("names 5;" : Str) ∨ (59 ∉ TX.cs z ∧ TX.okH (Txt.split z TX.sep1) = false) := by decide +kernel
theorem odd_small : ∀ z ∈ oddP ++ oddH, z.cps.all (· < 128) = true ∧ z.length ≤ 100 := by decide +kernel
/-- a text that is not read, and is not long -/
def Bad (z : Str) : Prop := TX.okT (TX.told z) = false ∧ z.cps.all (· < 128) = true ∧ z.length ≤ 900
theorem sum_bound {l : List Str} {B : Nat} (h : ∀ p ∈ l, p.length ≤ B) : (l.map (·.length)).sum ≤ l.length * B := by
  have := TX.sum_le (B := B) (l := l.map (·.length)) fun x hx => by
    obtain ⟨p, hp, rfl⟩ := List.mem_map.mp hx
    exact h p hp
  rwa [List.length_map] at this
theorem join_bound {l : List Str} {n : Nat} (h : (l.map (·.length)).sum + l.length * 2 ≤ n) : (Txt.join TX.sep2 l).length ≤ n := by
  rw [TX.join_eq]
  exact Nat.le_trans (StrLaws.join_length_le _ _) h
end
end K38

set_option Elab.async false
set_option linter.all false
set_option maxRecDepth 100000
set_option maxHeartbeats 4000000
namespace K38
open PySem L2 TW PyProof.Rows
open RM (rowV byV byV_non byV_int)
seal L2.PE L2.PA L2.PT L2.PW L2.PS L2.PSs L2.PG L2.PGs L2.PI L2.PTs
section
variable {P : Program} {w : World} {K : PySem.W.Frag} {mg : Str → Option Value} {base : Heap}
theorem cutT (ws : List Str) (n : Nat) : cutV (strsV ws) none (some (1 + (n : Int))) = strsV (ws.take (n + 1)) := by
  rw [show (1 : Int) + (n : Int) = ((n + 1 : Nat) : Int) by omega, cut_to]
  exact List.map_take.symm
theorem cutF (ws : List Str) (n : Nat) : cutV (strsV ws) (some (1 + (n : Int))) none = strsV (ws.drop (n + 1)) := by
  rw [show (1 : Int) + (n : Int) = ((n + 1 : Nat) : Int) by omega, cut_from]
  exact List.map_drop.symm
theorem g_sum {x y : Nat} (hx : x < 7) (hy : y < 7) : ((gParts x y).map (·.length)).sum ≤ 260 := by
  have := g_len hx hy
  exact Nat.le_trans (sum_bound fun p hp => (g_part hx hy hp).2.2) (by omega)
theorem odd_bad {x y n : Nat} {z : Str} (hx : x < 7) (hy : y < 7) (hz : z ∈ oddP) (hn : n < (gParts x y).length) : ((((gParts x y).take (n + 1) ++ [z]) ++ (gParts x y).drop (n + 1)).map (·.length)).sum + (((gParts x y).take (n + 1) ++ [z]) ++ (gParts x y).drop (n + 1)).length * 2 ≤ 900 ∧ Bad (Txt.join TX.sep2 (((gParts x y).take (n + 1) ++ [z]) ++ (gParts x y).drop (n + 1))) := by
  obtain ⟨hz1, hz2⟩ := odd_small z (List.mem_append_left _ hz)
  have hg := g_len hx hy
  have hs := g_sum hx hy
  have hp := fun p (h : p ∈ gParts x y) => g_part hx hy h
  have hsum : ((((gParts x y).take (n + 1) ++ [z]) ++ (gParts x y).drop (n + 1)).map (·.length)).sum + (((gParts x y).take (n + 1) ++ [z]) ++ (gParts x y).drop (n + 1)).length * 2 ≤ 900 := by
    have e : ((gParts x y).map (·.length)).sum = (((gParts x y).take (n + 1)).map (·.length)).sum + (((gParts x y).drop (n + 1)).map (·.length)).sum := by
      rw [← List.sum_append, ← List.map_append, List.take_append_drop]
    simp only [List.map_append, List.sum_append, List.length_append, List.length_take, List.length_drop, List.map_cons, List.map_nil, List.sum_cons, List.sum_nil, List.length_cons, List.length_nil]
    omega
  refine ⟨hsum, ?_, TX.join_ascii fun p h => ?_, join_bound hsum⟩
  · obtain ⟨f, r, e⟩ : ∃ f r, gParts x y = f :: r := ⟨_, _, rfl⟩
    rw [e] at hp ⊢
    rw [List.take_succ_cons, List.drop_succ_cons, show (f :: r.take n ++ [z]) ++ r.drop n = f :: (r.take n ++ z :: r.drop n) by simp]
    rcases odd_parts z hz with rfl | ⟨h1, h2, h3⟩
    · exact TX.semi_bad (a := f :: r.take n) (q := [114, 111, 112, 101, 32, 48, 32, 49, 32, 49, 32, 49, 32, 49]) (by decide +kernel)
    · exact TX.part_bad (hp f (List.mem_cons_self ..)).1 (fun q hq => (hp q (List.mem_cons_of_mem _ (List.mem_of_mem_take hq))).1) (fun q hq => (hp q (List.mem_cons_of_mem _ (List.mem_of_mem_drop hq))).1) h1 h2 h3
  · rcases List.mem_append.mp h with h | h
    · rcases List.mem_append.mp h with h | h
      · exact (hp p (List.mem_of_mem_take h)).2.1
      · rw [List.mem_singleton.mp h]; exact hz1
    · exact (hp p (List.mem_of_mem_drop h)).2.1
theorem order_bad {x y : Nat} (hx : x < 7) (hy : y < 7) : ((gParts x y ++ ([("caller 0 0" : Str), ("rope 0 1 1 1 1" : Str)] : List Str)).map (·.length)).sum + (gParts x y ++ ([("caller 0 0" : Str), ("rope 0 1 1 1 1" : Str)] : List Str)).length * 2 ≤ 900 ∧ Bad (Txt.join TX.sep2 (gParts x y ++ ([("caller 0 0" : Str), ("rope 0 1 1 1 1" : Str)] : List Str))) := by
  have hg := g_len hx hy
  have hs := g_sum hx hy
  have hp := fun p (h : p ∈ gParts x y) => g_part hx hy h
  have l1 : ("caller 0 0" : Str).length = 10 := by decide +kernel
  have l2 : ("rope 0 1 1 1 1" : Str).length = 14 := by decide +kernel
  have hsum : ((gParts x y ++ ([("caller 0 0" : Str), ("rope 0 1 1 1 1" : Str)] : List Str)).map (·.length)).sum + (gParts x y ++ ([("caller 0 0" : Str), ("rope 0 1 1 1 1" : Str)] : List Str)).length * 2 ≤ 900 := by
    simp only [List.map_append, List.sum_append, List.length_append, List.map_cons, List.map_nil, List.sum_cons, List.sum_nil, List.length_cons, List.length_nil, l1, l2]
    omega
  refine ⟨hsum, ?_, TX.join_ascii fun p h => ?_, join_bound hsum⟩
  · rw [TX.told_join (by simp) fun q hq => ?_]
    · obtain ⟨f, r, e⟩ : ∃ f r, gParts x y = f :: r := ⟨_, _, rfl⟩
      rw [e, List.cons_append, List.map_cons, List.map_append]
      exact TX.okT_cons (TX.okR_order (by decide +kernel) (by decide +kernel))
    · rcases List.mem_append.mp hq with h | h
      · exact (hp q h).1
      · simp only [List.mem_cons, List.not_mem_nil, or_false] at h
        rcases h with rfl | rfl <;> decide +kernel
  · rcases List.mem_append.mp h with h | h
    · exact (hp p h).2.1
    · simp only [List.mem_cons, List.not_mem_nil, or_false] at h
      rcases h with rfl | rfl <;> decide +kernel
theorem head_bad {x y : Nat} {z : Str} (hx : x < 7) (hy : y < 7) (hz : z ∈ oddH) : (([z] ++ (gParts x y).drop 1).map (·.length)).sum + ([z] ++ (gParts x y).drop 1).length * 2 ≤ 900 ∧ Bad (Txt.join TX.sep2 ([z] ++ (gParts x y).drop 1)) := by
  obtain ⟨hz1, hz2⟩ := odd_small z (List.mem_append_right _ hz)
  have hg := g_len hx hy
  have hs := g_sum hx hy
  have hp := fun p (h : p ∈ gParts x y) => g_part hx hy h
  have hsum : (([z] ++ (gParts x y).drop 1).map (·.length)).sum + ([z] ++ (gParts x y).drop 1).length * 2 ≤ 900 := by
    have e : ((gParts x y).map (·.length)).sum = (((gParts x y).take 1).map (·.length)).sum + (((gParts x y).drop 1).map (·.length)).sum := by
      rw [← List.sum_append, ← List.map_append, List.take_append_drop]
    simp only [List.map_append, List.sum_append, List.length_append, List.length_drop, List.map_cons, List.map_nil, List.sum_cons, List.sum_nil, List.length_cons, List.length_nil]
    omega
  refine ⟨hsum, ?_, TX.join_ascii fun p h => ?_, join_bound hsum⟩
  · rcases odd_heads z hz with rfl | ⟨h1, h2⟩
    · exact TX.semi_bad (a := []) (q := [110, 97, 109, 101, 115, 32, 53]) (by decide +kernel)
    · rw [TX.told_join (by simp) fun q hq => ?_]
      · show (TX.okH (Txt.split z TX.sep1) && _) = false
        rw [h2]; rfl
      · rcases List.mem_cons.mp hq with e | h
        · rw [e]; exact h1
        · exact (hp q (List.mem_of_mem_drop h)).1
  · rcases List.mem_cons.mp h with e | h
    · rw [e]; exact hz1
    · exact (hp p (List.mem_of_mem_drop h)).2.1
theorem signs_bad : ∀ c ∈ TX.cs ("!?:,.+-_xZQ/=*()" : Str), (c == 32 || (c == 59 || (TX.isDig c || TX.kwL c))) = false ∧ c < 128 := by decide +kernel
theorem ascii_of {z : Str} (h : ∀ c ∈ TX.cs z, c < 128) : z.cps.all (· < 128) = true := by
  rw [← Array.all_toList, List.all_eq_true]
  exact fun c hc => decide_eq_true (h c hc)
theorem ascii_mem {z : Str} (h : z.cps.all (· < 128) = true) : ∀ c ∈ TX.cs z, c < 128 := fun c hc => by
  rw [← Array.all_toList, List.all_eq_true] at h
  exact of_decide_eq_true (h c hc)
theorem sign_in {g : Str} {c : Nat} {k : Nat} (hg : g.cps.all (· < 128) = true) (hl : g.length ≤ 400) (hc : c ∈ TX.cs ("!?:,.+-_xZQ/=*()" : Str)) (hk : (k : Int) + 1 ≤ g.length) : Bad ((Txt.slice g none (some (k : Int)) ++ ⟨#[c]⟩) ++ Txt.slice g (some ((k : Int) + 1)) none) := by
  have e : TX.cs ((Txt.slice g none (some (k : Int)) ++ ⟨#[c]⟩) ++ Txt.slice g (some ((k : Int) + 1)) none) = ((TX.cs g).take k ++ [c]) ++ (TX.cs g).drop (k + 1) := by
    rw [TX.cs_app, TX.cs_app, TX.cs_upto g (by omega) (by omega), TX.cs_from g (by omega) hk]
    rfl
  obtain ⟨h1, h2⟩ := signs_bad c hc
  refine ⟨TX.sign_bad (c := c) (by rw [e]; simp) h1, ascii_of fun d hd => ?_, ?_⟩
  · rw [e] at hd
    rcases List.mem_append.mp hd with hd | hd
    · rcases List.mem_append.mp hd with hd | hd
      · exact ascii_mem hg d (List.mem_of_mem_take hd)
      · rw [List.mem_singleton.mp hd]; exact h2
    · exact ascii_mem hg d (List.mem_of_mem_drop hd)
  · rw [← TX.cs_len, e]
    simp only [List.length_append, List.length_take, List.length_drop, List.length_cons, List.length_nil, TX.cs_len]
    omega
theorem blank_in {g : Str} {k : Nat} (hg : g.cps.all (· < 128) = true) (hl : g.length ≤ 400) (ha : TX.adjB (TX.cs g) = true) (hk : (k : Int) ≤ g.length) : Bad ((Txt.slice g none (some (k : Int)) ++ " ") ++ Txt.slice g (some (k : Int)) none) := by
  have e : TX.cs ((Txt.slice g none (some (k : Int)) ++ " ") ++ Txt.slice g (some (k : Int)) none) = (TX.cs g).take k ++ 32 :: (TX.cs g).drop k := by
    rw [TX.cs_app, TX.cs_app, TX.cs_upto g (by omega) hk, TX.cs_from g (by omega) hk, show TX.cs (" " : Str) = [32] by decide +kernel]
    simp
  refine ⟨TX.blank_bad ha (k := k) (by rw [TX.cs_len]; omega) e, ascii_of fun d hd => ?_, ?_⟩
  · rw [e] at hd
    rcases List.mem_append.mp hd with hd | hd
    · exact ascii_mem hg d (List.mem_of_mem_take hd)
    · rcases List.mem_cons.mp hd with hd | hd
      · rw [hd]; decide
      · exact ascii_mem hg d (List.mem_of_mem_drop hd)
  · rw [← TX.cs_len, e]
    simp only [List.length_append, List.length_take, List.length_drop, List.length_cons, TX.cs_len]
    omega
theorem at_modN {l : List Nat} {c m : Int} (hm : m = l.length) (hl : 0 < l.length) : ∃ z ∈ l, atI l (c % m) = some z := by
  subst hm
  have m0 := Int.emod_nonneg c (show (l.length : Int) ≠ 0 by omega)
  have m1 := Int.emod_lt_of_pos c (show (0 : Int) < l.length by omega)
  obtain ⟨j, hj⟩ := Int.eq_ofNat_of_zero_le m0
  rw [hj] at m1 ⊢
  have hj2 : j < l.length := by omega
  exact ⟨l[j], List.getElem_mem hj2, atI_nat (List.getElem?_eq_getElem hj2)⟩
theorem len_app (a b : Str) : (a ++ b).length = a.length + b.length := by
  rw [← TX.cs_len, TX.cs_app, List.length_append, TX.cs_len, TX.cs_len]
def spBad : Sp := fun vs H Q _ => ∃ (l : Addr) (c : Int) (x y : Nat), vs = [.ref l, .int c] ∧ x < 7 ∧ y < 7 ∧ H l = some (.lst (strsV (gParts x y))) ∧ ∀ z H', Bad z → Same H H' → Q (.str z) H'
theorem ok_w_bad {t : Ad} (T : Txt K mg t) : FnOk P w K mg base CX0 2 t.f_w_bad t.d_w_bad ["_law_pieces", "_law_cell"]  spBad := by
  refine T.F_w_bad.ok sc_w_bad (fun vs H Q E h => ?_) (fun cdv A outer s H vs Q E hr h => ?_)
  · obtain ⟨_, _, _, _, rfl, _⟩ := h; rfl
  · obtain ⟨l, c, x, y, rfl, hx, hy, hl, k⟩ := h
    refine ⟨_, (pss_cons (ps_set (i := 2) sc_w_bad.nd rfl (Or.inl rfl) (pe_op op_mod (pv 1) pe_int))
      (pss_cons (ps_set (i := 3) sc_w_bad.nd rfl (Or.inl rfl) (pe_op op_fdiv (pv 1) pe_int))
      (pss_cons (ps_set (i := 4) sc_w_bad.nd rfl (Or.inl rfl) (pe_bm PySem.F.plainAttrs_str PySem.F.slot_str_join PySem.F.type_str_join mt_join pe_str (pa_c (pv 0) pa_nil)))
      (pss_cons (ps_if (PW.pt (pw_or (pt_cmpR op_eq (pv 2) pe_int (nomark _)) (pw_or1 (pt_cmpR op_eq (pv 2) pe_int (nomark _))))) (pss_cons (ps_set (i := 5) sc_w_bad.nd rfl (Or.inl rfl) (pe_op op_add pe_int (pe_op op_mod (pe_op op_fdiv (pv 3) pe_int) (pe_callB call_len_seq (by rfl) T.n_len PySem.boot_len (pa_c (pv 0) pa_nil)))))
      (pss_one (ps_ret (pe_bm PySem.F.plainAttrs_str PySem.F.slot_str_join PySem.F.type_str_join mt_join pe_str (pa_c (pe_op op_cat (pe_op op_cat (pe_slice sl_list (pv 0) po_none (po_some (pv 5))) (pe_lst (pa_c (pe_call (ok_w_odd_part T) (hr.mono (by decide)) rfl T.g_w_odd_part T.F_w_odd_part.kp T.B_w_odd_part .nil pass0 (pa_c (pv 3) pa_nil)) pa_nil))) (pe_slice sl_list (pv 0) (po_some (pv 5)) po_none)) pa_nil))))) pss_nil)
      (pss_cons (ps_if (pt_cmpR op_eq (pv 2) pe_int (nomark _)) (pss_one (ps_ret (pe_bm PySem.F.plainAttrs_str PySem.F.slot_str_join PySem.F.type_str_join mt_join pe_str (pa_c (pe_op op_cat (pv 0) (pe_lst (pa_c pe_str (pa_c pe_str pa_nil)))) pa_nil)))) pss_nil)
      (pss_cons (ps_if (pt_cmpR op_eq (pv 2) pe_int (nomark _)) (pss_one (ps_ret (pe_bm PySem.F.plainAttrs_str PySem.F.slot_str_join PySem.F.type_str_join mt_join pe_str (pa_c (pe_op op_cat (pe_lst (pa_c (pe_call (ok_w_odd_head T) (hr.mono (by decide)) rfl T.g_w_odd_head T.F_w_odd_head.kp T.B_w_odd_head .nil pass0 (pa_c (pv 3) pa_nil)) pa_nil)) (pe_slice sl_list (pv 0) (po_some pe_int) po_none)) pa_nil)))) pss_nil)
      (pss_cons (ps_if (pt_cmpR op_eq (pv 2) pe_int (nomark _)) (pss_cons (ps_set (i := 5) sc_w_bad.nd rfl (Or.inl rfl) (pe_op op_mod (pe_op op_fdiv (pv 3) pe_int) (pe_callB call_len_str (by rfl) T.n_len PySem.boot_len (pa_c (pv 4) pa_nil))))
      (pss_one (ps_ret (pe_op op_add_str (pe_op op_add_str (pe_slice sl_str (pv 4) po_none (po_some (pv 5))) (pe_ix ix_str pe_str (pe_op op_mod (pv 3) pe_int) (fun _ _ => rfl))) (pe_slice sl_str (pv 4) (po_some (pe_op op_add (pv 5) pe_int)) po_none))))) pss_nil)
      (pss_cons (ps_set (i := 5) sc_w_bad.nd rfl (Or.inl rfl) (pe_op op_mod (pv 3) (pe_op op_add (pe_callB call_len_str (by rfl) T.n_len PySem.boot_len (pa_c (pv 4) pa_nil)) pe_int)))
      (pss_one (ps_ret (pe_op op_add_str (pe_op op_add_str (pe_slice sl_str (pv 4) po_none (po_some (pv 5))) pe_str) (pe_slice sl_str (pv 4) (po_some (pv 5)) po_none)))))))))))), ?_⟩
    obtain ⟨gl1, gl2⟩ := g_len hx hy
    obtain ⟨ga, gas, gt1, gt2⟩ := g_good hx hy
    have gs : ((gParts x y).map (·.length)).sum ≤ 260 := Nat.le_trans (sum_bound fun p hp => (g_part hx hy hp).2.2) (by omega)
    refine ⟨_, rfl, _, _, rfl, rfl, (show (0 : Int) < 6 by decide), ?_⟩
    refine ⟨_, rfl, _, _, rfl, rfl, ⟨by decide, by decide⟩, ?_⟩
    refine ⟨rfl, _, rfl, _, _, _, rfl, rfl, SqL.of hl, ?_, ?_⟩
    · show _ + (gParts x y).length * 2 ≤ 16777216
      omega
    show gName 4 (V.str (gText x y)) _ _ _
    have hat : ∀ m : Int, 0 ≤ m % ((strsV (gParts x y)).length : Int) ∧ m % ((strsV (gParts x y)).length : Int) < (gParts x y).length := fun m => by
      have e : ((strsV (gParts x y)).length : Int) = (gParts x y).length := by rw [List.length_map]
      rw [e]
      exact ⟨Int.emod_nonneg _ (by omega), Int.emod_lt_of_pos _ (by omega)⟩
    have h0len : (0 : Int) < ((strsV (gParts x y)).length : Int) := by rw [List.length_map]; omega
    refine ⟨_, rfl, rfl, _, rfl, ite2 (fun e => ?_) (fun e => ?_)⟩
    · refine ⟨_, rfl, _, _, rfl, rfl, ⟨by decide, by decide⟩, _, rfl, l, _, rfl, .inl (SqL.of hl), _, _, rfl, rfl, h0len, _, _, rfl, rfl, ?_⟩
      obtain ⟨hm0, hm1⟩ := hat (c / 6 / 26)
      generalize c / 6 / 26 % ((strsV (gParts x y)).length : Int) = m at hm0 hm1
      obtain ⟨n, rfl⟩ := Int.eq_ofNat_of_zero_le hm0
      have hn1 : n < (gParts x y).length := by omega
      refine ⟨rfl, _, rfl, _, rfl, _, rfl, l, _, rfl, SqL.of hl, fun p1 hp1 => ?_⟩
      refine ⟨_, rfl, _, rfl, fun z H2 hz s2 => ⟨by show 1 ≤ sizeLine; decide, fun p2 hp2 => ?_⟩⟩
      have h1 : H2 p1 = some (.lst (strsV ((gParts x y).take (n + 1)))) := by rw [← cutT]; exact s2 _ _ upd_same
      have s12 := (Same.new (o := .lst (cutV (strsV (gParts x y)) none (some (1 + (n : Int))))) hp1).trans s2
      refine catP [z] h1 hp2 (by rw [List.length_take]; show _ + 1 ≤ 1000; omega) fun q3 H3 s3 _ h3 => ?_
      have s13 := s12.trans s3
      refine ⟨_, rfl, _, rfl, _, rfl, l, _, rfl, SqL.of (s13 _ _ hl), fun p4 hp4 => ?_⟩
      show rCat (.ref q3) (.ref p4) (upd H3 p4 (.lst (cutV (strsV (gParts x y)) (some (1 + (n : Int))) none))) _
      rw [cutF]
      refine catP _ h3 hp4 (by rw [List.length_append, List.length_take, List.length_drop]; show _ + 1 + _ ≤ 1000; omega) fun q5 H5 s5 _ h5 => ?_
      obtain ⟨b1, b2⟩ := odd_bad hx hy hz hn1
      exact ⟨_, q5, _, rfl, rfl, SqL.of h5, (by show _ + _ * 2 ≤ 16777216; omega), k _ H5 b2 (s13.trans s5)⟩
    · refine ⟨_, rfl, rfl, _, rfl, ite2 (fun e5 => ?_) (fun e5 => ?_)⟩
      · refine ⟨_, rfl, _, _, rfl, rfl, ⟨by decide, by decide⟩, _, rfl, l, _, rfl, .inl (SqL.of hl), _, _, rfl, rfl, h0len, _, _, rfl, rfl, ?_⟩
        obtain ⟨hm0, hm1⟩ := hat (c / 6 / 26)
        generalize c / 6 / 26 % ((strsV (gParts x y)).length : Int) = m at hm0 hm1
        obtain ⟨n, rfl⟩ := Int.eq_ofNat_of_zero_le hm0
        have hn1 : n < (gParts x y).length := by omega
        refine ⟨rfl, _, rfl, _, rfl, _, rfl, l, _, rfl, SqL.of hl, fun p1 hp1 => ?_⟩
        refine ⟨_, rfl, _, rfl, fun z H2 hz s2 => ⟨by show 1 ≤ sizeLine; decide, fun p2 hp2 => ?_⟩⟩
        have h1 : H2 p1 = some (.lst (strsV ((gParts x y).take (n + 1)))) := by rw [← cutT]; exact s2 _ _ upd_same
        have s12 := (Same.new (o := .lst (cutV (strsV (gParts x y)) none (some (1 + (n : Int))))) hp1).trans s2
        refine catP [z] h1 hp2 (by rw [List.length_take]; show _ + 1 ≤ 1000; omega) fun q3 H3 s3 _ h3 => ?_
        have s13 := s12.trans s3
        refine ⟨_, rfl, _, rfl, _, rfl, l, _, rfl, SqL.of (s13 _ _ hl), fun p4 hp4 => ?_⟩
        show rCat (.ref q3) (.ref p4) (upd H3 p4 (.lst (cutV (strsV (gParts x y)) (some (1 + (n : Int))) none))) _
        rw [cutF]
        refine catP _ h3 hp4 (by rw [List.length_append, List.length_take, List.length_drop]; show _ + 1 + _ ≤ 1000; omega) fun q5 H5 s5 _ h5 => ?_
        obtain ⟨b1, b2⟩ := odd_bad hx hy hz hn1
        exact ⟨_, q5, _, rfl, rfl, SqL.of h5, (by show _ + _ * 2 ≤ 16777216; omega), k _ H5 b2 (s13.trans s5)⟩
      · refine ⟨_, rfl, rfl, _, rfl, ite2 (fun e1 => ?_) (fun e1 => ?_)⟩
        · refine ⟨rfl, _, rfl, by show 2 ≤ sizeLine; decide, fun p1 hp1 => ?_⟩
          refine catP ([("caller 0 0" : Str), ("rope 0 1 1 1 1" : Str)] : List Str) hl hp1 (by show _ + 2 ≤ 1000; omega) fun q2 H2 s2 _ h2 => ?_
          obtain ⟨b1, b2⟩ := order_bad hx hy
          exact ⟨_, q2, _, rfl, rfl, SqL.of h2, (by show _ + _ * 2 ≤ 16777216; omega), k _ H2 b2 s2⟩
        · refine ⟨_, rfl, rfl, _, rfl, ite2 (fun e2 => ?_) (fun e2 => ?_)⟩
          · refine ⟨rfl, _, rfl, _, rfl, fun z H2 hz s2 => ⟨by show 1 ≤ sizeLine; decide, fun p2 hp2 => ?_⟩⟩
            have s12 := s2.trans (Same.new (o := .lst [V.str z]) hp2)
            refine ⟨_, rfl, _, rfl, l, _, rfl, SqL.of (s12 _ _ hl), fun p3 hp3 => ?_⟩
            show rCat (.ref p2) (.ref p3) (upd _ p3 (.lst (cutV (strsV (gParts x y)) (some 1) none))) _
            rw [drop1V]
            refine catP (xs := [z]) _ upd_same hp3 (by rw [List.length_drop]; show 1 + _ ≤ 1000; omega) fun q4 H4 s4 _ h4 => ?_
            obtain ⟨b1, b2⟩ := head_bad hx hy hz
            exact ⟨_, q4, _, rfl, rfl, SqL.of h4, (by show _ + _ * 2 ≤ 16777216; omega), k _ H4 b2 (s12.trans s4)⟩
          · have hgs : (gText x y).length ≤ sizeLine := Nat.le_trans gt2 (by decide)
            refine ⟨_, rfl, rfl, _, rfl, ite2 (fun e3 => ?_) (fun e3 => ?_)⟩
            · refine ⟨_, rfl, _, _, rfl, rfl, ⟨by decide, by decide⟩, _, rfl, _, rfl, hgs, _, _, rfl, rfl, (show (0 : Int) < ((gText x y).length : Int) by omega), ?_⟩
              have m0 := Int.emod_nonneg (c / 6 / 16) (show ((gText x y).length : Int) ≠ 0 by omega)
              have m1 := Int.emod_lt_of_pos (c / 6 / 16) (show (0 : Int) < (gText x y).length by omega)
              obtain ⟨n, em⟩ := Int.eq_ofNat_of_zero_le m0
              rw [em] at m1
              obtain ⟨ch, hch, hat2⟩ := at_modN (l := TX.cs ("!?:,.+-_xZQ/=*()" : Str)) (c := c / 6) (m := 16) (by decide +kernel) (by decide +kernel)
              have hs9 : 2000 ≤ sizeLine := by decide
              have l1 := Txt.slice_le (gText x y) none (some (n : Int))
              have l2 := Txt.slice_le (gText x y) (some ((n : Int) + 1)) none
              have l3 : (⟨#[ch]⟩ : Str).length = 1 := rfl
              refine ⟨_, rfl, _, rfl, _, rfl, _, rfl, hgs, _, rfl, _, _, rfl, rfl, (show (0 : Int) < 16 by decide), _, _, _, rfl, rfl, by decide +kernel, hat2, _, _, rfl, rfl, ?_, _, rfl, _, rfl, _, _, rfl, rfl, _, rfl, _, rfl, hgs, _, _, rfl, rfl, ?_, ?_⟩
              · show (Txt.slice (gText x y) none (some (c / 6 / 16 % ((gText x y).length : Int)))).length + (⟨#[ch]⟩ : Str).length ≤ sizeLine
                rw [em, l3]
                omega
              · show (Txt.slice (gText x y) none (some (c / 6 / 16 % ((gText x y).length : Int))) ++ (⟨#[ch]⟩ : Str)).length + (Txt.slice (gText x y) (some (c / 6 / 16 % ((gText x y).length : Int) + 1)) none).length ≤ sizeLine
                rw [em, len_app, l3]
                omega
              · refine k _ H ?_ (Same.refl _)
                show Bad ((Txt.slice (gText x y) none (some (c / 6 / 16 % ((gText x y).length : Int))) ++ (⟨#[ch]⟩ : Str)) ++ Txt.slice (gText x y) (some (c / 6 / 16 % ((gText x y).length : Int) + 1)) none)
                rw [em]
                exact sign_in gas gt2 hch (by omega)
            · have m0 := Int.emod_nonneg (c / 6) (show ((gText x y).length : Int) + 1 ≠ 0 by omega)
              have m1 := Int.emod_lt_of_pos (c / 6) (show (0 : Int) < ((gText x y).length : Int) + 1 by omega)
              obtain ⟨n, em⟩ := Int.eq_ofNat_of_zero_le m0
              rw [em] at m1
              have hs9 : 2000 ≤ sizeLine := by decide
              have l1 := Txt.slice_le (gText x y) none (some (n : Int))
              have l2 := Txt.slice_le (gText x y) (some (n : Int)) none
              have l3 : (" " : Str).length = 1 := by decide +kernel
              refine ⟨_, rfl, _, rfl, _, rfl, hgs, _, _, rfl, rfl, _, _, rfl, rfl, (show (0 : Int) < ((gText x y).length : Int) + 1 by omega), ?_⟩
              refine ⟨_, rfl, _, rfl, _, rfl, _, rfl, hgs, _, _, rfl, rfl, ?_, _, rfl, _, rfl, _, rfl, _, rfl, hgs, _, _, rfl, rfl, ?_, ?_⟩
              · show (Txt.slice (gText x y) none (some (c / 6 % (((gText x y).length : Int) + 1)))).length + (" " : Str).length ≤ sizeLine
                rw [em, l3]
                omega
              · show (Txt.slice (gText x y) none (some (c / 6 % (((gText x y).length : Int) + 1))) ++ (" " : Str)).length + (Txt.slice (gText x y) (some (c / 6 % (((gText x y).length : Int) + 1))) none).length ≤ sizeLine
                rw [em, len_app, l3]
                omega
              · refine k _ H ?_ (Same.refl _)
                show Bad ((Txt.slice (gText x y) none (some (c / 6 % (((gText x y).length : Int) + 1))) ++ (" " : Str)) ++ Txt.slice (gText x y) (some (c / 6 % (((gText x y).length : Int) + 1))) none)
                rw [em]
                exact blank_in gas gt2 ga (by omega)
end
end K38

set_option Elab.async false
set_option linter.all false
set_option maxRecDepth 100000
set_option maxHeartbeats 4000000
namespace K38
open PySem L2 TW PyProof.Rows
open RM (rowV byV byV_non byV_int)
seal L2.PE L2.PA L2.PT L2.PW L2.PS L2.PSs L2.PG L2.PGs L2.PI L2.PTs
section
variable {P : Program} {w : World} {K : PySem.W.Frag} {mg : Str → Option Value} {base : Heap}
theorem okN_char {z : Str} {c : Nat} (hc : c ∈ TX.cs z) (h : TX.isDig c = false) : TX.okN z = false := by
  cases q : TX.okN z with
  | false => rfl
  | true => rw [(TX.okN_wd q).2 c hc] at h; cases h
theorem word_bad {n : Int} {z : Str} (h0 : 0 ≤ n) (h1 : n < 10 ^ 50) (hz : z ∈ oddW (TX.num n)) : TX.okN z = false ∧ z.cps.all (· < 128) = true ∧ z.length ≤ 900 := by
  have hw := TX.num_len ⟨h0, Int.lt_trans h1 (by decide)⟩
  have ha := TX.num_ascii h0
  have mk : ∀ (a b : Str), a.cps.all (· < 128) = true → b.cps.all (· < 128) = true → a.length ≤ 70 → b.length ≤ 70 → (a ++ b).cps.all (· < 128) = true ∧ (a ++ b).length ≤ 900 := fun a b h1 h2 h3 h4 => by
    refine ⟨ascii_of fun c hc => ?_, by rw [len_app]; omega⟩
    rw [TX.cs_app] at hc
    rcases List.mem_append.mp hc with q | q
    · exact ascii_mem h1 c q
    · exact ascii_mem h2 c q
  have pre : ∀ (a : Str) (c : Nat), a.cps.all (· < 128) = true → a.length ≤ 70 → c ∈ TX.cs a → TX.isDig c = false → TX.okN (a ++ TX.num n) = false ∧ (a ++ TX.num n).cps.all (· < 128) = true ∧ (a ++ TX.num n).length ≤ 900 := fun a c h1 h2 h3 h4 =>
    ⟨okN_char (c := c) (by rw [TX.cs_app]; exact List.mem_append_left _ h3) h4, mk a _ h1 ha h2 (by omega)⟩
  have suf : ∀ (a : Str) (c : Nat), a.cps.all (· < 128) = true → a.length ≤ 70 → c ∈ TX.cs a → TX.isDig c = false → TX.okN (TX.num n ++ a) = false ∧ (TX.num n ++ a).cps.all (· < 128) = true ∧ (TX.num n ++ a).length ≤ 900 := fun a c h1 h2 h3 h4 =>
    ⟨okN_char (c := c) (by rw [TX.cs_app]; exact List.mem_append_right _ h3) h4, mk _ a ha h1 (by omega) h2⟩
  have hz : z = "" ∨ z = "-" ++ TX.num n ∨ z = "+" ++ TX.num n ∨ z = "0" ++ TX.num n ∨ z = TX.num n ++ " " ∨ z = " " ++ TX.num n ∨ z = TX.num n ++ "x" ∨ z = TX.num n ++ ".0" ∨ z = "-0" ∨ z = "1_" ++ TX.num n ∨ z = many "2" 61 ∨ z = "x" := by
    simpa [oddW, ow1, ow2, ow3] using hz
  rcases hz with rfl | rfl | rfl | rfl | rfl | rfl | rfl | rfl | rfl | rfl | rfl | rfl
  · decide +kernel
  · exact pre "-" 45 (by decide +kernel) (by decide +kernel) (by decide +kernel) (by decide +kernel)
  · exact pre "+" 43 (by decide +kernel) (by decide +kernel) (by decide +kernel) (by decide +kernel)
  · refine ⟨?_, mk "0" _ (by decide +kernel) ha (by decide +kernel) (by omega)⟩
    cases q : TX.okN ("0" ++ TX.num n) with
    | false => rfl
    | true =>
      exfalso
      unfold TX.okN at q
      simp only [Bool.and_eq_true, Bool.or_eq_true, decide_eq_true_eq] at q
      have l2 : ("0" ++ TX.num n : Str).length = 1 + (TX.num n).length := by rw [len_app]; congr 1
      rcases q.2.2.2 with e | e
      · refine e ?_
        rw [TX.cs_app, List.getElem?_append_left (by decide +kernel)]
        decide +kernel
      · rw [e] at l2
        have l3 : ("0" : Str).length = 1 := by decide +kernel
        omega
  · exact suf " " 32 (by decide +kernel) (by decide +kernel) (by decide +kernel) (by decide +kernel)
  · exact pre " " 32 (by decide +kernel) (by decide +kernel) (by decide +kernel) (by decide +kernel)
  · exact suf "x" 120 (by decide +kernel) (by decide +kernel) (by decide +kernel) (by decide +kernel)
  · exact suf ".0" 46 (by decide +kernel) (by decide +kernel) (by decide +kernel) (by decide +kernel)
  · decide +kernel
  · exact pre "1_" 95 (by decide +kernel) (by decide +kernel) (by decide +kernel) (by decide +kernel)
  · decide +kernel
  · decide +kernel
def spRefused : Sp := fun vs H Q _ => ∃ (z : Str) (b : Bool), vs = [.str z, .bl b] ∧ z.cps.all (· < 128) = true ∧ z.length ≤ 900 ∧ (b = true → TX.okT (TX.told z) = false) ∧ (b = false → TX.okN z = false) ∧ ∀ H', Same H H' → Q (.bl true) H'
theorem ok_w_refused {t : Ad} (T : Txt K mg t) : FnOk P w K mg base CX0 4 t.f_w_refused t.d_w_refused ["_law_text", "_law_town"]  spRefused := by
  refine T.F_w_refused.ok sc_w_refused (fun vs H Q E h => ?_) (fun cdv A outer s H vs Q E hr h => ?_)
  · obtain ⟨_, _, rfl, _⟩ := h; rfl
  · obtain ⟨z, b, rfl, ha, hl, ht, hn, k⟩ := h
    refine ⟨_, (pss_cons (ps_set (i := 2) sc_w_refused.nd rfl (Or.inl rfl) (pe_lst pa_nil))
      (pss_cons (ps_try2 (i := 3) (pt_val (pv 1)) (pex_call (ok_read_town T) (hr.mono (by decide)) rfl T.g_read_town T.F_read_town.kp T.B_read_town .nil rfl (pa_c (pv 0) pa_nil)) (pex_call (ok_read_number T) (hr.mono (by decide)) rfl T.g_read_number T.F_read_number.kp T.B_read_number .nil rfl (pa_c (pv 0) pa_nil)) rfl T.g_KnotError T.b_KnotError sc_w_refused.nd rfl rfl rfl rfl rfl (fun ea => (pss_cons (ps_set (i := 4) sc_w_refused.nd rfl (Or.inl rfl) (pe_lst (pa_c (pe_callB (call_isiEK K rfl) (by rfl) T.n_isinstance boot_isinstance (pa_c (pv 3) (pa_c (pe_glob rfl T.g_NoHouse (v := .ref t.a_NoHouse) rfl) pa_nil))) (pa_c (pe_callB (call_isiEK K rfl) (by rfl) T.n_isinstance boot_isinstance (pa_c (pv 3) (pa_c (pe_glob rfl T.g_NoGroup (v := .ref t.a_NoGroup) rfl) pa_nil))) (pa_c (pe_callB (call_isiEK K rfl) (by rfl) T.n_isinstance boot_isinstance (pa_c (pv 3) (pa_c (pe_glob rfl T.g_NoWire (v := .ref t.a_NoWire) rfl) pa_nil))) (pa_c (pe_callB (call_isiEK K rfl) (by rfl) T.n_isinstance boot_isinstance (pa_c (pv 3) (pa_c (pe_glob rfl T.g_NoCaller (v := .ref t.a_NoCaller) rfl) pa_nil))) pa_nil))))))
      (pss_cons (ps_set (i := 4) sc_w_refused.nd rfl (Or.inl rfl) (pe_op op_cat (pv 4) (pe_lst (pa_c (pe_callB (call_isiEK K rfl) (by rfl) T.n_isinstance boot_isinstance (pa_c (pv 3) (pa_c (pe_glob rfl T.g_Apart (v := .ref t.a_Apart) rfl) pa_nil))) (pa_c (pe_callB (call_isiEK K rfl) (by rfl) T.n_isinstance boot_isinstance (pa_c (pv 3) (pa_c (pe_glob rfl T.g_NoCopy (v := .ref t.a_NoCopy) rfl) pa_nil))) (pa_c (pe_callB (call_isiEK K rfl) (by rfl) T.n_isinstance boot_isinstance (pa_c (pv 3) (pa_c (pe_glob rfl T.g_NoLetter (v := .ref t.a_NoLetter) rfl) pa_nil))) pa_nil))))))
      (pss_cons (ps_set (i := 4) sc_w_refused.nd rfl (Or.inl rfl) (pe_op op_cat (pv 4) (pe_lst (pa_c (pe_callB (call_isiEK K rfl) (by rfl) T.n_isinstance boot_isinstance (pa_c (pv 3) (pa_c (pe_glob rfl T.g_BadTown (v := .ref t.a_BadTown) rfl) pa_nil))) pa_nil))))
      (pss_one (ps_set (i := 2) sc_w_refused.nd rfl (Or.inl rfl) (pe_lst (pa_c (pe_callB (call_isiEK K rfl) (by rfl) T.n_isinstance boot_isinstance (pa_c (pv 3) (pa_c (pe_glob rfl T.g_NoText (v := .ref t.a_NoText) rfl) pa_nil))) (pa_c (pe_callB (call_isiEK K rfl) (by rfl) T.n_isinstance boot_isinstance (pa_c (pv 3) (pa_c (pe_bltn rfl T.n_ValueError (by rfl) (v := .ty "ValueError") rfl) pa_nil))) (pa_c (pe_cmpR (op_in_seqK K rfl) pe_bl (pv 4) (by with_unfolding_all rfl)) pa_nil)))))))))))
      (pss_one (ps_ret (pe_cmpR op_eqD (pv 2) (pe_lst (pa_c pe_bl (pa_c pe_bl (pa_c pe_bl pa_nil)))) (nomark _)))))), ?_⟩
    refine ⟨Nat.zero_le _, fun l hl1 => ?_⟩
    have s1 := Same.new (o := .lst []) hl1
    generalize upd H l (.lst []) = H1 at s1
    refine ⟨_, rfl, b, rfl, ?_⟩
    cases b with
    | true =>
      refine ⟨_, rfl, z, rfl, ha, hl, fun p l0 l1 l2 H' ok => (by rw [ht rfl] at ok; cases ok), fun H3 _ s3 => ⟨_, rfl, T.h_NoText_KnotError, fun ea hea => ?_⟩⟩
      have he : (upd H3 ea (ExcO ea t.a_NoText)) ea = some (ExcO ea t.a_NoText) := upd_same
      have s4 := s1.trans (s3.trans (Same.new (o := ExcO ea t.a_NoText) hea))
      generalize upd H3 ea (ExcO ea t.a_NoText) = H4 at s4 he
      refine ⟨_, rfl, ea, t.a_NoText, _, _, _, rfl, he, T.x_NoText, .inr ⟨_, rfl, rfl⟩, T.i_NoText_NoHouse, _, rfl, ea, t.a_NoText, _, _, _, rfl, he, T.x_NoText, .inr ⟨_, rfl, rfl⟩, T.i_NoText_NoGroup, _, rfl, ea, t.a_NoText, _, _, _, rfl, he, T.x_NoText, .inr ⟨_, rfl, rfl⟩, T.i_NoText_NoWire, _, rfl, ea, t.a_NoText, _, _, _, rfl, he, T.x_NoText, .inr ⟨_, rfl, rfl⟩, T.i_NoText_NoCaller, by show 4 ≤ sizeLine; decide, fun l5 hl5 => ?_⟩
      have u5 := Same.new (o := .lst [V.bl false, .bl false, .bl false, .bl false]) hl5
      have h5 := upd_same (H := H4) (a := l5) (o := .lst [V.bl false, .bl false, .bl false, .bl false])
      generalize upd H4 l5 (.lst [V.bl false, .bl false, .bl false, .bl false]) = H5 at u5 h5
      have he5 := u5 _ _ he
      refine ⟨_, rfl, _, rfl, ea, t.a_NoText, _, _, _, rfl, he5, T.x_NoText, .inr ⟨_, rfl, rfl⟩, T.i_NoText_Apart, _, rfl, ea, t.a_NoText, _, _, _, rfl, he5, T.x_NoText, .inr ⟨_, rfl, rfl⟩, T.i_NoText_NoCopy, _, rfl, ea, t.a_NoText, _, _, _, rfl, he5, T.x_NoText, .inr ⟨_, rfl, rfl⟩, T.i_NoText_NoLetter, by show 3 ≤ sizeLine; decide, fun p6 hp6 => ⟨l5, p6, _, _, rfl, rfl, Same.new hp6 _ _ h5, upd_same, by show 4 + 3 ≤ sizeLine; decide, fun q6 hq6 => ?_⟩⟩
      have u6 := (Same.new (o := .lst [V.bl false, .bl false, .bl false]) hp6).trans (Same.new (o := .lst ([V.bl false, .bl false, .bl false, .bl false] ++ [V.bl false, .bl false, .bl false])) hq6)
      have h6 := upd_same (H := upd H5 p6 (.lst [V.bl false, .bl false, .bl false])) (a := q6) (o := .lst ([V.bl false, .bl false, .bl false, .bl false] ++ [V.bl false, .bl false, .bl false]))
      generalize upd (upd H5 p6 (.lst [V.bl false, .bl false, .bl false])) q6 (.lst ([V.bl false, .bl false, .bl false, .bl false] ++ [V.bl false, .bl false, .bl false])) = H6 at u6 h6
      have he6 := u6 _ _ he5
      refine ⟨_, rfl, _, rfl, ea, t.a_NoText, _, _, _, rfl, he6, T.x_NoText, .inr ⟨_, rfl, rfl⟩, T.i_NoText_BadTown, by show 1 ≤ sizeLine; decide, fun p7 hp7 => ⟨q6, p7, _, _, rfl, rfl, Same.new hp7 _ _ h6, upd_same, by show 7 + 1 ≤ sizeLine; decide, fun q7 hq7 => ?_⟩⟩
      have u7 := (Same.new (o := .lst [V.bl false]) hp7).trans (Same.new (o := .lst (([V.bl false, .bl false, .bl false, .bl false] ++ [V.bl false, .bl false, .bl false]) ++ [V.bl false])) hq7)
      have h7 := upd_same (H := upd H6 p7 (.lst [V.bl false])) (a := q7) (o := .lst (([V.bl false, .bl false, .bl false, .bl false] ++ [V.bl false, .bl false, .bl false]) ++ [V.bl false]))
      generalize upd (upd H6 p7 (.lst [V.bl false])) q7 (.lst (([V.bl false, .bl false, .bl false, .bl false] ++ [V.bl false, .bl false, .bl false]) ++ [V.bl false])) = H7 at u7 h7
      have he7 := u7 _ _ he6
      refine ⟨_, rfl, ea, t.a_NoText, _, _, _, rfl, he7, T.x_NoText, .inr ⟨_, rfl, rfl⟩, T.i_NoText_NoText, _, rfl, ea, t.a_NoText, _, _, _, rfl, he7, T.x_NoText, .inl ⟨rfl, rfl⟩, T.i_NoText_ValueError, _, rfl, ?_⟩
      refine ⟨q7, _, rfl, .inl (SqL.of h7), rfl, rfl, by show 3 ≤ sizeLine; decide, fun l8 hl8 => ?_⟩
      have u8 := Same.new (o := .lst [V.bl true, .bl true, .bl false]) hl8
      have h8 := upd_same (H := H7) (a := l8) (o := .lst [V.bl true, .bl true, .bl false])
      refine ⟨_, rfl, by show 3 ≤ sizeLine; decide, fun l9 hl9 => ?_⟩
      have u9 := u8.trans (Same.new (o := .lst [V.bl true, .bl true, .bl false]) hl9)
      refine ⟨.list [.bool true, .bool true, .bool false], .list [.bool true, .bool true, .bool false], ⟨l8, _, rfl, SqL.of (Same.new hl9 _ _ h8), _, _, rfl, rfl, _, _, rfl, rfl, _, _, rfl, rfl, rfl⟩, ⟨l9, _, rfl, SqL.of upd_same, _, _, rfl, rfl, _, _, rfl, rfl, _, _, rfl, rfl, rfl⟩, rfl, rfl, Nat.lt_of_le_of_lt (Nat.add_le_add_left (Nat.le_trans (Nat.min_le_left _ _) (show PyData.depth (.list [.bool true, .bool true, .bool false]) ≤ 64 by decide)) _) hr.units, ?_⟩
      exact k _ (s4.trans (u5.trans (u6.trans (u7.trans u9))))
    | false =>
      refine ⟨_, rfl, z, rfl, ha, Nat.le_trans hl (by decide), fun H' _ ok => (by rw [hn rfl] at ok; cases ok), fun H3 s3 _ => ⟨_, rfl, T.h_NoText_KnotError, fun ea hea => ?_⟩⟩
      have he : (upd H3 ea (ExcO ea t.a_NoText)) ea = some (ExcO ea t.a_NoText) := upd_same
      have s4 := s1.trans (s3.trans (Same.new (o := ExcO ea t.a_NoText) hea))
      generalize upd H3 ea (ExcO ea t.a_NoText) = H4 at s4 he
      refine ⟨_, rfl, ea, t.a_NoText, _, _, _, rfl, he, T.x_NoText, .inr ⟨_, rfl, rfl⟩, T.i_NoText_NoHouse, _, rfl, ea, t.a_NoText, _, _, _, rfl, he, T.x_NoText, .inr ⟨_, rfl, rfl⟩, T.i_NoText_NoGroup, _, rfl, ea, t.a_NoText, _, _, _, rfl, he, T.x_NoText, .inr ⟨_, rfl, rfl⟩, T.i_NoText_NoWire, _, rfl, ea, t.a_NoText, _, _, _, rfl, he, T.x_NoText, .inr ⟨_, rfl, rfl⟩, T.i_NoText_NoCaller, by show 4 ≤ sizeLine; decide, fun l5 hl5 => ?_⟩
      have u5 := Same.new (o := .lst [V.bl false, .bl false, .bl false, .bl false]) hl5
      have h5 := upd_same (H := H4) (a := l5) (o := .lst [V.bl false, .bl false, .bl false, .bl false])
      generalize upd H4 l5 (.lst [V.bl false, .bl false, .bl false, .bl false]) = H5 at u5 h5
      have he5 := u5 _ _ he
      refine ⟨_, rfl, _, rfl, ea, t.a_NoText, _, _, _, rfl, he5, T.x_NoText, .inr ⟨_, rfl, rfl⟩, T.i_NoText_Apart, _, rfl, ea, t.a_NoText, _, _, _, rfl, he5, T.x_NoText, .inr ⟨_, rfl, rfl⟩, T.i_NoText_NoCopy, _, rfl, ea, t.a_NoText, _, _, _, rfl, he5, T.x_NoText, .inr ⟨_, rfl, rfl⟩, T.i_NoText_NoLetter, by show 3 ≤ sizeLine; decide, fun p6 hp6 => ⟨l5, p6, _, _, rfl, rfl, Same.new hp6 _ _ h5, upd_same, by show 4 + 3 ≤ sizeLine; decide, fun q6 hq6 => ?_⟩⟩
      have u6 := (Same.new (o := .lst [V.bl false, .bl false, .bl false]) hp6).trans (Same.new (o := .lst ([V.bl false, .bl false, .bl false, .bl false] ++ [V.bl false, .bl false, .bl false])) hq6)
      have h6 := upd_same (H := upd H5 p6 (.lst [V.bl false, .bl false, .bl false])) (a := q6) (o := .lst ([V.bl false, .bl false, .bl false, .bl false] ++ [V.bl false, .bl false, .bl false]))
      generalize upd (upd H5 p6 (.lst [V.bl false, .bl false, .bl false])) q6 (.lst ([V.bl false, .bl false, .bl false, .bl false] ++ [V.bl false, .bl false, .bl false])) = H6 at u6 h6
      have he6 := u6 _ _ he5
      refine ⟨_, rfl, _, rfl, ea, t.a_NoText, _, _, _, rfl, he6, T.x_NoText, .inr ⟨_, rfl, rfl⟩, T.i_NoText_BadTown, by show 1 ≤ sizeLine; decide, fun p7 hp7 => ⟨q6, p7, _, _, rfl, rfl, Same.new hp7 _ _ h6, upd_same, by show 7 + 1 ≤ sizeLine; decide, fun q7 hq7 => ?_⟩⟩
      have u7 := (Same.new (o := .lst [V.bl false]) hp7).trans (Same.new (o := .lst (([V.bl false, .bl false, .bl false, .bl false] ++ [V.bl false, .bl false, .bl false]) ++ [V.bl false])) hq7)
      have h7 := upd_same (H := upd H6 p7 (.lst [V.bl false])) (a := q7) (o := .lst (([V.bl false, .bl false, .bl false, .bl false] ++ [V.bl false, .bl false, .bl false]) ++ [V.bl false]))
      generalize upd (upd H6 p7 (.lst [V.bl false])) q7 (.lst (([V.bl false, .bl false, .bl false, .bl false] ++ [V.bl false, .bl false, .bl false]) ++ [V.bl false])) = H7 at u7 h7
      have he7 := u7 _ _ he6
      refine ⟨_, rfl, ea, t.a_NoText, _, _, _, rfl, he7, T.x_NoText, .inr ⟨_, rfl, rfl⟩, T.i_NoText_NoText, _, rfl, ea, t.a_NoText, _, _, _, rfl, he7, T.x_NoText, .inl ⟨rfl, rfl⟩, T.i_NoText_ValueError, _, rfl, ?_⟩
      refine ⟨q7, _, rfl, .inl (SqL.of h7), rfl, rfl, by show 3 ≤ sizeLine; decide, fun l8 hl8 => ?_⟩
      have u8 := Same.new (o := .lst [V.bl true, .bl true, .bl false]) hl8
      have h8 := upd_same (H := H7) (a := l8) (o := .lst [V.bl true, .bl true, .bl false])
      refine ⟨_, rfl, by show 3 ≤ sizeLine; decide, fun l9 hl9 => ?_⟩
      have u9 := u8.trans (Same.new (o := .lst [V.bl true, .bl true, .bl false]) hl9)
      refine ⟨.list [.bool true, .bool true, .bool false], .list [.bool true, .bool true, .bool false], ⟨l8, _, rfl, SqL.of (Same.new hl9 _ _ h8), _, _, rfl, rfl, _, _, rfl, rfl, _, _, rfl, rfl, rfl⟩, ⟨l9, _, rfl, SqL.of upd_same, _, _, rfl, rfl, _, _, rfl, rfl, _, _, rfl, rfl, rfl⟩, rfl, rfl, Nat.lt_of_le_of_lt (Nat.add_le_add_left (Nat.le_trans (Nat.min_le_left _ _) (show PyData.depth (.list [.bool true, .bool true, .bool false]) ≤ 64 by decide)) _) hr.units, ?_⟩
      exact k _ (s4.trans (u5.trans (u6.trans (u7.trans u9))))
end
end K38

set_option Elab.async false
set_option linter.all false
set_option maxRecDepth 100000
set_option maxHeartbeats 4000000
namespace K38
open PySem L2 TW PyProof.Rows
open RM (rowV byV byV_non byV_int)
seal L2.PE L2.PA L2.PT L2.PW L2.PS L2.PSs L2.PG L2.PGs L2.PI L2.PTs
section
variable {P : Program} {w : World} {K : PySem.W.Frag} {mg : Str → Option Value} {base : Heap}
theorem g_oks : TX.okH (Txt.split "names 5 0 7" TX.sep1) = true ∧ ((Txt.split "names 5 0 7" TX.sep1).drop 1).map wval = [5, 0, 7] ∧ (∀ i < 6, TX.okP "rope" 5 (Txt.split (ropeT i) TX.sep1) = true) ∧ ∀ i < 6, TX.okP "caller" 2 (Txt.split (callT i) TX.sep1) = true := by decide +kernel
theorem okR_ropes {l : List (List Str)} : ∀ {rs : List (List Str)}, (∀ r ∈ rs, TX.okP "rope" 5 r = true) → TX.okR false l = true → TX.okR false (rs ++ l) = true
  | [], _, h => h
  | r :: rs, hr, h => by
    have h1 := hr r (List.mem_cons_self ..)
    have e : r[0]? = some ("rope" : Str) := by
      unfold TX.okP at h1
      simp only [Bool.and_eq_true, decide_eq_true_eq] at h1
      exact h1.1
    show (if r[0]? = some ("rope" : Str) ∧ false = false then TX.okP "rope" 5 r && TX.okR false (rs ++ l) else _) = true
    rw [if_pos ⟨e, rfl⟩, h1, okR_ropes (fun x hx => hr x (List.mem_cons_of_mem _ hx)) h]
    rfl
theorem okR_calls : ∀ {cl : List (List Str)} {b : Bool}, (∀ r ∈ cl, TX.okP "caller" 2 r = true) → TX.okR b cl = true
  | [], _, _ => rfl
  | r :: cl, b, hr => by
    have h1 := hr r (List.mem_cons_self ..)
    have e : r[0]? = some ("caller" : Str) := by
      unfold TX.okP at h1
      simp only [Bool.and_eq_true, decide_eq_true_eq] at h1
      exact h1.1
    unfold TX.okR
    rw [if_neg (by rw [e]; intro z; exact absurd z.1 (by decide +kernel)), if_pos e, h1, okR_calls fun x hx => hr x (List.mem_cons_of_mem _ hx)]
    rfl
theorem g_told {x y : Nat} (hx : x < 7) (hy : y < 7) : TX.told (gText x y) = Txt.split "names 5 0 7" TX.sep1 :: (((List.range x).map ropeT).map (Txt.split · TX.sep1) ++ ((List.range y).map callT).map (Txt.split · TX.sep1)) := by
  unfold gText
  rw [TX.told_join (by simp [gParts]) fun p hp => (g_part hx hy hp).1]
  unfold gParts
  rw [List.map_cons, List.map_append]
theorem g_read {x y : Nat} (hx : x < 7) (hy : y < 7) : TX.okT (TX.told (gText x y)) = true ∧ intsOf (((TX.told (gText x y)).headD []).drop 1) = [V.int 5, V.int 0, V.int 7] := by
  obtain ⟨h1, h2, h3, h4⟩ := g_oks
  rw [g_told hx hy]
  have hr : ∀ r ∈ ((List.range x).map ropeT).map (Txt.split · TX.sep1), TX.okP "rope" 5 r = true := fun r hr => by
    obtain ⟨q, hq, eq⟩ := List.mem_map.mp hr
    obtain ⟨i, hi, ei⟩ := List.mem_map.mp hq
    have := List.mem_range.mp hi
    rw [← eq, ← ei]
    exact h3 i (by omega)
  have hc : ∀ r ∈ ((List.range y).map callT).map (Txt.split · TX.sep1), TX.okP "caller" 2 r = true := fun r hr => by
    obtain ⟨q, hq, eq⟩ := List.mem_map.mp hr
    obtain ⟨i, hi, ei⟩ := List.mem_map.mp hq
    have := List.mem_range.mp hi
    rw [← eq, ← ei]
    exact h4 i (by omega)
  generalize ((List.range x).map ropeT).map (Txt.split · TX.sep1) = rs at hr
  generalize ((List.range y).map callT).map (Txt.split · TX.sep1) = cl at hc
  generalize Txt.split "names 5 0 7" TX.sep1 = nm at h1 h2
  refine ⟨?_, ?_⟩
  · show (TX.okH nm && TX.okR false (rs ++ cl)) = true
    rw [h1, okR_ropes hr (okR_calls hc)]
    rfl
  · show ((nm.drop 1).map wval).map V.int = _
    rw [h2]
    rfl
def spLaw (K : PySem.W.Frag) : Sp := fun vs H Q _ => ∃ (a : Addr) (ns : List Int), vs = [.ref a] ∧ SqL K H a (ns.map V.int) ∧ ns.length ≤ 63 ∧ ∀ H', Q (.bl true) H'
theorem ok_law {t : Ad} (T : Txt K mg t) : FnOk P w K mg base CX0 5 t.f_law t.d_law ["_law_script"]  (spLaw K) := by
  refine T.F_law.ok sc_law (fun vs H Q E h => ?_) (fun cdv A outer s H vs Q E hr h => ?_)
  · obtain ⟨a, ns, rfl, _⟩ := h; rfl
  · obtain ⟨a, ns, rfl, hS, hlen, k⟩ := h
    refine ⟨_, (pss_cons (ps_set (i := 1) sc_law.nd rfl (Or.inl rfl) (pe_call (ok_w_good T) (hr.mono (by decide)) rfl T.g_w_good T.F_w_good.kp T.B_w_good .nil pass0 (pa_c (pv 0) pa_nil)))
      (pss_cons (ps_set (i := 2) sc_law.nd rfl (Or.inl rfl) (pe_bm PySem.F.plainAttrs_str PySem.F.slot_str_join PySem.F.type_str_join mt_join pe_str (pa_c (pv 1) pa_nil)))
      (pss_cons (ps_if (pt_cmpR op_neD (pe_ix ix_tup (pe_call (ok_read_town T) (hr.mono (by decide)) rfl T.g_read_town T.F_read_town.kp T.B_read_town .nil passF (pa_c (pv 2) pa_nil)) pe_int (fun _ _ => rfl)) (pe_lst (pa_c pe_int (pa_c pe_int (pa_c pe_int pa_nil)))) (nomark _)) (pss_one (ps_ret pe_bl)) pss_nil)
      (pss_cons (ps_for PassesOwn.never rfl (pi_list (pe_op op_cat (pe_lst (pa_c pe_int (pa_c pe_int (pa_c pe_int (pa_c pe_int pa_nil))))) (pe_slice sl_list (pv 0) (po_some pe_int) (po_some pe_int)))) (pg_name (i := 3) sc_law.nd rfl (Or.inl rfl)) (pss_cons (ps_if (pt_not (pt_val (pe_call (ok_w_refused T) (hr.mono (by decide)) rfl T.g_w_refused T.F_w_refused.kp T.B_w_refused .nil pass0 (pa_c (pe_call (ok_w_bad T) (hr.mono (by decide)) rfl T.g_w_bad T.F_w_bad.kp T.B_w_bad .nil pass0 (pa_c (pv 1) (pa_c (pv 3) pa_nil))) (pa_c pe_bl pa_nil))))) (pss_one (ps_ret pe_bl)) pss_nil)
      (pss_one (ps_if (pt_not (pt_val (pe_call (ok_w_refused T) (hr.mono (by decide)) rfl T.g_w_refused T.F_w_refused.kp T.B_w_refused .nil pass0 (pa_c (pe_call (ok_w_odd_word T) (hr.mono (by decide)) rfl T.g_w_odd_word T.F_w_odd_word.kp T.B_w_odd_word .nil pass0 (pa_c (pe_op op_fdiv (pv 3) pe_int) pa_nil)) (pa_c pe_bl pa_nil))))) (pss_one (ps_ret pe_bl)) pss_nil))))
      (pss_one (ps_ret (pe_cmpR op_eqD (pe_ix ix_tup (pe_call (ok_read_town T) (hr.mono (by decide)) rfl T.g_read_town T.F_read_town.kp T.B_read_town .nil passF (pa_c (pv 2) pa_nil)) pe_int (fun _ _ => rfl)) (pe_lst (pa_c pe_int (pa_c pe_int (pa_c pe_int pa_nil)))) (nomark _)))))))), ?_⟩
    refine ⟨_, rfl, a, ns, rfl, hS, fun x y l1 H1 hx hy s1 hl1 h1 => ?_⟩
    obtain ⟨gl1, gl2⟩ := g_len hx hy
    obtain ⟨ga, gas, gt1, gt2⟩ := g_good hx hy
    obtain ⟨gr1, gr2⟩ := g_read hx hy
    have gs := g_sum hx hy
    refine ⟨rfl, _, rfl, _, _, _, rfl, rfl, SqL.of h1, (by show _ + (gParts x y).length * 2 ≤ 16777216; omega), ?_⟩
    show gName 2 (V.str (gText x y)) _ _ _
    refine ⟨_, rfl, gText x y, rfl, gas, by omega, fun p2 l2 l3 l4 H2 _ s2 hp2 hl2 => ?_, fun H' bad => (by rw [gr1] at bad; cases bad)⟩
    rw [gr2] at hl2
    refine ⟨p2, _, _, _, rfl, rfl, SqT.of hp2, rfl, by show 3 ≤ sizeLine; decide, fun l5 hl5 => ?_⟩
    have u5 := Same.new (o := .lst [V.int 5, .int 0, .int 7]) hl5
    refine ⟨.list [.int 5, .int 0, .int 7], .list [.int 5, .int 0, .int 7], ⟨l2, _, rfl, SqL.of (u5 _ _ hl2), _, _, rfl, rfl, _, _, rfl, rfl, _, _, rfl, rfl, rfl⟩, ⟨l5, _, rfl, SqL.of upd_same, _, _, rfl, rfl, _, _, rfl, rfl, _, _, rfl, rfl, rfl⟩, rfl, rfl, Nat.lt_of_le_of_lt (Nat.add_le_add_left (Nat.le_trans (Nat.min_le_left _ _) (show PyData.depth (.list [.int 5, .int 0, .int 7]) ≤ 64 by decide)) _) hr.units, _, rfl, iteFe rfl ?_⟩
    have s5 := (s1.trans s2).trans u5
    have h15 := u5 _ _ (s2 _ _ h1)
    generalize upd H2 l5 (.lst [V.int 5, .int 0, .int 7]) = H5 at s5 h15
    refine ⟨by show 4 ≤ sizeLine; decide, fun l6 hl6 => ?_⟩
    have u6 := Same.new (o := .lst (([0, 1, 2, 3] : List Int).map V.int)) hl6
    refine ⟨_, rfl, _, rfl, _, rfl, a, _, rfl, (s5.trans u6).seq hS, fun p7 hp7 => ?_⟩
    obtain ⟨cs, ecs, hcs⟩ := cut_ints ns 2 22
    rw [show cutV (ns.map V.int) (some 2) (some 22) = cs.map V.int from ecs]
    have u7 := Same.new (o := .lst (cs.map V.int)) hp7
    have hs9 : 1000 ≤ sizeLine := by decide
    have hz8 : ([V.int 0, V.int 1, V.int 2, V.int 3] : List V).length + (cs.map V.int).length ≤ sizeLine := by
      rw [List.length_map]
      show 4 + _ ≤ sizeLine
      omega
    refine ⟨l6, p7, _, _, rfl, rfl, u7 _ _ upd_same, upd_same, hz8, fun l8 hl8 => ?_⟩
    have s8 := ((s5.trans u6).trans u7).trans (Same.new (o := .lst (([0, 1, 2, 3] : List Int).map V.int ++ cs.map V.int)) hl8)
    have t8 := (u6.trans u7).trans (Same.new (o := .lst (([0, 1, 2, 3] : List Int).map V.int ++ cs.map V.int)) hl8)
    have h18 := t8 _ _ h15
    have h88 : (upd (upd (upd H5 l6 (.lst (([0, 1, 2, 3] : List Int).map V.int))) p7 (.lst (cs.map V.int))) l8 (.lst (([0, 1, 2, 3] : List Int).map V.int ++ cs.map V.int))) l8 = some (.lst ((([0, 1, 2, 3] : List Int) ++ cs).map V.int)) := by
      rw [upd_same, List.map_append]
    refine ⟨l8, rfl, ⟨_, SqL.of h88⟩, for_list (K := K) (a := l8) (xs := (([0, 1, 2, 3] : List Int) ++ cs).map V.int) (fun i σ H9 => Same (upd (upd (upd H5 l6 (.lst (([0, 1, 2, 3] : List Int).map V.int))) p7 (.lst (cs.map V.int))) l8 (.lst (([0, 1, 2, 3] : List Int).map V.int ++ cs.map V.int))) H9 ∧ ∃ v3 : Option V, σ = [some (.ref a), some (.ref l1), some (.str (gText x y)), v3])
      ⟨Same.refl _, _, rfl⟩ (fun i σ H9 _ z => SqL.of (z.1 _ _ h88)) ?_ ?_⟩
    · rintro i yv σ H9 hi ⟨s9, v3, rfl⟩
      obtain ⟨c, rfl⟩ : ∃ c : Int, yv = .int c := by
        rw [List.getElem?_map] at hi
        cases q : (([0, 1, 2, 3] : List Int) ++ cs)[i]? with
        | none => rw [q] at hi; cases hi
        | some c => rw [q] at hi; exact ⟨c, (Option.some.inj hi).symm⟩
      refine ⟨_, rfl, _, rfl, l1, c, x, y, rfl, hx, hy, s9 _ _ h18, fun z H10 bad s10 => ⟨z, true, rfl, bad.2.1, bad.2.2, fun _ => bad.1, (fun h => by cases h), fun H11 s11 => ⟨_, rfl, iteF ?_⟩⟩⟩
      refine ⟨_, rfl, _, _, rfl, rfl, ⟨by decide, by decide⟩, c / 7, rfl, fun n z2 H12 n0 n1 hz s12 => ?_⟩
      obtain ⟨b1, b2, b3⟩ := word_bad n0 n1 hz
      exact ⟨z2, false, rfl, b2, b3, (fun h => by cases h), fun _ => b1, fun H13 s13 => ⟨_, rfl, iteF ⟨s9.trans (s10.trans (s11.trans (s12.trans s13))), _, rfl⟩⟩⟩
    · rintro σ H9 ⟨s9, v3, rfl⟩
      refine ⟨_, rfl, gText x y, rfl, gas, by omega, fun q2 m2 m3 m4 H10 _ s10 hq2 hm2 => ?_, fun H' bad => (by rw [gr1] at bad; cases bad)⟩
      rw [gr2] at hm2
      refine ⟨q2, _, _, _, rfl, rfl, SqT.of hq2, rfl, by show 3 ≤ sizeLine; decide, fun l11 hl11 => ?_⟩
      have u11 := Same.new (o := .lst [V.int 5, .int 0, .int 7]) hl11
      refine ⟨.list [.int 5, .int 0, .int 7], .list [.int 5, .int 0, .int 7], ⟨m2, _, rfl, SqL.of (u11 _ _ hm2), _, _, rfl, rfl, _, _, rfl, rfl, _, _, rfl, rfl, rfl⟩, ⟨l11, _, rfl, SqL.of upd_same, _, _, rfl, rfl, _, _, rfl, rfl, _, _, rfl, rfl, rfl⟩, rfl, rfl, Nat.lt_of_le_of_lt (Nat.add_le_add_left (Nat.le_trans (Nat.min_le_left _ _) (show PyData.depth (.list [.int 5, .int 0, .int 7]) ≤ 64 by decide)) _) hr.units, ?_⟩
      exact k _
end
theorem walk {l : PySem.W.OpenLaw} {q : Program} {loose : List Str} {XP : (Str → Option Value) → Heap → Prop} {YP : World → Heap → Prop} {d : DefRec} {K : Params → PySem.W.Frag} (hn : l.most = some 63) (hdf : d.params.defaults = []) (hdn : d.name = "law")
    (hY : ∀ (w : World) (h : Heap), YP w h → (K w.params).In h)
    (F : ∀ (w : World) (mg : Str → Option Value) (h : Heap), (K w.params).In h → h.Ns mainGlobals mg → ∃ t, Txt (K w.params) mg t) :
    PySem.W.WalkO q loose XP YP l.row.toRowW d [] (fun f vs => PySem.call f vs) :=
  L2.walk_of (n := 63) (k := 5) (x := "_law_script") (CX := fun _ => CX0) (sp := fun w => spLaw (K w.params)) hn (by decide) hdf ⟨rfl, by decide, by decide⟩ hY
    (fun w mg fa h KX G hmg => by
      obtain ⟨t, T⟩ := F w mg h KX G
      rw [hdn] at hmg
      have e := hmg.symm.trans T.g_law
      cases e
      refine ⟨t.d_law, fun s v => ?_, fun base _ _ => ok_law T⟩
      obtain ⟨_, _, _, _, _, _, _, _, _, e, _⟩ := T.F_law.ex
      rw [e]
      exact .of_eq rfl)
    (fun _ _ a ns hl _ hS => ⟨a, ns, rfl, hS, hl, fun _ => rfl⟩) fun _ _ _ _ _ z => z
end K38

set_option Elab.async false
set_option linter.all false
open PySem PySem.W PyProof.Rows
set_option maxRecDepth 100000 in
set_option maxHeartbeats 0 in
theorem PySem.Challenge.cw_knotless_k38_town_text_refused_holds : PySem.Challenge.rw_knotless_k38_town_text_refused.Holds := by
  w_on; o_law; k_head; (case hw => w_witness2)
  k_fill
  refine K38.walk (l := PySem.Challenge.rw_knotless_k38_town_text_refused) rfl rfl rfl (fun w h Y => PySem.W.kIn_of Y) ?F
  case F =>
    intro w mg h KX G
    refine' K38.txt_mk KX G ?a_read_number ?l_read_number ?c_read_number ?k_read_number ?a_read_numbers ?l_read_numbers ?c_read_numbers ?k_read_numbers ?a_read_town ?l_read_town ?c_read_town ?k_read_town ?a_read_names ?l_read_names ?c_read_names ?k_read_names ?a_w_cell_at ?l_w_cell_at ?c_w_cell_at ?k_w_cell_at ?a_w_good ?l_w_good ?c_w_good ?k_w_good ?a_w_odd_part ?l_w_odd_part ?c_w_odd_part ?k_w_odd_part ?a_w_odd_head ?l_w_odd_head ?c_w_odd_head ?k_w_odd_head ?a_w_bad ?l_w_bad ?c_w_bad ?k_w_bad ?a_w_odd_word ?l_w_odd_word ?c_w_odd_word ?k_w_odd_word ?a_w_refused ?l_w_refused ?c_w_refused ?k_w_refused ?a_law ?l_law ?c_law ?k_law ?aX_KnotError ?xb_KnotError ?xd_KnotError ?xt_KnotError ?aX_NoText ?xex_NoText ?xga_NoText ?xgb_NoText ?xhd_NoText ?xca_NoText ?xcg_NoText ?xct_NoText ?xmo_NoText ?xmb_NoText ?aX_Apart ?aX_BadTown ?aX_NoCaller ?aX_NoCopy ?aX_NoHouse ?aX_NoLetter ?aX_NoGroup ?aX_NoWire ?xi_NoText_Apart ?xi_NoText_BadTown ?xi_NoText_NoCaller ?xi_NoText_NoCopy ?xi_NoText_NoHouse ?xi_NoText_NoLetter ?xi_NoText_NoGroup ?xi_NoText_NoWire ?xi_NoText_NoText ?xi_NoText_ValueError ?xh_NoText_KnotError ?g_FIGURES ?g_MOST_FIGURES ?g_ROPE_NUMBERS ?g_CALLER_NUMBERS ?z_len ?z_isinstance ?z_int ?z_tuple ?z_range ?z_str ?z_all ?z_ValueError
    (case a_read_number => k_is)
    (case l_read_number => k_is)
    (case c_read_number => k_is)
    (case k_read_number => k_is)
    (case a_read_numbers => k_is)
    (case l_read_numbers => k_is)
    (case c_read_numbers => k_is)
    (case k_read_numbers => k_is)
    (case a_read_town => k_is)
    (case l_read_town => k_is)
    (case c_read_town => k_is)
    (case k_read_town => k_is)
    (case a_read_names => k_is)
    (case l_read_names => k_is)
    (case c_read_names => k_is)
    (case k_read_names => k_is)
    (case a_w_cell_at => k_is)
    (case l_w_cell_at => k_is)
    (case c_w_cell_at => k_is)
    (case k_w_cell_at => k_is)
    (case a_w_good => k_is)
    (case l_w_good => k_is)
    (case c_w_good => k_is)
    (case k_w_good => k_is)
    (case a_w_odd_part => k_is)
    (case l_w_odd_part => k_is)
    (case c_w_odd_part => k_is)
    (case k_w_odd_part => k_is)
    (case a_w_odd_head => k_is)
    (case l_w_odd_head => k_is)
    (case c_w_odd_head => k_is)
    (case k_w_odd_head => k_is)
    (case a_w_bad => k_is)
    (case l_w_bad => k_is)
    (case c_w_bad => k_is)
    (case k_w_bad => k_is)
    (case a_w_odd_word => k_is)
    (case l_w_odd_word => k_is)
    (case c_w_odd_word => k_is)
    (case k_w_odd_word => k_is)
    (case a_w_refused => k_is)
    (case l_w_refused => k_is)
    (case c_w_refused => k_is)
    (case k_w_refused => k_is)
    (case a_law => k_is)
    (case l_law => k_is)
    (case c_law => k_is)
    (case k_law => k_is)
    (case aX_KnotError => k_is)
    (case xb_KnotError => k_is)
    (case xd_KnotError => k_is)
    (case xt_KnotError => k_is)
    (case aX_NoText => k_is)
    (case xex_NoText => k_exc)
    (case xga_NoText => k_is)
    (case xgb_NoText => k_is)
    (case xhd_NoText => k_is)
    (case xca_NoText => k_is)
    (case xcg_NoText => k_is)
    (case xct_NoText => k_is)
    (case xmo_NoText => k_is)
    (case xmb_NoText => k_is)
    (case aX_Apart => k_is)
    (case aX_BadTown => k_is)
    (case aX_NoCaller => k_is)
    (case aX_NoCopy => k_is)
    (case aX_NoHouse => k_is)
    (case aX_NoLetter => k_is)
    (case aX_NoGroup => k_is)
    (case aX_NoWire => k_is)
    (case xi_NoText_Apart => kit_is)
    (case xi_NoText_BadTown => kit_is)
    (case xi_NoText_NoCaller => kit_is)
    (case xi_NoText_NoCopy => kit_is)
    (case xi_NoText_NoHouse => kit_is)
    (case xi_NoText_NoLetter => kit_is)
    (case xi_NoText_NoGroup => kit_is)
    (case xi_NoText_NoWire => kit_is)
    (case xi_NoText_NoText => kit_is)
    (case xi_NoText_ValueError => kit_is)
    (case xh_NoText_KnotError => k_is)
    (case g_FIGURES => k_is)
    (case g_MOST_FIGURES => k_is)
    (case g_ROPE_NUMBERS => k_is)
    (case g_CALLER_NUMBERS => k_is)
    (case z_len => k_is)
    (case z_isinstance => k_is)
    (case z_int => k_is)
    (case z_tuple => k_is)
    (case z_range => k_is)
    (case z_str => k_is)
    (case z_all => k_is)
    (case z_ValueError => k_is)
#print axioms PySem.Challenge.cw_knotless_k38_town_text_refused_holds
