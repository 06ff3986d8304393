import PyProof.Rows.All
import Wide.All
import OpenK.AllK
import Wide.FinOn
import Lean
import PyProof.EqAt
import PyProof.EqKinds
import PyProof.TupleCall
import PySem.Challenge.RW_weighvote_k07_texts_misread
set_option Elab.async false
set_option linter.all false
set_option maxRecDepth 100000
/-! THE HAND LAYER, for ints, bools, texts, own classes, LISTS and tuples (index, slices, in, append, pop ..), calls, loops. Paste it whole ahead of your own text; what your proof does not reach may be deleted. -/
namespace L2
open PySem PySem.Spec PyProof.Rows

/-- a key: an int or a str -/
abbrev Key := Sum Int Str
def keyIs : Key → Value → Bool
  | .inl k, v => Value.isInt k v
  | .inr x, v => Value.isStrOf x v
def keyH (w : World) : Key → Int
  | .inl k => hashInt k
  | .inr x => hashStr w x
theorem keyIs_shape : ∀ {k : Key} {v : Value}, keyIs k v = true → (∃ i t, k = Sum.inl i ∧ v = Value.int i t) ∨ (∃ x t, k = Sum.inr x ∧ v = Value.str x t)
  | .inl i, v, h => by
    obtain ⟨t, e⟩ := Value.isInt_shape (k := i) (v := v) h
    exact .inl ⟨i, t, rfl, e⟩
  | .inr x, v, h => by
    obtain ⟨t, e⟩ := Value.isStrOf_shape (x := x) (v := v) h
    exact .inr ⟨x, t, rfl, e⟩
theorem key_ll (a b : Int) : decide ((Sum.inl a : Key) = Sum.inl b) = (a == b) := by
  by_cases e : a = b
  · subst e; simp
  · have h : ¬ (Sum.inl a : Key) = Sum.inl b := fun q => e (Sum.inl.inj q)
    rw [decide_eq_false h]
    exact (beq_eq_false_iff_ne.mpr e).symm
theorem key_rr (a b : Str) : decide ((Sum.inr a : Key) = Sum.inr b) = decide (a = b) := by
  by_cases e : a = b
  · subst e; simp
  · have h : ¬ (Sum.inr a : Key) = Sum.inr b := fun q => e (Sum.inr.inj q)
    rw [decide_eq_false h, decide_eq_false e]
theorem key_lr (a : Int) (b : Str) : decide ((Sum.inl a : Key) = Sum.inr b) = false := decide_eq_false (fun q => nomatch q)
theorem key_rl (a : Str) (b : Int) : decide ((Sum.inr a : Key) = Sum.inl b) = false := decide_eq_false (fun q => nomatch q)

def mixKind (prog : Program) (w : World) : PySem.KeyKind prog w Key where
  is := keyIs
  hash := keyH w
  inj := fun v a b ha hb => by
    rcases keyIs_shape ha with ⟨i, t, rfl, rfl⟩ | ⟨x, t, rfl, rfl⟩
    · rcases keyIs_shape hb with ⟨j, u, rfl, e⟩ | ⟨y, u, rfl, e⟩
      · injection e with e1 _; rw [e1]
      · exact nomatch e
    · rcases keyIs_shape hb with ⟨j, u, rfl, e⟩ | ⟨y, u, rfl, e⟩
      · exact nomatch e
      · injection e with e1 _; rw [e1]
  byValue := fun k v h => by
    rcases keyIs_shape h with ⟨i, t, rfl, rfl⟩ | ⟨x, t, rfl, rfl⟩ <;> rfl
  pyHash := fun hv h => by
    rcases keyIs_shape hv with ⟨i, t, rfl, rfl⟩ | ⟨x, t, rfl, rfl⟩
    · exact wpAny_pyHash_int h
    · exact wpAny_pyHash_str h
  eqBool := fun hu hv h => by
    rcases keyIs_shape hu with ⟨i, t, rfl, rfl⟩ | ⟨x, t, rfl, rfl⟩
    · rcases keyIs_shape hv with ⟨j, u, rfl, rfl⟩ | ⟨y, u, rfl, rfl⟩
      · rw [key_ll] at h; exact wpAny_eqBool_int h
      · rw [key_lr] at h; exact SeqAt.EqAt.int_str i t y u _ _ _ _ h
    · rcases keyIs_shape hv with ⟨j, u, rfl, rfl⟩ | ⟨y, u, rfl, rfl⟩
      · rw [key_rl] at h; exact SeqAt.EqAt.str_int x t j u _ _ _ _ h
      · rw [key_rr] at h; exact wpAny_eqBool_str h
  «strs» := fun k x t v h => by
    rcases keyIs_shape h with ⟨i, u, rfl, e⟩ | ⟨y, u, rfl, e⟩
    · exact nomatch e
    · injection e with e1 _
      subst e1
      cases v <;> rfl

end L2

namespace L2
open PySem PySem.Spec PyProof.Rows

/-- a value, without the heap -/
inductive V where
  | non | bl (b : Bool) | int (i : Int) | str (x : Str) | byt (b : Array UInt8) | flt (b : UInt64) | ref (a : Addr) | ty (n : String)
  deriving DecidableEq

def RelV : V → Value → Prop
  | .non, u => u = Value.none
  | .bl b, u => u = Value.bool b
  | .int i, u => ∃ t, u = Value.int i t
  | .str x, u => ∃ t, u = Value.str x t
  | .byt b, u => ∃ t, u = Value.bytes b t
  | .flt b, u => ∃ t, u = Value.float b t
  | .ref a, u => u = Value.ref a
  | .ty n, u => u = Value.type n

abbrev Vals : List V → List Value → Prop := Paired RelV
theorem Vals.length {xs : List V} {us : List Value} (r : Vals xs us) : xs.length = us.length := Paired.length r
theorem Vals.get : ∀ {xs : List V} {us : List Value} {i : Nat} {x : V}, Vals xs us → xs[i]? = some x → ∃ u, us[i]? = some u ∧ RelV x u
  | _, _, _, _, .nil, e => by simp at e
  | _, _, 0, _, .cons r _, e => by simp at e; subst e; exact ⟨_, rfl, r⟩
  | _, _, i + 1, x, .cons _ t, e => by
    obtain ⟨u, h1, h2⟩ := Vals.get (i := i) (x := x) t (by simpa using e)
    exact ⟨u, by simpa using h1, h2⟩
theorem Vals.append : ∀ {xs ys : List V} {us ws : List Value}, Vals xs us → Vals ys ws → Vals (xs ++ ys) (us ++ ws)
  | _, _, _, _, .nil, s => s
  | _, _, _, _, .cons r t, s => .cons r (Vals.append t s)
theorem Vals.take : ∀ {xs : List V} {us : List Value} (n : Nat), Vals xs us → Vals (xs.take n) (us.take n)
  | _, _, 0, _ => .nil
  | _, _, _ + 1, .nil => .nil
  | _, _, n + 1, .cons r t => .cons r (Vals.take n t)
theorem Vals.drop : ∀ {xs : List V} {us : List Value} (n : Nat), Vals xs us → Vals (xs.drop n) (us.drop n)
  | _, _, 0, r => r
  | _, _, _ + 1, .nil => .nil
  | _, _, n + 1, .cons _ t => Vals.drop n t
def RelO : Option V → Option Value → Prop
  | some v, some u => RelV v u
  | none, none => True
  | _, _ => False
def KV {κ : Type} : List (κ × V) → List (κ × Value) → Prop := Paired fun (p : κ × V) (q : κ × Value) => p.1 = q.1 ∧ RelV p.2 q.2

/-- a key of a dict (00_mix): an int or a text -/
def kV : Key → V
  | .inl i => .int i
  | .inr x => .str x

/-- what stands at a tracked address -/
inductive HO where
  /-- a list -/
  | lst (xs : List V)
  /-- a tuple (never changes) -/
  | tup (xs : List V)
  /-- a dict whose keys are ints and texts; one whose keys are tuples of ints and texts (the empty one is both) -/
  | dK (kvs : List (Key × V)) | dT (kvs : List (List Key × V))
  /-- a set of ints: its members, its size -/
  | set (S : Int → Bool) (n : Nat)
  /-- an instance of the class at C, its dict at dx, its attributes -/
  | ins (C dx : Addr) (fs : List (Str × V))
  /-- the dict of the instance at x -/
  | own (x : Addr)
  /-- the dict of an exception -/
  | xd (fs : List (Str × V))
  /-- a bound method, f of x -/
  | met (f x : Addr)
  /-- a range object lo, lo + 1, .. below hi -/
  | rng (lo hi : Int)
  /-- a thing that is known to the object (the script; a dict while a loop walks it): read, never written while it is so -/
  | frz (o : Obj) (u : HO)
  /-- a code object's table -/
  | tbl (ps : Array Value)
  /-- any other thing, by what is true of its one object (a def of one's own: SetO a S n := HO.ext fun h => ..) -/
  | ext (φ : Heap → Prop)

abbrev Hp := Addr → Option HO
def upd (H : Hp) (a : Addr) (o : HO) : Hp := fun b => if b = a then some o else H b
theorem upd_same {H : Hp} {a : Addr} {o : HO} : upd H a o a = some o := by unfold upd; rw [if_pos rfl]
theorem upd_ne {H : Hp} {a b : Addr} {o : HO} (h : b ≠ a) : upd H a o b = H b := by unfold upd; rw [if_neg h]
/-- two objects of different content stand apart -/
theorem ne_of {H : Hp} {a b : Addr} {o u : HO} (h : H a = some o) (h' : H b = some u) (d : o ≠ u) : a ≠ b := by
  intro e; subst e; rw [h] at h'; exact d (Option.some.inj h')
theorem ne_of_none {H : Hp} {a b : Addr} {o : HO} (h : H a = some o) (h' : H b = none) : a ≠ b := by
  intro e; subst e; rw [h] at h'; cases h'

section
variable (P : Program) (w : World)
def ObjOk (H : Hp) (h : Heap) (a : Addr) : HO → Prop
  | .lst xs => xs.length ≤ sizeLine ∧ ∃ (its : List Value) (n : Nat), Vals xs its ∧ h.get? a = some { cls := .type "list", data := .seq its.toArray n }
  | .tup xs => xs.length ≤ sizeLine ∧ ∃ its : List Value, Vals xs its ∧ IsTup h a its.toArray
  | .dK kvs => kvs.length ≤ sizeLine ∧ (a == sysModules) = false ∧ ∃ vs, KV kvs vs ∧ h.DictOf (mixKind P w) a vs
  | .dT kvs => kvs.length ≤ sizeLine ∧ (a == sysModules) = false ∧ ∃ xs : List (List Key × Addr × Value),
      Paired (fun (p : List Key × V) (q : List Key × Addr × Value) => p.1 = q.1 ∧ H q.2.1 = some (.tup (p.1.map kV)) ∧ RelV p.2 q.2.2) kvs xs ∧
      ∃ o es ep, h.get? a = some o ∧ o.ExactDict ∧ o.data = .dict es ep ∧ es.toList = xs.map (entryOfKey (tupleKind (mixKind P w))) ∧ (xs.map (·.1)).Nodup
  | .set S n => h.SetOf (intKind P w) a S n
  | .ins C dx fs => H dx = some (.own a) ∧ fs.length ≤ 1000 ∧ dx ≠ a ∧ h.get? a = some (PySem.W.instObj C dx) ∧
      ∃ mA, h.Ns1 dx mA ∧ (∀ f, RelO (fs.lookup f) (mA f)) ∧ PySem.Within mA (fs.map (·.1))
  | .own _ => ∃ o, h.get? a = some o
  | .xd fs => ∃ mA, h.Ns1 a mA ∧ ∀ f, RelO (fs.lookup f) (mA f)
  | .rng lo hi => ∃ t u v, h.get? a = some { cls := .type "range", data := .fields #[.int lo t, .int hi u, .int 1 v] }
  | .frz o u => h.get? a = some o ∧ ObjOk H h a u
  | .tbl ps => h.get? a = some { cls := .none, data := .fields ps }
  | .met f x => h.get? a = some (PySem.W.methodObj (.ref f) (.ref x))
  | .ext φ => φ h ∧ (∃ o, h.get? a = some o) ∧ ∀ h1 h2 : Heap, φ h1 → (∀ o, h1.get? a = some o → h2.get? a = some o) → φ h2
/-- the abstract heap is held -/
def HOk (H : Hp) (h : Heap) : Prop := ∀ a o, H a = some o → ObjOk P w H h a o
end

section
variable {P : Program} {w : World} {H H' : Hp} {h h' : Heap} {a : Addr} {o : HO}
theorem ObjOk.lt (x : ObjOk P w H h a o) : a < h.objs.size := by
  cases o with
  | lst xs => obtain ⟨_, _, _, _, e⟩ := x; exact Heap.lt_size e
  | tup xs => obtain ⟨_, _, _, p⟩ := x; exact p.lt
  | dK kvs => obtain ⟨_, _, _, _, o, _, _, e, _⟩ := x; exact Heap.lt_size e
  | dT kvs => obtain ⟨_, _, _, _, o, _, _, e, _⟩ := x; exact Heap.lt_size e
  | set S n => obtain ⟨o, _, _, _, e, _⟩ := x; exact Heap.lt_size e
  | ins C dx fs => obtain ⟨_, _, _, e, _⟩ := x; exact Heap.lt_size e
  | own y => obtain ⟨_, e⟩ := x; exact Heap.lt_size e
  | xd fs => obtain ⟨_, ⟨_, _, _, e, _⟩, _⟩ := x; exact Heap.lt_size e
  | rng lo hi => obtain ⟨_, _, _, e⟩ := x; exact Heap.lt_size e
  | frz ob u => obtain ⟨e, _⟩ := x; exact Heap.lt_size e
  | tbl ps => exact Heap.lt_size (show h.get? a = some _ from x)
  | met f y => exact Heap.lt_size (show h.get? a = some _ from x)
  | ext φ => obtain ⟨_, ⟨_, e⟩, _⟩ := x; exact Heap.lt_size e
theorem Paired.mapP {α β : Type} {F G : α → β → Prop} : ∀ {l₁ : List α} {l₂ : List β}, Paired F l₁ l₂ → (∀ a b, F a b → G a b) → Paired G l₁ l₂
  | _, _, .nil, _ => .nil
  | _, _, .cons r t, f => .cons (f _ _ r) (Paired.mapP t f)
/-- what an object's description leans on: its own object, its own dict, the tuples -/
theorem ObjOk.stay (x : ObjOk P w H h a o) (k : ∀ b u, (b = a ∨ H b = some (.own a)) → h.get? b = some u → h'.get? b = some u)
    (ho : ∀ b, H b = some (.own a) → H' b = some (.own a)) (ht : ∀ b xs, H b = some (.tup xs) → H' b = some (.tup xs)) : ObjOk P w H' h' a o := by
  induction o with
  | lst xs => obtain ⟨z, its, n, r, e⟩ := x; exact ⟨z, its, n, r, k _ _ (.inl rfl) e⟩
  | tup xs => obtain ⟨z, its, r, ob, e, c⟩ := x; exact ⟨z, its, r, ob, k _ _ (.inl rfl) e, c⟩
  | dK kvs => obtain ⟨z, y, vs, r, ob, es, ep, e, c⟩ := x; exact ⟨z, y, vs, r, ob, es, ep, k _ _ (.inl rfl) e, c⟩
  | dT kvs =>
    obtain ⟨z, y, xs, r, ob, es, ep, e, c⟩ := x
    exact ⟨z, y, xs, Paired.mapP r fun p q z => ⟨z.1, ht _ _ z.2.1, z.2.2⟩, ob, es, ep, k _ _ (.inl rfl) e, c⟩
  | set S n => obtain ⟨ob, es, ep, t, e, c⟩ := x; exact ⟨ob, es, ep, t, k _ _ (.inl rfl) e, c⟩
  | ins C dx fs =>
    obtain ⟨d, z, ne, e, mA, ⟨od, es, ep, e2, c⟩, r⟩ := x
    exact ⟨ho _ d, z, ne, k _ _ (.inl rfl) e, mA, ⟨od, es, ep, k _ _ (.inr d) e2, c⟩, r⟩
  | own y => obtain ⟨ob, e⟩ := x; exact ⟨ob, k _ _ (.inl rfl) e⟩
  | xd fs => obtain ⟨mA, ⟨od, es, ep, e, c⟩, r⟩ := x; exact ⟨mA, ⟨od, es, ep, k _ _ (.inl rfl) e, c⟩, r⟩
  | rng lo hi => obtain ⟨t, u, v, e⟩ := x; exact ⟨t, u, v, k _ _ (.inl rfl) e⟩
  | frz ob u ih => obtain ⟨e, q⟩ := x; exact ⟨k _ _ (.inl rfl) e, ih q⟩
  | tbl ps =>
    have e : h.get? a = some { cls := .none, data := .fields ps } := x
    show h'.get? a = some { cls := .none, data := .fields ps }
    exact k a _ (.inl rfl) e
  | met f y =>
    have e : h.get? a = some (PySem.W.methodObj (.ref f) (.ref y)) := x
    show h'.get? a = some (PySem.W.methodObj (.ref f) (.ref y))
    exact k a _ (.inl rfl) e
  | ext φ => obtain ⟨p, ⟨o, e⟩, st⟩ := x; exact ⟨st _ _ p fun o q => k _ _ (.inl rfl) q, ⟨o, k _ _ (.inl rfl) e⟩, st⟩
theorem HOk.lt (x : HOk P w H h) (e : H a = some o) : a < h.objs.size := (x a o e).lt
theorem HOk.fresh (x : HOk P w H h) (e : h.objs.size ≤ a) : H a = none := by
  cases q : H a with
  | none => rfl
  | some u => exact absurd (Nat.lt_of_lt_of_le (x.lt q) e) (Nat.lt_irrefl _)
/-- every object of the heap is kept -/
theorem HOk.kept (x : HOk P w H h) (k : ∀ b u, h.get? b = some u → h'.get? b = some u) : HOk P w H h' := fun a o e =>
  (x a o e).stay (fun b u _ q => k b u q) (fun _ q => q) fun _ _ q => q
/-- a new object is laid and tracked -/
theorem HOk.laid (x : HOk P w H h) (k : ∀ b u, h.get? b = some u → h'.get? b = some u) (hp : h.objs.size ≤ a) (new : ObjOk P w (upd H a o) h' a o) : HOk P w (upd H a o) h' := fun b u e => by
  have hn := x.fresh hp
  by_cases hb : b = a
  · subst hb; rw [upd_same] at e; cases e; exact new
  · rw [upd_ne hb] at e
    exact (x b u e).stay (fun c v _ q => k c v q) (fun c q => by rw [upd_ne (ne_of_none q hn)]; exact q) fun c xs q => by rw [upd_ne (ne_of_none q hn)]; exact q
end

/-- what may be read as u: it is u, or a known u -/
def Rd (H : Hp) (a : Addr) (u : HO) : Prop := H a = some u ∨ ∃ o, H a = some (.frz o u)
theorem Rd.ok {P : Program} {w : World} {H : Hp} {h : Heap} {a : Addr} {u : HO} (r : Rd H a u) (x : HOk P w H h) : ObjOk P w H h a u := by
  rcases r with r | ⟨o, r⟩
  · exact x a u r
  · obtain ⟨_, q⟩ := x a _ r
    exact q
/-- what may be written -/
def Mut : Option HO → Prop
  | some (.lst _) => True
  | some (.dK _) => True
  | some (.dT _) => True
  | some (.set _ _) => True
  | some (.ins _ _ _) => True
  | some (.ext _) => True
  | _ => False
section
variable {P : Program} {w : World} {H : Hp} {h h' : Heap} {x e : Addr} {o' : HO}
/-- the object at e is changed: x itself, or the dict of the instance x -/
theorem HOk.write (ok : HOk P w H h) (mu : Mut (H x)) (he : e = x ∨ H e = some (.own x)) (k : ∀ b u, b ≠ e → h.get? b = some u → h'.get? b = some u) (heo : ∃ u, h'.get? e = some u)
    (new : ObjOk P w (upd H x o') h' x o') : HOk P w (upd H x o') h' := fun b u q => by
  have nown : ∀ c y, H c = some (.own y) → c ≠ x := fun c y r z => by subst z; rw [r] at mu; exact mu
  have ntup : ∀ c xs, H c = some (.tup xs) → c ≠ x := fun c xs r z => by subst z; rw [r] at mu; exact mu
  by_cases hb : b = x
  · subst hb; rw [upd_same] at q; cases q; exact new
  · rw [upd_ne hb] at q
    by_cases hbe : b = e
    · have q' : H b = some (.own x) := by
        rcases he with z | z
        · exact absurd (hbe.trans z) hb
        · rw [hbe]; exact z
      rw [q] at q'; cases q'
      obtain ⟨v, hv⟩ := heo
      exact ⟨v, by rw [hbe]; exact hv⟩
    · refine (ok b u q).stay (fun c v hc r => k c v ?_ r) (fun c r => by rw [upd_ne (nown c b r)]; exact r) fun c xs r => by rw [upd_ne (ntup c xs r)]; exact r
      rcases hc with rfl | hc
      · exact hbe
      · rintro rfl
        rcases he with z | z
        · exact nown c b hc z
        · rw [hc] at z; cases z; exact hb rfl
end

/-! ### kept unless tracked; of the frames at fs (the callers') the slots may change (an exception that passes writes there); of the records at ex (iterators) nothing is said -/
structure Un (fs ex : List Addr) (H H' : Hp) (h h' : Heap) : Prop where
  keep : ∀ b o, h.get? b = some o → H b = none → b ∉ fs → b ∉ ex → h'.get? b = some o
  slot : ∀ b o, h.get? b = some o → H b = none → b ∈ fs → b ∉ ex → ∃ sl, h'.get? b = some { o with slots := sl }
  free : ∀ b o, h.get? b = some o → H b = none → b ∉ ex → H' b = none
  there : ∀ b o, h.get? b = some o → b ∉ ex → ∃ o', h'.get? b = some o'
  tups : ∀ b xs, H b = some (.tup xs) → H' b = some (.tup xs)
  frzs : ∀ b o u, H b = some (.frz o u) → H' b = some (.frz o u)
  tbls : ∀ b ps, H b = some (.tbl ps) → ∃ more, H' b = some (.tbl (ps ++ more))
section
variable {fs fs' ex ex' : List Addr} {H H1 H2 : Hp} {h h1 h2 h' : Heap} {a x e : Addr} {o : HO}
theorem Un.any (u : Un fs ex H H1 h h1) {b : Addr} {ob : Obj} (q : h.get? b = some ob) (n : H b = none) (hx : b ∉ ex) : ∃ sl, h1.get? b = some { ob with slots := sl } := by
  by_cases hb : b ∈ fs
  · exact u.slot b ob q n hb hx
  · exact ⟨ob.slots, u.keep b ob q n hb hx⟩
theorem Un.kept (k : ∀ b u, h.get? b = some u → h'.get? b = some u) : Un fs ex H H h h' :=
  ⟨fun b ob q _ _ _ => k b ob q, fun b ob q _ _ _ => ⟨ob.slots, k b ob q⟩, fun _ _ _ n _ => n, fun b ob q _ => ⟨ob, k b ob q⟩, fun _ _ q => q, fun _ _ _ q => q, fun _ ps q => ⟨#[], by rw [q]; simp⟩⟩
theorem Un.refl : Un fs ex H H h h := Un.kept fun _ _ q => q
theorem Un.laid (k : ∀ b u, h.get? b = some u → h'.get? b = some u) (hp : h.objs.size ≤ a) (hn : H a = none) : Un fs ex H (upd H a o) h h' where
  keep := fun b u q _ _ _ => k b u q
  slot := fun b u q _ _ _ => ⟨u.slots, k b u q⟩
  free := fun b u q n _ => by rw [upd_ne (Nat.ne_of_lt (Nat.lt_of_lt_of_le (Heap.lt_size q) hp))]; exact n
  there := fun b u q _ => ⟨u, k b u q⟩
  tups := fun b xs q => by rw [upd_ne (ne_of_none q hn)]; exact q
  frzs := fun b u xs q => by rw [upd_ne (ne_of_none q hn)]; exact q
  tbls := fun b ps q => ⟨#[], by rw [upd_ne (ne_of_none q hn), q]; simp⟩
theorem Un.write (mu : Mut (H x)) (he : e = x ∨ H e = some (.own x)) (k : ∀ b u, b ≠ e → h.get? b = some u → h'.get? b = some u) (heo : ∃ u, h'.get? e = some u) : Un fs ex H (upd H x o) h h' := by
  have hx : ∀ b, H b = none → b ≠ x := fun b n z => by subst z; rw [n] at mu; exact mu
  have hb : ∀ b, H b = none → b ≠ e := fun b n z => by
    subst z
    rcases he with r | r
    · exact hx b n r
    · rw [n] at r; cases r
  have hm : ∀ b u, H b = some u → ¬ Mut (some u) → b ≠ x := fun b u q nm z => by subst z; rw [q] at mu; exact nm mu
  refine ⟨fun b u q n _ _ => k b u (hb b n) q, fun b u q n _ _ => ⟨u.slots, k b u (hb b n) q⟩, fun b u q n _ => by rw [upd_ne (hx b n)]; exact n, fun b u q _ => ?_,
    fun b xs q => by rw [upd_ne (hm b _ q fun z => z)]; exact q, fun b u xs q => by rw [upd_ne (hm b _ q fun z => z)]; exact q, fun b ps q => ⟨#[], by rw [upd_ne (hm b _ q fun z => z), q]; simp⟩⟩
  by_cases hbe : b = e
  · subst hbe; exact heo
  · exact ⟨u, k b u hbe q⟩
end

/-! ### the heap without what is tracked -/
def trk (h : Heap) (H : Hp) : List Addr := (List.range h.objs.size).filter fun a => (H a).isSome
def hidT (h : Heap) (H : Hp) : Heap := PySem.W.hideAll h (trk h H)
theorem hidT_size (h : Heap) (H : Hp) : (hidT h H).objs.size = h.objs.size := PySem.W.hideAll_size _ _
theorem hidT_get {h : Heap} {H : Hp} {b : Addr} {o : Obj} (e : h.get? b = some o) (n : H b = none) : (hidT h H).get? b = some o :=
  PySem.W.hideAll_get _ e fun hm => by
    have q : (H b).isSome = true := (List.mem_filter.mp hm).2
    rw [n] at q; simp at q
theorem of_hidT {h : Heap} {H : Hp} {b : Addr} {o : Obj} (e : (hidT h H).get? b = some o) : h.get? b = some o ∧ H b = none := by
  have e' : h.get? b = some o := PySem.W.of_hideAll (trk h H) e
  refine ⟨e', ?_⟩
  cases q : H b with
  | none => rfl
  | some x =>
    have hm : b ∈ trk h H := List.mem_filter.mpr ⟨List.mem_range.mpr (Heap.lt_size e'), by simp [q]⟩
    have z : (hidT h H).get? b = none := PySem.W.hideAll_none (trk h H) hm
    rw [z] at e; cases e

/-! ### OpenK's ledger, filled with every new object but one -/
def allNews (g h : Heap) (L : Addr) : List (Addr × Obj) := (List.range h.objs.size).filterMap fun a => if a = L ∨ (g.get? a).isSome = true then none else (h.get? a).map fun o => (a, o)
def rest (g h : Heap) (L d : Addr) : List (Addr × Obj) := (allNews g h L).filter fun p => decide (p.1 ≠ d)
end L2

namespace L2
open PySem PySem.Spec PyProof.Rows

/-- the module's facts, over the base: the heap at the law's entry without what is tracked there -/
structure Mod (K : PySem.W.Frag) (mg : Str → Option Value) (base : Heap) : Prop where
  kin : K.In base
  glob : base.Ns mainGlobals mg
  blt : ∃ mb, base.Ns builtinsNs mb ∧ ∀ x : Str, x ≠ "__name__" → mb x = bootBuiltins x
  nolimit : base.NoLimit

/-- the context: a def's body (or a comprehension's block) running. base: fixed through the whole law; s₀, H₀: the entry; outer: the frames whose slots others may change (a def's callers); stack: all frames that run;
   ex: iterators that were made ahead of the entry and are walked here (a comprehension's); fn: the names whose cells were made at the entry (a def: all; a comprehension's block: its own); calm: not within an except suite; pn: pins that every state bears; xe: what is wanted of an exception that leaves the code -/
structure Cx where
  prog : Program
  w : World
  K : PySem.W.Frag
  mg : Str → Option Value
  base : Heap
  A : Around
  N : List Str
  s₀ : Shared
  H₀ : Hp
  env : Env
  outer : List Env
  stack : List Env
  ex : List Addr
  fn : Str → Bool
  calm : Bool
  pn : List (Addr × Obj)
  xe : Value → Shared → Prop
/-- the callers' frames -/
def frs (l : List Env) : List Addr := l.filterMap (·.frame)
abbrev Cx.fs (X : Cx) : List Addr := frs X.outer

def Vis (sc : Scope) (x : Str) : Prop := sc.names.lookup x = some .local ∨ sc.names.lookup x = some .cell ∨ sc.names.lookup x = some .free
def Loc (sc : Scope) (x : Str) : Prop := sc.names.lookup x = some .local ∨ sc.names.lookup x = some .cell
def Look (env : Env) (h : Heap) (m : Str → Option Value) (x : Str) (u : Value) : Prop :=
  (env.kindOf x = some .local ∧ m x = some u) ∨ ((env.kindOf x = some .cell ∨ env.kindOf x = some .free) ∧ ∃ c, env.cells.lookup x = some c ∧ h.IsCell c (some u))

structure Cx.Ok (X : Cx) : Prop where
  mod : Mod X.K X.mg X.base
  kind : X.env.scope.kind = .function
  glob : X.env.globals = mainGlobals
  blt : X.env.builtins = builtinsNs
  above : X.s₀.heap.objs.size ≤ X.env.locals
  inj : ∀ x y c, X.env.cells.lookup x = some c → X.env.cells.lookup y = some c → x = y
  has : ∀ x, (X.env.kindOf x = some .cell ∨ X.env.kindOf x = some .free) → ∃ c, X.env.cells.lookup x = some c
  cab : ∀ x c, X.fn x = true → X.env.cells.lookup x = some c → X.s₀.heap.objs.size ≤ c
  hd : X.calm = true → X.A.handled = none
  frames : X.A.frames = some X.stack
  stk : X.stack = X.outer ∨ (X.stack = X.env :: X.outer ∧ X.env.frame = some X.env.locals)
  exf : ∀ b ∈ X.ex, b ≠ X.env.locals ∧ ∀ x c, X.env.cells.lookup x = some c → c ≠ b
  bs : ∀ b o, X.base.get? b = some o → X.s₀.heap.get? b = some o ∧ X.H₀ b = none
  bsz : X.base.objs.size ≤ X.s₀.heap.objs.size
  noex : ∀ b o, X.base.get? b = some o → b ∉ X.ex
  exfs : ∀ b ∈ X.ex, b ∉ X.fs
  funs : X.s₀.heap.FunFrames X.base X.outer
  frf : ∀ b ∈ X.fs, X.H₀ b = none

structure Inv (X : Cx) (pins : List (Addr × Obj)) (σ : List (Option V)) (H : Hp) (s : Shared) : Prop where
  ok : X.Ok
  os : s.os = X.s₀.os
  bare : AllBare s.gens
  base : Un X.fs X.ex X.H₀ H X.s₀.heap s.heap
  loc : ∃ m, s.heap.Ns X.env.locals m ∧ ∀ (i : Nat) (x : Str) (v : V), X.N[i]? = some x → σ[i]? = some (some v) → Vis X.env.scope x → ∃ u, RelV v u ∧ Look X.env s.heap m x u
  cell : ∀ x c, X.env.cells.lookup x = some c → ∃ v, s.heap.IsCell c v
  free : H X.env.locals = none
  freeC : ∀ x c, X.env.cells.lookup x = some c → H c = none
  pin : ∀ p ∈ X.pn ++ pins, s.heap.get? p.1 = some p.2 ∧ H p.1 = none ∧ p.1 ≠ X.env.locals ∧ p.1 ∉ X.fs ∧ ∀ v, p.2.data ≠ .cell v
  hok : HOk X.prog X.w H s.heap
  len : σ.length = X.N.length

section
variable {X : Cx} {pins : List (Addr × Obj)} {σ : List (Option V)} {H H' : Hp} {s : Shared} {h' : Heap}

theorem Cx.Ok.nofr (ok : X.Ok) {b : Addr} {o : Obj} (e : X.base.get? b = some o) : b ∉ X.fs := fun hb => by
  have := (ok.funs.mem hb).1
  rw [e] at this; cases this
theorem Inv.bs (I : Inv X pins σ H s) : ∀ b o, X.base.get? b = some o → s.heap.get? b = some o ∧ H b = none := fun b o e =>
  ⟨I.base.keep b o (I.ok.bs b o e).1 (I.ok.bs b o e).2 (I.ok.nofr e) (I.ok.noex b o e), I.base.free b o (I.ok.bs b o e).1 (I.ok.bs b o e).2 (I.ok.noex b o e)⟩
theorem Inv.bk (I : Inv X pins σ H s) : ∀ b o, X.base.get? b = some o → s.heap.get? b = some o := fun b o e => (I.bs b o e).1
theorem Inv.mod (I : Inv X pins σ H s) : Mod X.K X.mg X.base := I.ok.mod
theorem Inv.kIn (I : Inv X pins σ H s) : X.K.In s.heap := I.ok.mod.kin.keeps I.bk
/-- the frame over the base: for OpenK's rules (K.In X.base is I.mod.kin) -/
theorem Inv.fr (I : Inv X pins σ H s) : ∃ m, Fr X.base X.env.locals s.heap m :=
  let ⟨m, hn, _⟩ := I.loc
  ⟨m, hn, I.bk, Nat.le_trans I.ok.bsz I.ok.above⟩
theorem Inv.lt (I : Inv X pins σ H s) : X.env.locals < s.heap.objs.size := let ⟨_, hn, _⟩ := I.loc; hn.lt
theorem Inv.sz (I : Inv X pins σ H s) : X.s₀.heap.objs.size ≤ s.heap.objs.size := Nat.le_trans I.ok.above (Nat.le_of_lt I.lt)
theorem Inv.nofs (I : Inv X pins σ H s) {a : Addr} (h : s.heap.objs.size ≤ a) : a ∉ X.fs := fun hb => by
  obtain ⟨_, o, ho, _⟩ := I.ok.funs.mem hb
  exact absurd (Nat.lt_of_lt_of_le (Heap.lt_size ho) (Nat.le_trans I.sz h)) (Nat.lt_irrefl _)
theorem Inv.cne (I : Inv X pins σ H s) : ∀ x c, X.env.cells.lookup x = some c → c ≠ X.env.locals := fun x c e z => by
  obtain ⟨v, o, ho, hd⟩ := I.cell x c e
  obtain ⟨m, ⟨o', es, ep, ho', hd', _⟩, _⟩ := I.loc
  rw [z, ho'] at ho; cases ho; rw [hd'] at hd; cases hd
theorem Inv.funs (I : Inv X pins σ H s) : s.heap.FunFrames X.base X.outer := by
  have all : ∀ (l : List Env), (∀ b ∈ frs l, b ∈ X.fs) → X.s₀.heap.FunFrames X.base l → s.heap.FunFrames X.base l := by
    intro l
    induction l with
    | nil => intro _ _; trivial
    | cons env r ih =>
      intro hs hl
      obtain ⟨hk, ⟨L, o, hf, hn, ho, hd⟩, hr⟩ := hl
      have hL : L ∈ X.fs := hs L (by unfold frs; rw [List.filterMap_cons, hf]; exact List.mem_cons_self)
      obtain ⟨sl, e⟩ := I.base.slot L o ho (I.ok.frf L hL) hL fun z => I.ok.exfs L z hL
      exact ⟨hk, ⟨L, _, hf, hn, e, hd⟩, ih (fun b hb => hs b (by unfold frs; rw [List.filterMap_cons, hf]; exact List.mem_cons_of_mem _ hb)) hr⟩
  exact all X.outer (fun _ hb => hb) I.ok.funs

/-- the frames that run, for a call -/
theorem Inv.stack (I : Inv X pins σ H s) : s.heap.FunFrames X.base X.stack := by
  rcases I.ok.stk with e | ⟨e, hf⟩
  · rw [e]; exact I.funs
  · rw [e]
    obtain ⟨m, hn, _⟩ := I.loc
    refine .cons (by rw [I.ok.kind]; decide) hf hn ?_ I.funs
    exact Heap.get?_none_of_le (Nat.le_trans I.ok.bsz I.ok.above)
theorem Inv.stkSub (I : Inv X pins σ H s) : ∀ b ∈ frs X.stack, b ∈ X.env.locals :: X.fs := fun b hb => by
  rcases I.ok.stk with e | ⟨e, hf⟩
  · rw [e] at hb; exact List.mem_cons_of_mem _ hb
  · rw [e] at hb
    unfold frs at hb
    rw [List.filterMap_cons, hf] at hb
    exact hb
theorem Inv.stkFree (I : Inv X pins σ H s) : ∀ b ∈ frs X.stack, H b = none := fun b hb => by
  rcases List.mem_cons.mp (I.stkSub b hb) with e | hb
  · rw [e]; exact I.free
  · obtain ⟨_, o, ho, _⟩ := I.ok.funs.mem hb
    exact I.base.free b o ho (I.ok.frf b hb) fun z => I.ok.exfs b z hb

/-- THE STEP: the untracked objects but the frame and the records at ch are kept (the callers' frames up to slots), the frame's map is kept, the new abstract heap is held -/
theorem Inv.step {g' : Array GenState} {t' : Nat} {d' : Drawn} {ch : List Addr} (I : Inv X pins σ H s)
    (hch : ∀ b ∈ ch, (b ∈ X.ex ∨ X.s₀.heap.objs.size ≤ b) ∧ b ≠ X.env.locals ∧ (∀ x c, X.env.cells.lookup x = some c → c ≠ b) ∧ ∀ p ∈ X.pn ++ pins, p.1 ≠ b)
    (keep : ∀ b o, b ≠ X.env.locals → b ∉ X.fs → b ∉ ch → s.heap.get? b = some o → H b = none → h'.get? b = some o)
    (slot : ∀ b o, b ≠ X.env.locals → b ∈ X.fs → b ∉ ch → s.heap.get? b = some o → H b = none → ∃ sl, h'.get? b = some { o with slots := sl }) (free : ∀ b o, b ∉ ch → s.heap.get? b = some o → H b = none → H' b = none)
    (there : ∀ b o, b ∉ ch → s.heap.get? b = some o → ∃ o', h'.get? b = some o')
    (tups : ∀ b xs, H b = some (.tup xs) → H' b = some (.tup xs)) (frzs : ∀ b o u, H b = some (.frz o u) → H' b = some (.frz o u)) (tbls : ∀ b ps, H b = some (.tbl ps) → ∃ more, H' b = some (.tbl (ps ++ more)))
    (ns : ∀ m, s.heap.Ns X.env.locals m → h'.Ns X.env.locals m) (hok : HOk X.prog X.w H' h') (hg : AllBare g') :
    Inv X pins σ H' { s with heap := h', gens := g', drawn := d', toks := t' } := by
  have neL : ∀ b o, X.s₀.heap.get? b = some o → b ≠ X.env.locals := fun b o e => Nat.ne_of_lt (Nat.lt_of_lt_of_le (Heap.lt_size e) I.ok.above)
  have neC : ∀ b o, X.s₀.heap.get? b = some o → b ∉ X.ex → b ∉ ch := fun b o e hx hb => by
    rcases (hch b hb).1 with z | z
    · exact hx z
    · exact absurd (Nat.lt_of_lt_of_le (Heap.lt_size e) z) (Nat.lt_irrefl _)
  have cellK : ∀ x c, X.env.cells.lookup x = some c → ∀ v, s.heap.IsCell c v → h'.IsCell c v := fun x c e v ⟨o, ho, hd⟩ => by
    have nch : c ∉ ch := fun z => (hch c z).2.2.1 x c e rfl
    by_cases hc : c ∈ X.fs
    · obtain ⟨sl, q⟩ := slot c o (I.cne x c e) hc nch ho (I.freeC x c e)
      exact ⟨_, q, hd⟩
    · exact ⟨o, keep c o (I.cne x c e) hc nch ho (I.freeC x c e), hd⟩
  refine ⟨I.ok, I.os, hg, ⟨fun b o e n hb hx => ?_, fun b o e n hb hx => ?_, fun b o e n hx => ?_, fun b o e hx => ?_, fun b xs e => tups b xs (I.base.tups b xs e), fun b o xs e => frzs b o xs (I.base.frzs b o xs e), fun b ps e => ?_⟩, ?_, fun x c e => ?_, ?_, fun x c e => ?_, fun p hp => ?_, hok, I.len⟩
  · exact keep b o (neL b o e) hb (neC b o e hx) (I.base.keep b o e n hb hx) (I.base.free b o e n hx)
  · obtain ⟨sl, e1⟩ := I.base.slot b o e n hb hx
    obtain ⟨sl', e2⟩ := slot b _ (neL b o e) hb (neC b o e hx) e1 (I.base.free b o e n hx)
    exact ⟨sl', e2⟩
  · obtain ⟨o', e1⟩ := I.base.there b o e hx
    exact free b o' (neC b o e hx) e1 (I.base.free b o e n hx)
  · obtain ⟨o', e1⟩ := I.base.there b o e hx
    exact there b o' (neC b o e hx) e1
  · obtain ⟨m1, e1⟩ := I.base.tbls b ps e
    obtain ⟨m2, e2⟩ := tbls b _ e1
    exact ⟨m1 ++ m2, by rw [e2, Array.append_assoc]⟩
  · obtain ⟨m, hn, hl⟩ := I.loc
    refine ⟨m, ns m hn, fun i x v e1 e2 e3 => ?_⟩
    obtain ⟨u, r, l⟩ := hl i x v e1 e2 e3
    refine ⟨u, r, ?_⟩
    rcases l with l | ⟨k, c, e, z⟩
    · exact .inl l
    · exact .inr ⟨k, c, e, cellK x c e _ z⟩
  · obtain ⟨v, z⟩ := I.cell x c e
    exact ⟨v, cellK x c e v z⟩
  · obtain ⟨m, ⟨o, _, _, ho, _⟩, _⟩ := I.loc
    exact free _ o (fun z => (hch _ z).2.1 rfl) ho I.free
  · obtain ⟨v, o, ho, hd⟩ := I.cell x c e
    exact free c o (fun z => (hch c z).2.2.1 x c e rfl) ho (I.freeC x c e)
  · obtain ⟨e, n, ne, nf, d⟩ := I.pin p hp
    have nch : p.1 ∉ ch := fun z => (hch p.1 z).2.2.2 p hp rfl
    exact ⟨keep p.1 p.2 ne nf nch e n, free p.1 p.2 nch e n, ne, nf, d⟩
/-- .. where the frame's own object is kept too -/
theorem Inv.un {t' : Nat} (I : Inv X pins σ H s) (u : Un X.fs [] H H' s.heap h') (hok : HOk X.prog X.w H' h') : Inv X pins σ H' { s with heap := h', toks := t' } := by
  obtain ⟨m, ⟨o, es, ep, ho, r⟩, _⟩ := id I.loc
  obtain ⟨sl, hL⟩ := u.any ho I.free (by simp)
  exact I.step (g' := s.gens) (d' := s.drawn) (ch := []) (fun _ z => nomatch z) (fun b o _ hb _ e n => u.keep b o e n hb (by simp)) (fun b o _ hb _ e n => u.slot b o e n hb (by simp)) (fun b o _ e n => u.free b o e n (by simp)) (fun b o _ e => u.there b o e (by simp)) u.tups u.frzs u.tbls (fun m' hm => by
    obtain ⟨o', es', ep', ho', r'⟩ := hm
    rw [ho] at ho'; cases ho'
    exact ⟨_, es', ep', hL, r'⟩) hok I.bare
/-- behind a call (or a comprehension's block): the slots of this frame may have changed too, the records at ch may have turned -/
theorem Inv.call {g' : Array GenState} {t' : Nat} {d' : Drawn} {ch : List Addr} (I : Inv X pins σ H s) (u : Un (frs X.stack) ch H H' s.heap h') (hok : HOk X.prog X.w H' h') (hg : AllBare g')
    (hch : ∀ b ∈ ch, (b ∈ X.ex ∨ X.s₀.heap.objs.size ≤ b) ∧ b ≠ X.env.locals ∧ (∀ x c, X.env.cells.lookup x = some c → c ≠ b) ∧ ∀ p ∈ X.pn ++ pins, p.1 ≠ b) :
    Inv X pins σ H' { s with heap := h', gens := g', drawn := d', toks := t' } := by
  obtain ⟨m, ⟨o, es, ep, ho, r⟩, _⟩ := id I.loc
  obtain ⟨sl, hL⟩ := u.any ho I.free fun z => (hch _ z).2.1 rfl
  exact I.step (ch := ch) hch (fun b o hL hb hc e n => u.keep b o e n (fun z => (List.mem_cons.mp (I.stkSub b z)).elim hL hb) hc) (fun b o _ _ hc e n => u.any e n hc) (fun b o hc e n => u.free b o e n hc) (fun b o hc e => u.there b o e hc) u.tups u.frzs u.tbls (fun m' hm => by
    obtain ⟨o', es', ep', ho', r'⟩ := hm
    rw [ho] at ho'; cases ho'
    exact ⟨_, es', ep', hL, r'⟩) hok hg
/-- an untracked record of ours (an iterator) has turned -/
theorem Inv.turned {t' : Nat} {it : Addr} (I : Inv X pins σ H s) (k : ∀ b o, b ≠ it → s.heap.get? b = some o → h'.get? b = some o) (hn : H it = none) (hL : it ≠ X.env.locals)
    (h1 : it ∈ X.ex ∨ X.s₀.heap.objs.size ≤ it) (h2 : ∀ x c, X.env.cells.lookup x = some c → c ≠ it) (h3 : ∀ p ∈ X.pn ++ pins, p.1 ≠ it) : Inv X pins σ H { s with heap := h', toks := t' } := by
  have nit : ∀ b u, H b = some u → b ≠ it := fun b u e z => by rw [z, hn] at e; cases e
  refine I.step (g' := s.gens) (d' := s.drawn) (ch := [it]) (fun b hb => ?_) (fun b o _ _ hc e _ => k b o (fun z => hc (by simp [z])) e) (fun b o _ _ hc e _ => ⟨o.slots, k b o (fun z => hc (by simp [z])) e⟩) (fun _ _ _ _ n => n)
    (fun b o hc e => ⟨o, k b o (fun z => hc (by simp [z])) e⟩) (fun _ _ e => e) (fun _ _ _ e => e) (fun b ps e => ⟨#[], by rw [e]; simp⟩) (fun m hm => ?_) (fun b u e => ?_) I.bare
  · have e : b = it := by simpa using hb
    subst e
    exact ⟨h1, hL, h2, h3⟩
  · obtain ⟨o, es, ep, ho, r⟩ := hm
    exact ⟨o, es, ep, k _ o (Ne.symm hL) ho, r⟩
  · refine (I.hok b u e).stay (fun c v hc q => k c v ?_ q) (fun _ q => q) fun _ _ q => q
    rcases hc with z | z
    · rw [z]; exact nit b u e
    · exact nit c _ z
theorem Inv.tok (I : Inv X pins σ H s) (t : Nat) : Inv X pins σ H { s with toks := t } := I.un (h' := s.heap) (t' := t) Un.refl I.hok
/-- all objects kept -/
theorem Inv.kept {t' : Nat} (I : Inv X pins σ H s) (k : ∀ b u, s.heap.get? b = some u → h'.get? b = some u) : Inv X pins σ H { s with heap := h', toks := t' } := I.un (Un.kept k) (I.hok.kept k)
/-- a new object laid and tracked -/
theorem Inv.laid {a : Addr} {o : HO} {t' : Nat} (I : Inv X pins σ H s) (k : ∀ b u, s.heap.get? b = some u → h'.get? b = some u) (hp : s.heap.objs.size ≤ a) (new : ObjOk X.prog X.w (upd H a o) h' a o) :
    Inv X pins σ (upd H a o) { s with heap := h', toks := t' } := I.un (Un.laid k hp (I.hok.fresh hp)) (I.hok.laid k hp new)
/-- an object written -/
theorem Inv.write {x e : Addr} {o : HO} {t' : Nat} (I : Inv X pins σ H s) (mu : Mut (H x)) (he : e = x ∨ H e = some (.own x)) (k : ∀ b u, b ≠ e → s.heap.get? b = some u → h'.get? b = some u) (heo : ∃ u, h'.get? e = some u)
    (new : ObjOk X.prog X.w (upd H x o) h' x o) : Inv X pins σ (upd H x o) { s with heap := h', toks := t' } := I.un (Un.write mu he k heo) (I.hok.write mu he k heo new)
/-- forgetting slots, pins -/
theorem Inv.weak {σ' : List (Option V)} (I : Inv X pins σ H s) (hl : σ'.length = σ.length) (w : ∀ (i : Nat) v, σ'[i]? = some (some v) → σ[i]? = some (some v)) : Inv X pins σ' H s :=
  ⟨I.ok, I.os, I.bare, I.base, let ⟨m, hn, hl'⟩ := I.loc; ⟨m, hn, fun i x v e1 e2 e3 => hl' i x v e1 (w i v e2) e3⟩, I.cell, I.free, I.freeC, I.pin, I.hok, hl.trans I.len⟩
theorem Inv.pins_of {pins' : List (Addr × Obj)} (I : Inv X pins σ H s) (h : ∀ p ∈ pins', s.heap.get? p.1 = some p.2 ∧ H p.1 = none ∧ p.1 ≠ X.env.locals ∧ p.1 ∉ X.fs ∧ ∀ v, p.2.data ≠ .cell v) : Inv X pins' σ H s :=
  ⟨I.ok, I.os, I.bare, I.base, I.loc, I.cell, I.free, I.freeC, fun p hp => (List.mem_append.mp hp).elim (fun z => I.pin p (List.mem_append_left _ z)) (h p), I.hok, I.len⟩

theorem nodup_ix {N : List Str} (hN : N.Nodup) {i j : Nat} {x : Str} (a : N[i]? = some x) (b : N[j]? = some x) : i = j := by
  obtain ⟨h1, e1⟩ := List.getElem?_eq_some_iff.mp a
  obtain ⟨h2, e2⟩ := List.getElem?_eq_some_iff.mp b
  exact (List.getElem_inj hN).mp (e1.trans e2.symm)

/-- a name is stored; what changed -/
theorem store_ok2 {M : Model} {A : Around} {E : Value → Shared → Prop} {i : Nat} {x : Str} {v : V} {u : Value} {Q : Unit → Shared → Prop} (I : Inv X pins σ H s) (hN : X.N.Nodup) (hi : X.N[i]? = some x) (hx : Loc X.env.scope x) (r : RelV v u)
    (h : ∀ s', Inv X pins (σ.set i (some v)) H s' → (∃ a, Heap.SameBut a s.heap s'.heap ∧ (a = X.env.locals ∨ X.env.cells.lookup x = some a)) → Q () s') (hf : X.fn x = true ∨ X.env.scope.names.lookup x = some .local := by first | exact .inl rfl | exact .inr rfl | assumption) : wpAny M A (storeName X.env x u) Q E s := by
  obtain ⟨m, hn, hl⟩ := id I.loc
  have hcls : (X.env.scope.kind == .class || (X.env.scope.kind == .module && X.env.locals != X.env.globals)) = false := by rw [I.ok.kind]; rfl
  have hiσ : i < σ.length := by rw [I.len]; exact (List.getElem?_eq_some_iff.mp hi).1
  have cne := I.cne
  have tracked : ∀ {a : Addr} {h' : Heap}, (∃ o, s.heap.get? a = some o ∧ H a = none) → Heap.SameBut a s.heap h' → HOk X.prog X.w H h' := fun {a h'} ha hs b ob e => by
    obtain ⟨_, _, hfree⟩ := ha
    refine (I.hok b ob e).stay (fun c w' hc q => (hs.2 c ?_).trans q) (fun _ q => q) fun _ _ q => q
    rintro rfl
    rcases hc with rfl | hc
    · rw [hfree] at e; cases e
    · rw [hfree] at hc; cases hc
  rcases hx with hk | hk
  · refine wpAny_storeName_local hk hn (fun h' hn' hs => ?_) hcls
    obtain ⟨oL, _, _, hoL, _⟩ := id hn
    refine h _ ⟨I.ok, I.os, I.bare, ⟨fun b o e n hb hx => ?_, fun b o e n hb hx => ?_, I.base.free, fun b o e hx => ?_, I.base.tups, I.base.frzs, I.base.tbls⟩, ⟨_, hn', fun j y v' e1 e2 e3 => ?_⟩, fun y c e => ?_, I.free, I.freeC, fun p hp => ?_, tracked ⟨oL, hoL, I.free⟩ hs, by simpa using I.len⟩ ⟨_, hs, .inl rfl⟩
    · exact (hs.2 b (Nat.ne_of_lt (Nat.lt_of_lt_of_le (Heap.lt_size e) I.ok.above))).trans (I.base.keep b o e n hb hx)
    · obtain ⟨sl, e1⟩ := I.base.slot b o e n hb hx
      exact ⟨sl, (hs.2 b (Nat.ne_of_lt (Nat.lt_of_lt_of_le (Heap.lt_size e) I.ok.above))).trans e1⟩
    · obtain ⟨o', e1⟩ := I.base.there b o e hx
      exact ⟨o', (hs.2 b (Nat.ne_of_lt (Nat.lt_of_lt_of_le (Heap.lt_size e) I.ok.above))).trans e1⟩
    · by_cases hj : j = i
      · subst hj
        rw [hi] at e1; cases e1
        rw [List.getElem?_set_self hiσ] at e2
        cases e2
        exact ⟨u, r, .inl ⟨hk, by simp⟩⟩
      · rw [List.getElem?_set_ne (Ne.symm hj)] at e2
        obtain ⟨u', r', q⟩ := hl j y v' e1 e2 e3
        refine ⟨u', r', ?_⟩
        rcases q with ⟨k, e⟩ | ⟨k, c, e, z⟩
        · refine .inl ⟨k, ?_⟩
          have : y ≠ x := fun e => hj (nodup_ix hN e1 (e ▸ hi))
          simp [this, e]
        · exact .inr ⟨k, c, e, z.sameBut hs (cne y c e)⟩
    · obtain ⟨w', z⟩ := I.cell y c e
      exact ⟨w', z.sameBut hs (cne y c e)⟩
    · obtain ⟨e, n, ne, nf, d⟩ := I.pin p hp
      exact ⟨(hs.2 p.1 ne).trans e, n, ne, nf, d⟩
  · have hfn : X.fn x = true := by
      rcases hf with z | z
      · exact z
      · rw [z] at hk; cases hk
    obtain ⟨c, hc⟩ := I.ok.has x (.inl hk)
    obtain ⟨w', z⟩ := I.cell x c hc
    refine wpAny_storeName_cell I.ok.kind hk hc z (fun h' hc' hs => ?_)
    obtain ⟨oc, hoc, hocd⟩ := id z
    refine h { s with heap := h' } ⟨I.ok, I.os, I.bare, ⟨fun b o e n hb hx => ?_, fun b o e n hb hx => ?_, I.base.free, fun b o e hx => ?_, I.base.tups, I.base.frzs, I.base.tbls⟩, ⟨m, hn.sameBut hs (Ne.symm (cne x c hc)), fun j y v' e1 e2 e3 => ?_⟩, fun y c' e => ?_, I.free, I.freeC, fun p hp => ?_, tracked ⟨oc, hoc, I.freeC x c hc⟩ hs, by simpa using I.len⟩ ⟨c, hs, .inr hc⟩
    · exact (hs.2 b (Nat.ne_of_lt (Nat.lt_of_lt_of_le (Heap.lt_size e) (I.ok.cab x c hfn hc)))).trans (I.base.keep b o e n hb hx)
    · obtain ⟨sl, e1⟩ := I.base.slot b o e n hb hx
      exact ⟨sl, (hs.2 b (Nat.ne_of_lt (Nat.lt_of_lt_of_le (Heap.lt_size e) (I.ok.cab x c hfn hc)))).trans e1⟩
    · obtain ⟨o', e1⟩ := I.base.there b o e hx
      exact ⟨o', (hs.2 b (Nat.ne_of_lt (Nat.lt_of_lt_of_le (Heap.lt_size e) (I.ok.cab x c hfn hc)))).trans e1⟩
    · by_cases hj : j = i
      · subst hj
        rw [hi] at e1; cases e1
        rw [List.getElem?_set_self hiσ] at e2
        cases e2
        exact ⟨u, r, .inr ⟨.inl hk, c, hc, hc'⟩⟩
      · rw [List.getElem?_set_ne (Ne.symm hj)] at e2
        obtain ⟨u', r', q⟩ := hl j y v' e1 e2 e3
        refine ⟨u', r', ?_⟩
        rcases q with q | ⟨k, c', e, z'⟩
        · exact .inl q
        · refine .inr ⟨k, c', e, z'.sameBut hs ?_⟩
          rintro rfl
          exact hj (nodup_ix hN e1 (I.ok.inj _ _ _ e hc ▸ hi))
    · by_cases hcc : c' = c
      · subst hcc; exact ⟨_, hc'⟩
      · obtain ⟨w2, z2⟩ := I.cell y c' e
        exact ⟨w2, z2.sameBut hs hcc⟩
    · obtain ⟨e, n, ne, nf, d⟩ := I.pin p hp
      refine ⟨(hs.2 p.1 ?_).trans e, n, ne, nf, d⟩
      intro q
      rw [q, hoc] at e
      have q' : oc = p.2 := Option.some.inj e
      exact d w' (by rw [← q']; exact hocd)
theorem store_ok {M : Model} {A : Around} {E : Value → Shared → Prop} {i : Nat} {x : Str} {v : V} {u : Value} {Q : Unit → Shared → Prop} (I : Inv X pins σ H s) (hN : X.N.Nodup) (hi : X.N[i]? = some x) (hx : Loc X.env.scope x) (r : RelV v u)
    (h : ∀ s', Inv X pins (σ.set i (some v)) H s' → Q () s') (hf : X.fn x = true ∨ X.env.scope.names.lookup x = some .local := by first | exact .inl rfl | exact .inr rfl | assumption) : wpAny M A (storeName X.env x u) Q E s :=
  store_ok2 I hN hi hx r (fun s' I' _ => h s' I') hf
/-- behind a call or a block, the state as it is -/
theorem Inv.call' {s' : Shared} {ch : List Addr} (I : Inv X pins σ H s) (ho : s'.os = s.os) (u : Un (frs X.stack) ch H H' s.heap s'.heap) (hok : HOk X.prog X.w H' s'.heap) (hg : AllBare s'.gens)
    (hch : ∀ b ∈ ch, (b ∈ X.ex ∨ X.s₀.heap.objs.size ≤ b) ∧ b ≠ X.env.locals ∧ (∀ x c, X.env.cells.lookup x = some c → c ≠ b) ∧ ∀ p ∈ X.pn ++ pins, p.1 ≠ b) : Inv X pins σ H' s' := by
  obtain ⟨h', g', d', t', o'⟩ := s'
  have e : o' = s.os := ho
  subst e
  exact I.call (g' := g') (t' := t') (d' := d') u hok hg hch
end

/-! ### the judgements -/
/-- an exception: its class, its own dict's address (where it has one), the abstract heap behind it -/
abbrev XK := Value → Option Addr → Hp → Prop
abbrev St := List (Option V)
abbrev VK := V → Hp → Prop
/-- an expression's reading; a test's; an argument list's -/
abbrev TE := St → Hp → VK → Prop
abbrev TT := St → Hp → (Bool → Hp → Prop) → Prop
abbrev TA := St → Hp → (List V → Hp → Prop) → Prop
/-- what is wanted behind a statement -/
structure Ends where
  nx : St → Hp → Prop
  rt : VK
  bk : St → Hp → Prop := fun _ _ => False
  ct : St → Hp → Prop := fun _ _ => False
abbrev TS := Ends → St → Hp → Prop

def EP (X : Cx) (pins : List (Addr × Obj)) (σ : St) (Q : VK) (u : Value) (s' : Shared) : Prop := ∃ v H', Inv X pins σ H' s' ∧ RelV v u ∧ Q v H'
def TP (X : Cx) (pins : List (Addr × Obj)) (σ : St) (Q : Bool → Hp → Prop) (b : Bool) (s' : Shared) : Prop := ∃ H', Inv X pins σ H' s' ∧ Q b H'
def AP (X : Cx) (pins : List (Addr × Obj)) (σ : St) (Q : List V → Hp → Prop) (us : List Value) (s' : Shared) : Prop := ∃ vs H', Inv X pins σ H' s' ∧ Vals vs us ∧ Q vs H'
def SP (X : Cx) (pins : List (Addr × Obj)) (D : Ends) (f : Flow) (s' : Shared) : Prop :=
  match f with
  | .next => ∃ σ' H', Inv X pins σ' H' s' ∧ D.nx σ' H'
  | .brk => ∃ σ' H', Inv X pins σ' H' s' ∧ D.bk σ' H'
  | .cont => ∃ σ' H', Inv X pins σ' H' s' ∧ D.ct σ' H'
  | .ret u => ∃ v σ' H', Inv X pins σ' H' s' ∧ RelV v u ∧ D.rt v H'

def PE (X : Cx) (e : Expr) (t : TE) : Prop :=
  ∀ (pins : List (Addr × Obj)) (s : Shared) (σ : St) (H : Hp) (Q : VK), Inv X pins σ H s → t σ H Q → wpAny (model X.prog X.w) X.A (eval e X.env) (EP X pins σ Q) X.xe s
def PT (X : Cx) (e : Expr) (t : TT) : Prop :=
  ∀ (pins : List (Addr × Obj)) (s : Shared) (σ : St) (H : Hp) (Q : Bool → Hp → Prop), Inv X pins σ H s → t σ H Q → wpAny (model X.prog X.w) X.A (isTrue e X.env (eval e X.env)) (TP X pins σ Q) X.xe s
/-- a test whatever its 'whole' is (and, or) -/
def PW (X : Cx) (e : Expr) (t : TT) : Prop :=
  ∀ (whole : Sem Value) (pins : List (Addr × Obj)) (s : Shared) (σ : St) (H : Hp) (Q : Bool → Hp → Prop), Inv X pins σ H s → t σ H Q → wpAny (model X.prog X.w) X.A (isTrue e X.env whole) (TP X pins σ Q) X.xe s
theorem PW.pt {X : Cx} {e : Expr} {t : TT} (h : PW X e t) : PT X e t := h _
/-- an argument list (no star), from the left -/
def PA (X : Cx) (es : List Expr) (t : TA) : Prop :=
  ∀ (pos : Pos) (pins : List (Addr × Obj)) (s : Shared) (σ : St) (H : Hp) (Q : List V → Hp → Prop), Inv X pins σ H s → t σ H Q → wpAny (model X.prog X.w) X.A (spliced (backTo pos (starEach es X.env))) (AP X pins σ Q) X.xe s
def PS (X : Cx) (st : Stmt) (t : TS) : Prop :=
  ∀ (pins : List (Addr × Obj)) (s : Shared) (σ : St) (H : Hp) (D : Ends), Inv X pins σ H s → t D σ H → wpAny (model X.prog X.w) X.A (exec st X.env) (SP X pins D) X.xe s
def PSs (X : Cx) (st : List Stmt) (t : TS) : Prop :=
  ∀ (pins : List (Addr × Obj)) (s : Shared) (σ : St) (H : Hp) (D : Ends), Inv X pins σ H s → t D σ H → wpAny (model X.prog X.w) X.A (execs st X.env) (SP X pins D) X.xe s
/-- weaken the end -/
theorem thn {α : Type} {t : Sem α} {Q Q' : α → Shared → Prop} {M : Model} {A : Around} {E : Value → Shared → Prop} {s : Shared} (h : wpAny M A t Q E s) (hQ : ∀ a s, Q a s → Q' a s) : wpAny M A t Q' E s := wpAny_mono h hQ fun _ _ x => x
end L2

namespace L2
open PySem PySem.Spec PyProof.Rows
section
variable {X : Cx}

/-- two expressions in a row -/
theorem bin {a b : Expr} {ta tb : TE} (ha : PE X a ta) (hb : PE X b tb) {pins : List (Addr × Obj)} {s : Shared} {σ : St} {H : Hp} {R : V → V → Hp → Prop} (I : Inv X pins σ H s) (h : ta σ H fun x H1 => tb σ H1 fun y H2 => R x y H2)
    {α : Type} {Q : α → Shared → Prop} {f : Value → Value → Sem α}
    (hf : ∀ v u s2 x y H2, Inv X pins σ H2 s2 → RelV x v → RelV y u → R x y H2 → wpAny (model X.prog X.w) X.A (f v u) Q X.xe s2) :
    wpAny (model X.prog X.w) X.A (eval a X.env) (fun v s₁ => wpAny (model X.prog X.w) X.A (eval b X.env) (fun u s₂ => wpAny (model X.prog X.w) X.A (f v u) Q X.xe s₂) X.xe s₁) X.xe s := by
  refine thn (ha pins s σ H _ I h) fun v s1 ⟨x, H1, I1, r1, q1⟩ => ?_
  refine thn (hb pins s1 σ H1 _ I1 q1) fun u s2 ⟨y, H2, I2, r2, q2⟩ => ?_
  exact hf v u s2 x y H2 I2 r1 r2 q2

/-! ### names and constants -/
def tVar (i : Nat) : TE := fun σ H Q => ∃ v, σ[i]? = some (some v) ∧ Q v H
def tC (v : V) : TE := fun _ H Q => Q v H
theorem pe_var {i : Nat} {x : Str} {pos : Pos} (hN : X.N[i]? = some x) (hv : Vis X.env.scope x) (hd : (x == ("__debug__" : Str)) = false := by decide) (hcd : (x == ("__classdict__" : Str)) = false := by decide) : PE X (.Name x pos) (tVar i) := by
  intro pins s σ H Q I h
  obtain ⟨v, e, h⟩ := h
  obtain ⟨m, hn, hl⟩ := I.loc
  obtain ⟨u, r, l⟩ := hl i x v hN e hv
  have fin : EP X pins σ Q u s := ⟨v, H, I, r, h⟩
  rcases l with ⟨hk, hm⟩ | ⟨hk, c, hc, hcell⟩
  · exact wpAny_Name (wpAny_loadName_local I.ok.kind hk hn hm fin) hd
  · rcases hk with hk | hk
    · exact wpAny_Name (wpAny_loadName_cell I.ok.kind hk hc hcell fin) hd
    · exact wpAny_Name (wpAny_loadName_free I.ok.kind hk hc hcell fin hcd) hd
theorem pe_int {i j pos} : PE X (.Constant (.int i) j pos) (tC (.int i)) := fun _ _ _ H _ I h => wpAny_Constant_int ⟨.int i, H, I.tok _, ⟨_, rfl⟩, h⟩
theorem pe_bl {b j pos} : PE X (.Constant (.bool b) j pos) (tC (.bl b)) := fun _ _ _ H _ I h => Constant_bool ⟨.bl b, H, I, rfl, h⟩
theorem pe_non {j pos} : PE X (.Constant .none j pos) (tC .non) := fun _ _ _ H _ I h => Constant_none ⟨.non, H, I, rfl, h⟩
theorem pe_str {x j pos} : PE X (.Constant (.str x) j pos) (tC (.str x)) := fun _ _ _ H _ I h => Calls.Constant_str ⟨.str x, H, I.tok _, ⟨_, rfl⟩, h⟩

/-- a global name of the def -/
def Gl (X : Cx) (x : Str) : Prop := X.env.kindOf x = some .globalImplicit
theorem ld_glob {E : Value → Shared → Prop} {pins : List (Addr × Obj)} {s : Shared} {σ : St} {H : Hp} {x : Str} {u : Value} {pos : Pos} {Q : Value → Shared → Prop} (I : Inv X pins σ H s) (hg : Gl X x) (hm : X.mg x = some u) (h : Q u s)
    (hd : (x == ("__debug__" : Str)) = false := by decide) : wpAny (model X.prog X.w) X.A (eval (.Name x pos) X.env) Q E s :=
  Calls.Name_function_global I.ok.kind hg (Calls.loadGlobal_global (by rw [I.ok.glob]; exact I.mod.glob.keeps I.bk) hm h) hd
theorem ld_blt {E : Value → Shared → Prop} {pins : List (Addr × Obj)} {s : Shared} {σ : St} {H : Hp} {x : Str} {u : Value} {pos : Pos} {Q : Value → Shared → Prop} (I : Inv X pins σ H s) (hg : Gl X x) (hm : X.mg x = none) (hv : bootBuiltins x = some u) (h : Q u s)
    (hn : x ≠ "__name__" := by decide) (hd : (x == ("__debug__" : Str)) = false := by decide) : wpAny (model X.prog X.w) X.A (eval (.Name x pos) X.env) Q E s := by
  obtain ⟨mb, h1, h2⟩ := I.mod.blt
  exact Calls.Name_function_global I.ok.kind hg (Calls.loadGlobal_builtin (by rw [I.ok.glob]; exact I.mod.glob.keeps I.bk) hm (by rw [I.ok.blt]; exact h1.keeps I.bk) ((h2 x hn).trans hv) h) hd
/-- a module's constant, a class, a function, as a value -/
theorem pe_glob {x : Str} {v : V} {u : Value} {pos : Pos} (hg : Gl X x) (hm : X.mg x = some u) (r : RelV v u) (hd : (x == ("__debug__" : Str)) = false := by decide) : PE X (.Name x pos) (tC v) :=
  fun _ _ _ H _ I h => ld_glob I hg hm ⟨v, H, I, r, h⟩ hd
theorem pe_bltn {x : Str} {v : V} {u : Value} {pos : Pos} (hg : Gl X x) (hm : X.mg x = none) (hv : bootBuiltins x = some u) (r : RelV v u) (hn : x ≠ "__name__" := by decide) (hd : (x == ("__debug__" : Str)) = false := by decide) : PE X (.Name x pos) (tC v) :=
  fun _ _ _ H _ I h => ld_blt I hg hm hv ⟨v, H, I, r, h⟩ hn hd

/-! ### arithmetic -/
/-- two ints -/
def t2I (ta tb : TE) (k : Int → Int → Hp → Prop) : St → Hp → Prop := fun σ H => ta σ H fun x H1 => tb σ H1 fun y H2 => ∃ i j, x = .int i ∧ y = .int j ∧ k i j H2
def tAdd (ta tb : TE) : TE := fun σ H Q => t2I ta tb (fun i j H2 => Q (.int (i + j)) H2) σ H
def tSub (ta tb : TE) : TE := fun σ H Q => t2I ta tb (fun i j H2 => Q (.int (i - j)) H2) σ H
/-- the left factor below 2^64 -/
def tMul (ta tb : TE) : TE := fun σ H Q => t2I ta tb (fun i j H2 => (-(2 ^ 64) < i ∧ i < 2 ^ 64) ∧ Q (.int (i * j)) H2) σ H
variable {a b : Expr} {ta tb : TE} {pos : Pos}
/-! ### comparisons -/
def PC (X : Cx) (op : CmpOp) (a b : Expr) (t : TE) : Prop :=
  ∀ (pins : List (Addr × Obj)) (s : Shared) (σ : St) (H : Hp) (Q : VK), Inv X pins σ H s → t σ H Q →
    wpAny (model X.prog X.w) X.A (eval a X.env) (fun v s₁ => wpAny (model X.prog X.w) X.A (eval b X.env) (fun u s₂ => wpAny (model X.prog X.w) X.A (compareOp op v u) (EP X pins σ Q) X.xe s₂) X.xe s₁) X.xe s
def tCmp (p : Int → Int → Bool) (ta tb : TE) : TE := fun σ H Q => t2I ta tb (fun i j H2 => Q (.bl (p i j)) H2) σ H
abbrev tLt : TE → TE → TE := tCmp fun i j => decide (i < j)
abbrev tLe : TE → TE → TE := tCmp fun i j => decide (i ≤ j)
abbrev tGt : TE → TE → TE := tCmp fun i j => decide (j < i)
abbrev tGe : TE → TE → TE := tCmp fun i j => decide (j ≤ i)
abbrev tEqI : TE → TE → TE := tCmp fun i j => decide (i = j)
abbrev tNeI : TE → TE → TE := tCmp fun i j => !decide (i = j)
/-- is None -/
def tIsN (ta : TE) : TE := fun σ H Q => ta σ H fun x H1 => Q (.bl (decide (x = .non))) H1
def tNotN (ta : TE) : TE := fun σ H Q => ta σ H fun x H1 => Q (.bl (!decide (x = .non))) H1
/-- a comparison as a value, as a test -/
def tB (t : TE) : TT := fun σ H Q => t σ H fun x H1 => ∃ c, x = .bl c ∧ Q c H1
theorem pt_cmp {op : CmpOp} {t : TE} (h : PC X op a b t) (h1 : behindInMarks op b = false := by first | exact nobehind _ (by decide) (by decide) | rfl) : PT X (.Compare a [op] [b] pos) (tB t) := by
  intro pins s σ H Q I hw
  refine wpAny_isTrue_Compare1 (thn (h pins s σ H _ I hw) fun v s1 h1 => thn h1 fun u s2 h2 => thn h2 fun c s3 ⟨x, H1, I1, r1, q1⟩ => ?_) h1
  obtain ⟨d, rfl, q⟩ := q1
  cases r1
  exact wpAny_truthy_bool ⟨H1, I1, q⟩
/-- an expression whose value is a bool, as a test -/
theorem pt_val {e : Expr} {t : TE} (h : PE X e t) (he : ∀ whole, isTrue e X.env whole = (do let v ← whole; standAt e.pos; holding [v] (truthy v)) := by intro _; rfl) : PT X e (tB t) := by
  intro pins s σ H Q I hw
  refine isTrue_plain (thn (h pins s σ H _ I hw) fun v s1 ⟨x, H1, I1, r1, q1⟩ => ?_) (he _)
  obtain ⟨d, rfl, q⟩ := q1
  cases r1
  exact wpAny_truthy_bool ⟨H1, I1, q⟩

/-! ### and, or, not -/
variable {tA tB' : TT} {rest : List Expr}
def tAnd (t u : TT) : TT := fun σ H Q => t σ H fun c H1 => if c = true then u σ H1 Q else Q false H1
def tOr (t u : TT) : TT := fun σ H Q => t σ H fun c H1 => if c = true then Q true H1 else u σ H1 Q
def tNot (t : TT) : TT := fun σ H Q => t σ H fun c H1 => Q (!c) H1
theorem pw_and1 (ha : PT X a tA) : PW X (.BoolOp .And [a] pos) tA := by
  intro wh pins s σ H Q I h
  refine isTrue_and (thn (ha pins s σ H Q I h) fun c s1 e => ?_)
  cases c with
  | true => exact isTrue_and_nil e
  | false => exact e
theorem pw_or1 (ha : PT X a tA) : PW X (.BoolOp .Or [a] pos) tA := by
  intro wh pins s σ H Q I h
  refine isTrue_or (thn (ha pins s σ H Q I h) fun c s1 e => ?_)
  cases c with
  | false => exact isTrue_or_nil e
  | true => exact e
theorem pw_and (ha : PT X a tA) (hb : PW X (.BoolOp .And (b :: rest) pos) tB') : PW X (.BoolOp .And (a :: b :: rest) pos) (tAnd tA tB') := by
  intro wh pins s σ H Q I h
  refine isTrue_and (thn (ha pins s σ H _ I h) fun c s1 ⟨H1, I1, q1⟩ => ?_)
  cases c with
  | true => exact hb wh pins s1 σ H1 Q I1 q1
  | false => exact ⟨H1, I1, q1⟩
theorem pw_or (ha : PT X a tA) (hb : PW X (.BoolOp .Or (b :: rest) pos) tB') : PW X (.BoolOp .Or (a :: b :: rest) pos) (tOr tA tB') := by
  intro wh pins s σ H Q I h
  refine isTrue_or (thn (ha pins s σ H _ I h) fun c s1 ⟨H1, I1, q1⟩ => ?_)
  cases c with
  | true => exact ⟨H1, I1, q1⟩
  | false => exact hb wh pins s1 σ H1 Q I1 q1
theorem pt_not (ha : PT X a tA) : PT X (.UnaryOp .Not a pos) (tNot tA) := by
  intro pins s σ H Q I h
  exact isTrue_not (ha pins s σ H (fun c H1 => Q (!c) H1) I h)
/-- .. as values (bools) -/
def tAndV (ta tb : TE) : TE := fun σ H Q => ta σ H fun x H1 => ∃ c, x = .bl c ∧ if c = true then tb σ H1 Q else Q (.bl false) H1
def tOrV (ta tb : TE) : TE := fun σ H Q => ta σ H fun x H1 => ∃ c, x = .bl c ∧ if c = true then Q (.bl true) H1 else tb σ H1 Q
def tNotV (ta : TE) : TE := fun σ H Q => ta σ H fun x H1 => ∃ c, x = .bl c ∧ Q (.bl (!c)) H1
theorem pe_one {op} {t : TE} (h : PE X a t) : PE X (.BoolOp op [a] pos) t := fun pins s σ H Q I hw => BoolOp_one (h pins s σ H Q I hw)
theorem pe_and (ha : PE X a ta) (hb : PE X (.BoolOp .And (b :: rest) pos) tb) : PE X (.BoolOp .And (a :: b :: rest) pos) (tAndV ta tb) := by
  intro pins s σ H Q I h
  refine BoolOp_and (thn (ha pins s σ H _ I h) fun v s1 ⟨x, H1, I1, r1, q1⟩ => ?_)
  obtain ⟨c, rfl, q1⟩ := q1
  cases r1
  refine wpAny_truthy_bool ?_
  cases c with
  | true => exact hb pins s1 σ H1 Q I1 q1
  | false => exact ⟨.bl false, H1, I1, rfl, q1⟩
theorem pe_not (ha : PE X a ta) : PE X (.UnaryOp .Not a pos) (tNotV ta) := by
  intro pins s σ H Q I h
  refine UnaryOp_ (thn (ha pins s σ H _ I h) fun v s1 ⟨x, H1, I1, r1, q1⟩ => ?_)
  obtain ⟨c, rfl, q1⟩ := q1
  cases r1
  exact not_of (wpAny_truthy_bool ⟨.bl (!c), H1, I1, rfl, q1⟩)
/-- a if t else b -/
def tIf (t : TT) (ta tb : TE) : TE := fun σ H Q => t σ H fun c H1 => if c = true then ta σ H1 Q else tb σ H1 Q
theorem pe_ifExp {c : Expr} (hc : PT X c tA) (ha : PE X a ta) (hb : PE X b tb) : PE X (.IfExp c a b pos) (tIf tA ta tb) := by
  intro pins s σ H Q I h
  refine wpAny_IfExp (thn (hc pins s σ H _ I h) fun d s1 ⟨H1, I1, q1⟩ => ?_)
  cases d with
  | true => exact ha pins s1 σ H1 Q I1 q1
  | false => exact hb pins s1 σ H1 Q I1 q1
end
end L2

namespace L2
open PySem PySem.Spec PyProof.Rows

/-! ### a list, a tuple that is read: tracked, frozen, or an object of the module -/
def SqL (K : PySem.W.Frag) (H : Hp) (a : Addr) (xs : List V) : Prop :=
  Rd H a (.lst xs) ∨
    ∃ (o : Obj) (its : Array Value) (n : Nat), K.lookup a = some o ∧ o.cls = .type "list" ∧ o.dict = none ∧ o.data = .seq its n ∧ its.size ≤ sizeLine ∧ Vals xs its.toList
def SqT (K : PySem.W.Frag) (H : Hp) (a : Addr) (xs : List V) : Prop :=
  Rd H a (.tup xs) ∨
    ∃ (o : Obj) (its : Array Value) (n : Nat), K.lookup a = some o ∧ o.cls = .type "tuple" ∧ o.data = .seq its n ∧ its.size ≤ sizeLine ∧ Vals xs its.toList
def absV : Value → Option V
  | .none => some .non
  | .bool b => some (.bl b)
  | .int i _ => some (.int i)
  | .str x _ => some (.str x)
  | .bytes b _ => some (.byt b)
  | .float b _ => some (.flt b)
  | .ref a => some (.ref a)
  | .type n => some (.ty n)
  | _ => none
theorem RelV.abs {x : V} {u : Value} (r : RelV x u) : absV u = some x := by
  cases x with
  | non => cases r; rfl
  | bl _ => cases r; rfl
  | int _ => obtain ⟨t, rfl⟩ := r; rfl
  | str _ => obtain ⟨t, rfl⟩ := r; rfl
  | byt _ => obtain ⟨t, rfl⟩ := r; rfl
  | flt _ => obtain ⟨t, rfl⟩ := r; rfl
  | ref _ => cases r; rfl
  | ty _ => cases r; rfl
theorem RelV.inj {x y : V} {u : Value} (r : RelV x u) (q : RelV y u) : x = y := Option.some.inj (r.abs.symm.trans q.abs)
theorem Vals.inj : ∀ {xs ys : List V} {us : List Value}, Vals xs us → Vals ys us → xs = ys
  | _, _, _, .nil, .nil => rfl
  | _, _, _, .cons r t, .cons r' t' => by rw [r.inj r', Vals.inj t t']
section
variable {X : Cx} {pins : List (Addr × Obj)} {σ : St} {H : Hp} {s : Shared} {a : Addr} {xs ys : List V}
theorem SqL.of {K : PySem.W.Frag} (h : H a = some (.lst xs)) : SqL K H a xs := .inl (.inl h)
theorem SqT.of {K : PySem.W.Frag} (h : H a = some (.tup xs)) : SqT K H a xs := .inl (.inl h)
theorem Inv.list (I : Inv X pins σ H s) (h : SqL X.K H a xs) : ∃ its : List Value, Vals xs its ∧ PlainL s.heap a its.toArray ∧ xs.length ≤ sizeLine := by
  rcases h with h | ⟨o, its, n, hk, hc, hd, hs, hz, r⟩
  · obtain ⟨z, its, n, r, e⟩ := h.ok I.hok
    exact ⟨its, r, ⟨_, n, e, rfl, rfl, rfl⟩, z⟩
  · refine ⟨its.toList, r, ⟨o, n, I.kIn a o hk, hc, hd, by simpa using hs⟩, ?_⟩
    have e := r.length
    simp only [Array.length_toList] at e
    omega
theorem Inv.tuple (I : Inv X pins σ H s) (h : SqT X.K H a xs) : ∃ its : List Value, Vals xs its ∧ IsTup s.heap a its.toArray ∧ xs.length ≤ sizeLine := by
  rcases h with h | ⟨o, its, n, hk, hc, hs, hz, r⟩
  · obtain ⟨z, its, r, p⟩ := h.ok I.hok
    exact ⟨its, r, p, z⟩
  · refine ⟨its.toList, r, ⟨o, I.kIn a o hk, hc, n, by simpa using hs⟩, ?_⟩
    have e := r.length
    simp only [Array.length_toList] at e
    omega
theorem Inv.list_inj (I : Inv X pins σ H s) (h : SqL X.K H a xs) (h' : SqL X.K H a ys) : xs = ys := by
  obtain ⟨its, r, ⟨o, n, e, _, _, d⟩, _⟩ := I.list h
  obtain ⟨its', r', ⟨o', n', e', _, _, d'⟩, _⟩ := I.list h'
  rw [e] at e'; cases e'
  rw [d] at d'
  injection d' with d1 _
  have : its = its' := by simpa using congrArg Array.toList d1
  subst this
  exact r.inj r'
end

/-! ### another wish about exceptions -/
abbrev Cx.wish (X : Cx) (E : Value → Shared → Prop) : Cx := { X with xe := E }
/-- no exception leaves -/
abbrev Cx.nox (X : Cx) : Cx := X.wish fun _ _ => False
theorem Cx.Ok.wish {X : Cx} (ok : X.Ok) (E : Value → Shared → Prop) : (X.wish E).Ok :=
  ⟨ok.mod, ok.kind, ok.glob, ok.blt, ok.above, ok.inj, ok.has, ok.cab, ok.hd, ok.frames, ok.stk, ok.exf, ok.bs, ok.bsz, ok.noex, ok.exfs, ok.funs, ok.frf⟩
theorem Cx.Ok.unwish {X : Cx} {E : Value → Shared → Prop} (ok : (X.wish E).Ok) : X.Ok :=
  ⟨ok.mod, ok.kind, ok.glob, ok.blt, ok.above, ok.inj, ok.has, ok.cab, ok.hd, ok.frames, ok.stk, ok.exf, ok.bs, ok.bsz, ok.noex, ok.exfs, ok.funs, ok.frf⟩
section
variable {X : Cx} {pins : List (Addr × Obj)} {σ : St} {H : Hp} {s : Shared} {E : Value → Shared → Prop}
theorem Inv.wish (I : Inv X pins σ H s) (E : Value → Shared → Prop) : Inv (X.wish E) pins σ H s := ⟨I.ok.wish E, I.os, I.bare, I.base, I.loc, I.cell, I.free, I.freeC, I.pin, I.hok, I.len⟩
theorem Inv.unwish (I : Inv (X.wish E) pins σ H s) : Inv X pins σ H s := ⟨I.ok.unwish, I.os, I.bare, I.base, I.loc, I.cell, I.free, I.freeC, I.pin, I.hok, I.len⟩
theorem SP.unwish {D : Ends} {f : Flow} {s' : Shared} (h : SP (X.wish E) pins D f s') : SP X pins D f s' := by
  cases f with
  | next => obtain ⟨σ', H', I, q⟩ := h; exact ⟨σ', H', I.unwish, q⟩
  | brk => obtain ⟨σ', H', I, q⟩ := h; exact ⟨σ', H', I.unwish, q⟩
  | cont => obtain ⟨σ', H', I, q⟩ := h; exact ⟨σ', H', I.unwish, q⟩
  | ret u => obtain ⟨v, σ', H', I, r, q⟩ := h; exact ⟨v, σ', H', I.unwish, r, q⟩
theorem PSs.nox {st : List Stmt} {t : TS} (h : PSs X.nox st t) : PSs X st t := fun pins s σ H D I hw =>
  wpAny_mono (h pins s σ H D (I.wish _) hw) (fun _ _ q => q.unwish) fun _ _ z => False.elim z
end

/-! ### blocks and small statements -/
section
variable {X : Cx} {st : Stmt} {rest : List Stmt} {t u : TS} {e : Expr} {te : TE} {pos : Pos}
def tNext : TS := fun D σ H => D.nx σ H
def tSeq (t u : TS) : TS := fun D σ H => t { D with nx := u D } σ H
theorem pss_nil : PSs X [] tNext := fun _ _ σ H _ I h => wpAny_execs_nil ⟨σ, H, I, h⟩
theorem pss_cons (h1 : PS X st t) (h2 : PSs X rest u) : PSs X (st :: rest) (tSeq t u) := by
  intro pins s σ H D I h
  refine wpAny_execs_cons (thn (h1 pins s σ H { D with nx := u D } I h) fun f s1 q => ?_)
  cases f with
  | next =>
    obtain ⟨σ', H', I', q⟩ := q
    exact h2 pins s1 σ' H' D I' q
  | ret v => exact q
  | brk => exact q
  | cont => exact q
theorem pss_one (h1 : PS X st t) : PSs X [st] t := by
  intro pins s σ H D I h
  refine wpAny_execs_cons (thn (h1 pins s σ H D I h) fun f s1 q => ?_)
  cases f with
  | next => exact wpAny_execs_nil q
  | ret v => exact q
  | brk => exact q
  | cont => exact q
def tBreak : TS := fun D σ H => D.bk σ H
def tCont : TS := fun D σ H => D.ct σ H
/-- in a def's body nothing is shown -/
theorem Inv.quiet {pins : List (Addr × Obj)} {σ : St} {H : Hp} {s : Shared} (I : Inv X pins σ H s) : interactive X.env = false := by simp [interactive, I.ok.kind]
/-- an expression whose value is dropped -/
def tDrop (te : TE) : TS := fun D σ H => te σ H fun _ H1 => D.nx σ H1
theorem ps_expr (he : PE X e te) (hs : swapsWith e none pos.line X.env = pure false := by rfl) : PS X (.Expr e pos) (tDrop te) := by
  intro pins s σ H D I h
  exact wpAny_Expr_any (thn (he pins s σ H _ I h) fun v s1 ⟨x, H1, I1, r1, q1⟩ => ⟨σ, H1, I1, q1⟩) I.quiet hs
def tRet (te : TE) : TS := fun D σ H => te σ H D.rt
theorem ps_ret (he : PE X e te) : PS X (.Return (some e) pos) (tRet te) := by
  intro pins s σ H D I h
  exact wpAny_Return_some (thn (he pins s σ H _ I h) fun v s1 ⟨x, H1, I1, r1, q1⟩ => ⟨x, σ, H1, I1, r1, q1⟩)
def tRetN : TS := fun D _ H => D.rt .non H
def tIfS (c : TT) (t u : TS) : TS := fun D σ H => c σ H fun b H1 => if b = true then t D σ H1 else u D σ H1
theorem ps_if {c : Expr} {a b : List Stmt} {tc : TT} (hc : PT X c tc) (ha : PSs X a t) (hb : PSs X b u) : PS X (.If c a b pos) (tIfS tc t u) := by
  intro pins s σ H D I h
  refine wpAny_If (thn (hc pins s σ H _ I h) fun d s1 ⟨H1, I1, q1⟩ => ?_)
  cases d with
  | true => exact ha pins s1 σ H1 D I1 q1
  | false => exact hb pins s1 σ H1 D I1 q1
/-- code that the proof never comes to -/
def tNever : TS := fun _ _ _ => False
theorem ps_never : PS X st tNever := fun _ _ _ _ _ _ h => h.elim
end

/-! ### targets -/
abbrev TG := V → St → Hp → (St → Hp → Prop) → Prop
abbrev TGs := List V → St → Hp → (St → Hp → Prop) → Prop
def PG (X : Cx) (target : Expr) (t : TG) : Prop :=
  ∀ (pins : List (Addr × Obj)) (s : Shared) (σ : St) (H : Hp) (v : V) (u : Value) (Q : St → Hp → Prop), Inv X pins σ H s → RelV v u → t v σ H Q →
    wpAny (model X.prog X.w) X.A (assign target X.env u) (fun _ s' => ∃ σ' H', Inv X pins σ' H' s' ∧ Q σ' H') X.xe s
/-- several targets, one after another -/
def PGs (X : Cx) (ts : List Expr) (t : TGs) : Prop :=
  ∀ (pins : List (Addr × Obj)) (s : Shared) (σ : St) (H : Hp) (vs : List V) (us : List Value) (Q : St → Hp → Prop), Inv X pins σ H s → Vals vs us → t vs σ H Q →
    wpAny (model X.prog X.w) X.A (assignInOrder ((assignEach ts X.env).map (·.2)) us) (fun _ s' => ∃ σ' H', Inv X pins σ' H' s' ∧ Q σ' H') X.xe s
/-- o[i] = v, by values -/
abbrev TSet := V → V → V → Hp → (Hp → Prop) → Prop
def PSet (X : Cx) (t : TSet) : Prop :=
  ∀ (pins : List (Addr × Obj)) (s : Shared) (σ : St) (H : Hp) (o i v : V) (ov iv u : Value) (Q : Hp → Prop), Inv X pins σ H s → RelV o ov → RelV i iv → RelV v u → t o i v H Q →
    wpAny (model X.prog X.w) X.A (setItem ov iv u) (fun _ s' => ∃ H', Inv X pins σ H' s' ∧ Q H') X.xe s
/-- a op= b, by values -/
abbrev TIp := V → V → Hp → VK → Prop
def PIp (X : Cx) (op : Operator) (t : TIp) : Prop :=
  ∀ (pins : List (Addr × Obj)) (s : Shared) (σ : St) (H : Hp) (x y : V) (v u : Value) (Q : VK), Inv X pins σ H s → RelV x v → RelV y u → t x y H Q →
    wpAny (model X.prog X.w) X.A (inplaceOp op v u) (EP X pins σ Q) X.xe s
section
variable {X : Cx} {pos : Pos}
def gName (i : Nat) : TG := fun v σ H Q => Q (σ.set i (some v)) H
theorem pg_name {i : Nat} {x : Str} (hN : X.N.Nodup) (hi : X.N[i]? = some x) (hx : Loc X.env.scope x) (hf : X.fn x = true ∨ X.env.scope.names.lookup x = some .local := by first | exact .inl rfl | exact .inr rfl | assumption) : PG X (.Name x pos) (gName i) := by
  intro pins s σ H v u Q I r h
  exact wpAny_assign_Name (store_ok I hN hi hx r (fun s' I' => ⟨_, H, I', h⟩) hf)
def gNil : TGs := fun vs σ H Q => vs = [] ∧ Q σ H
def gCons (t : TG) (u : TGs) : TGs := fun vs σ H Q => ∃ v r, vs = v :: r ∧ t v σ H fun σ' H' => u r σ' H' Q
/-- (a, b, ..) = a tuple of that length -/
def gTup (K : PySem.W.Frag) (n : Nat) (t : TGs) : TG := fun v σ H Q => ∃ a xs, v = .ref a ∧ SqT K H a xs ∧ xs.length = n ∧ t xs σ H Q
/-- o[i] = .. -/
def gSub (to ti : TE) (t : TSet) : TG := fun v σ H Q => to σ H fun o H1 => ti σ H1 fun i H2 => t o i v H2 fun H3 => Q σ H3
/-- target = value -/
def tAsg (te : TE) (g : TG) : TS := fun D σ H => te σ H fun x H1 => g x σ H1 D.nx
/-- name = value -/
theorem ps_set {i : Nat} {x : Str} {e : Expr} {te : TE} {pos' : Pos} (hN : X.N.Nodup) (hi : X.N[i]? = some x) (hx : Loc X.env.scope x) (he : PE X e te) (hs : swapsWith e (some (.Name x pos')) pos.line X.env = pure false := by rfl) (hf : X.fn x = true ∨ X.env.scope.names.lookup x = some .local := by first | exact .inl rfl | exact .inr rfl | assumption) :
    PS X (.Assign [.Name x pos'] e pos) (tAsg te (gName i)) := by
  intro pins s σ H D I h
  refine wpAny_Assign_Name (thn (he pins s σ H _ I h) fun v s1 ⟨y, H1, I1, r1, q1⟩ => ?_) hs
  exact store_ok I1 hN hi hx r1 (fun s2 I2 => ⟨_, H1, I2, q1⟩) hf
/-- a, b = x, y with plain local names: stored from the right; the pair itself is not tracked (the opening rows as in PyProof/Rows/TupAssign.lean:23) -/
def tPar (i j : Nat) (ta : TA) : TS := fun D σ H => ta σ H fun vs H1 => ∃ v w, vs = [v, w] ∧ D.nx ((σ.set i (some v)).set j (some w)) H1
/-- name op= e -/
def tAug (i : Nat) (te : TE) (ti : TIp) : TS := fun D σ H => ∃ x, σ[i]? = some (some x) ∧ te σ H fun y H1 => ti x y H1 fun z H2 => D.nx (σ.set i (some z)) H2
/-- o[i] op= e -/
def tAugS (to ti te : TE) (tget : V → V → Hp → VK → Prop) (tip : TIp) (tset : TSet) : TS := fun D σ H => to σ H fun o H1 => ti σ H1 fun i H2 => tget o i H2 fun x H3 => te σ H3 fun y H4 => tip x y H4 fun z H5 => tset o i z H5 fun H6 => D.nx σ H6
/-- o[i], by values -/
def PGet (X : Cx) (t : V → V → Hp → VK → Prop) : Prop :=
  ∀ (pins : List (Addr × Obj)) (s : Shared) (σ : St) (H : Hp) (o i : V) (ov iv : Value) (Q : VK), Inv X pins σ H s → RelV o ov → RelV i iv → t o i H Q →
    wpAny (model X.prog X.w) X.A (getItem ov iv) (EP X pins σ Q) X.xe s
/-- ints -/
def ipI (f : Int → Int → Int) : TIp := fun x y H Q => ∃ i j, x = .int i ∧ y = .int j ∧ Q (.int (f i j)) H
end

/-! ### while -/
section
variable {X : Cx} {pos : Pos}
/-- the invariant W with its measure -/
def tWhile (c : TT) (tb : TS) : TS := fun D σ H => ∃ W : Nat → St → Hp → Prop, (∃ m, W m σ H) ∧ ∀ m σ H, W m σ H →
  c σ H fun b H1 => if b = true then ∃ N : St → Hp → Prop, (∀ σ' H', N σ' H' → ∃ m', m' < m ∧ W m' σ' H') ∧ tb { D with nx := N, ct := N, bk := D.nx } σ H1 else D.nx σ H1
end

/-! ### what a loop or a comprehension walks -/
/-- at turn i: it yields x (the heap may grow), or it stops -/
structure It where
  go : Nat → Hp → Prop
  yld : Nat → Hp → V → Hp → Prop
  stop : Nat → Hp → Prop
/-- the iterator's own objects may turn: they are not the frame's, not pinned, younger than the entry (or a comprehension's own) -/
def FpOk (X : Cx) (pins : List (Addr × Obj)) (H : Hp) (b : Addr) : Prop :=
  H b = none ∧ b ≠ X.env.locals ∧ b ∉ X.fs ∧ (b ∈ X.ex ∨ X.s₀.heap.objs.size ≤ b) ∧ (∀ x c, X.env.cells.lookup x = some c → c ≠ b) ∧ ∀ p ∈ X.pn ++ pins, p.1 ≠ b
theorem Inv.fpOk {X : Cx} {pins : List (Addr × Obj)} {σ : St} {H H' : Hp} {s : Shared} {b : Addr} (I : Inv X pins σ H s) (hb : s.heap.objs.size ≤ b) (hn : H' b = none) : FpOk X pins H' b := by
  refine ⟨hn, Nat.ne_of_gt (Nat.lt_of_lt_of_le I.lt hb), I.nofs hb, .inr (Nat.le_trans I.sz hb), fun x c e z => ?_, fun p hp z => ?_⟩
  · obtain ⟨v, q⟩ := I.cell x c e
    exact absurd (Nat.lt_of_lt_of_le q.lt (by rw [z]; exact hb)) (Nat.lt_irrefl _)
  · exact absurd (Nat.lt_of_lt_of_le (Heap.lt_size (I.pin p hp).1) (by rw [z]; exact hb)) (Nat.lt_irrefl _)
structure Turn (P : Program) (w : World) (K : PySem.W.Frag) (tg : Expr) (J : It) (fp : List Addr) (it : Addr) (tn : Nat → Heap → Prop) : Prop where
  mem : it ∈ fp
  obj : ∀ i h, tn i h → ∀ b ∈ fp, ∃ o, h.get? b = some o ∧ ∀ v, o.data ≠ .cell v
  keep : ∀ i h h', tn i h → (∀ b ∈ fp, ∀ o, h.get? b = some o → h'.get? b = some o) → tn i h'
  item : ∀ (X : Cx), X.prog = P → X.w = w → X.K = K → X.calm = true → ∀ (i : Nat) (pins : List (Addr × Obj)) (s : Shared) (σ : St) (H : Hp) (E : Value → Shared → Prop), Inv X pins σ H s → (∀ b ∈ fp, FpOk X pins H b) → tn i s.heap → J.go i H →
    wpAny (model P w) X.A (pyNext (.ref it)) (fun r s1 => ∃ u, r = some u ∧
      wpAny (model P w) X.A (letOwnedTupleGo tg (.ref it) u) (fun _ s2 => ∃ x H', Inv X pins σ H' s2 ∧ RelV x u ∧ J.yld i H x H' ∧ tn (i + 1) s2.heap ∧ ∀ b ∈ fp, H' b = none) E s1) E s
  done : ∀ (X : Cx), X.prog = P → X.w = w → X.K = K → X.calm = true → ∀ (i : Nat) (pins : List (Addr × Obj)) (s : Shared) (σ : St) (H : Hp) (E : Value → Shared → Prop), Inv X pins σ H s → (∀ b ∈ fp, FpOk X pins H b) → tn i s.heap → J.stop i H →
    wpAny (model P w) X.A (pyNext (.ref it)) (fun r s1 => r = none ∧ Inv X pins σ H s1) E s
  self : ∀ (A : Around) (i : Nat) (s : Shared) (Q : Value → Shared → Prop) (E : Value → Shared → Prop), tn i s.heap → Q (.ref it) s → wpAny (model P w) A (pyIter (.ref it)) Q E s
abbrev TI := St → Hp → (It → Hp → Prop) → Prop
/-- an iterator has come -/
def PIE (X : Cx) (pins : List (Addr × Obj)) (σ : St) (tg : Expr) (R : It → Hp → Prop) (itv : Value) (s2 : Shared) : Prop :=
  ∃ (it : Addr) (fp : List Addr) (tn : Nat → Heap → Prop) (J : It) (H' : Hp), itv = .ref it ∧ Inv X pins σ H' s2 ∧ Turn X.prog X.w X.K tg J fp it tn ∧ tn 0 s2.heap ∧ (∀ b ∈ fp, FpOk X pins H' b) ∧ R J H'
def PI (X : Cx) (tg iter : Expr) (wi : TI) : Prop :=
  ∀ (pins : List (Addr × Obj)) (s : Shared) (σ : St) (H : Hp) (R : It → Hp → Prop), Inv X pins σ H s → wi σ H R →
    wpAny (model X.prog X.w) X.A (eval iter X.env) (fun v s1 => wpAny (model X.prog X.w) X.A (pyIter v) (PIE X pins σ tg R) X.xe s1) X.xe s

/-- the step ahead of the store is nothing for an iterator that keeps no tuple -/
theorem go_of {M : Model} {A : Around} {E : Value → Shared → Prop} {s : Shared} {tg : Expr} {it : Addr} {u : Value} {o : Obj} {n : String} {vs : Array Value} {Q : Unit → Shared → Prop} (ho : s.heap.get? it = some o) (hc : o.cls = .type n) (hd : o.data = .fields vs)
    (hn : ["enumerate", "zip", "dict_itemiterator", "dict_reverseitemiterator", "odict_iterator", "itertools.zip_longest", "itertools.pairwise"].contains n = false) (hQ : Q () s) : wpAny M A (letOwnedTupleGo tg (.ref it) u) Q E s := by
  unfold letOwnedTupleGo
  cases tg <;> first
    | exact wpAny_pure hQ
    | (cases u <;> first
        | exact wpAny_pure hQ
        | (refine wpAny_bind (wpAny_load ho ?_)
           rw [hc, hd]
           show wpAny M A (if (["enumerate", "zip", "dict_itemiterator", "dict_reverseitemiterator", "odict_iterator", "itertools.zip_longest", "itertools.pairwise"].contains n && vs[0]? == some (rawInt _)) = true then _ else _) Q E s
           rw [if_neg (by intro h; rw [hn, Bool.false_and] at h; cases h)]
           exact wpAny_pure hQ))

/-- the list at a, as it stands at each turn (a loop may append to it) -/
def Itl (K : PySem.W.Frag) (a : Addr) : It :=
  ⟨fun i H => ∃ xs x, SqL K H a xs ∧ xs[i]? = some x, fun i H x H' => H' = H ∧ ∀ xs, SqL K H a xs → xs[i]? = some x, fun i H => ∃ xs, SqL K H a xs ∧ xs.length ≤ i⟩
def Itt (K : PySem.W.Frag) (a : Addr) : It :=
  ⟨fun i H => ∃ xs x, SqT K H a xs ∧ xs[i]? = some x, fun i H x H' => H' = H ∧ ∀ xs, SqT K H a xs → xs[i]? = some x, fun i H => ∃ xs, SqT K H a xs ∧ xs.length ≤ i⟩
/-- lo, lo + 1, .. (n of them) -/
def Itr (lo : Int) (n : Nat) : It := ⟨fun i _ => i < n, fun i H x H' => H' = H ∧ x = .int (lo + i), fun i _ => n ≤ i⟩
theorem turn_list {P : Program} {w : World} {K : PySem.W.Frag} {tg : Expr} (a it : Addr) : Turn P w K tg (Itl K a) [it] it (fun i h => h.IsListIter it a i) where
  mem := by simp
  obj := fun i h st b hb => by
    have e : b = it := by simpa using hb
    subst e
    obtain ⟨o, e, c, d⟩ := st
    exact ⟨o, e, fun v z => by rw [d] at z; cases z⟩
  keep := fun i h h' st k => st.at fun o e => k it (by simp) o e
  item := by
    intro X hP hw hK hc i pins s σ H E I hf st hg
    subst hP hw hK
    obtain ⟨xs, x, hq, hx⟩ := hg
    obtain ⟨its, rv, p, hz⟩ := I.list hq
    obtain ⟨u, hu, ru⟩ := rv.get hx
    obtain ⟨f0, f1, f2, f3, f4, f5⟩ := hf it (by simp)
    refine wpAny_pyNext_list_item st p.isList (x := u) (by simpa using hu) fun h' st' sb => ?_
    have I1 : Inv X pins σ H { s with heap := h' } := I.turned (t' := s.toks) (fun b o hb e => (sb.2 b hb).trans e) f0 f1 f3 f4 f5
    obtain ⟨o, e, c, d⟩ := id st'
    exact ⟨u, rfl, go_of (s := { s with heap := h' }) e c d (by decide) ⟨x, H, I1, ru, ⟨rfl, fun ys hy => by rw [I.list_inj hy hq]; exact hx⟩, st', fun b hb => (hf b hb).1⟩⟩
  done := by
    intro X hP hw hK hc i pins s σ H E I hf st hg
    subst hP hw hK
    obtain ⟨xs, hq, hx⟩ := hg
    obtain ⟨its, rv, p, hz⟩ := I.list hq
    obtain ⟨f0, f1, f2, f3, f4, f5⟩ := hf it (by simp)
    have hl := rv.length
    exact wpAny_pyNext_list_end (I.ok.hd hc) st p.isList (by simp; omega) fun h' eb => ⟨rfl, I.turned (t' := s.toks) (fun b o hb e => eb b o hb e) f0 f1 f3 f4 f5⟩
  self := fun _ _ _ _ _ st h => wpAny_pyIter_listiter st h
theorem turn_range {P : Program} {w : World} {K : PySem.W.Frag} {tg : Expr} (it : Addr) (lo : Int) (n : Nat) : Turn P w K tg (Itr lo n) [it] it (fun i h => IsRangeIter h it (lo + (i : Nat) * 1) ((n : Int) - (i : Nat)) 1) where
  mem := by simp
  obj := fun i h st b hb => by
    have e : b = it := by simpa using hb
    subst e
    exact ⟨_, st, fun v z => by
      have z' : Data.fields _ = Data.cell v := z
      cases z'⟩
  keep := fun i h h' st k => k it (by simp) _ st
  item := by
    intro X hP hw hK hc i pins s σ H E I hf st hg
    subst hP hw hK
    obtain ⟨f0, f1, f2, f3, f4, f5⟩ := hf it (by simp)
    have W := Walks.range (prog := X.prog) (w := X.w) (I.ok.hd hc) it lo 1 n
    refine W.item i s _ _ hg st fun v h' tk hv st' kk => ?_
    obtain ⟨t, rfl⟩ := hv
    have I1 : Inv X pins σ H { s with heap := h', toks := tk } := I.turned (fun b o hb e => kk b o (by simpa using hb) e) f0 f1 f3 f4 f5
    refine ⟨_, rfl, go_of (s := { s with heap := h', toks := tk }) (n := "range_iterator") st' rfl rfl (by decide) ⟨.int (lo + i), H, I1, ⟨t, ?_⟩, ⟨rfl, rfl⟩, st', fun b hb => (hf b hb).1⟩⟩
    rw [Int.mul_one]
  done := by
    intro X hP hw hK hc i pins s σ H E I hf st hg
    subst hP hw hK
    obtain ⟨f0, f1, f2, f3, f4, f5⟩ := hf it (by simp)
    exact wpAny_pyNext_range_end (I.ok.hd hc) st (by have : n ≤ i := hg; omega) fun h' eb => ⟨rfl, I.turned (t' := s.toks) (fun b o hb e => eb b o hb e) f0 f1 f3 f4 f5⟩
  self := fun _ _ _ _ _ st h => wpAny_pyIter_rangeiter st h
end L2

namespace L2
open PySem PySem.Spec PyProof.Rows
section
variable {X : Cx} {tg : Expr}
def iList (K : PySem.W.Frag) (tl : TE) : TI := fun σ H R => tl σ H fun x H1 => ∃ a, x = .ref a ∧ (∃ xs, SqL K H1 a xs) ∧ R (Itl K a) H1
def iTup (K : PySem.W.Frag) (tl : TE) : TI := fun σ H R => tl σ H fun x H1 => ∃ a, x = .ref a ∧ (∃ xs, SqT K H1 a xs) ∧ R (Itt K a) H1
theorem pi_list {l : Expr} {tl : TE} (hl : PE X l tl) : PI X tg l (iList X.K tl) := by
  intro pins s σ H R I h
  refine thn (hl pins s σ H _ I h) fun v s1 ⟨x, H1, I1, r1, q1⟩ => ?_
  obtain ⟨a, e, ⟨xs, hq⟩, q⟩ := q1
  subst e
  cases r1
  obtain ⟨its, rv, p, hz⟩ := I1.list hq
  refine wpAny_pyIter_list p.isList ?_
  refine ⟨s1.heap.objs.size, [s1.heap.objs.size], _, _, H1, rfl, I1.kept (t' := s1.toks) fun b o e => Heap.get?_push_of_some _ e, turn_list a _, ⟨_, Heap.get?_push_size _ rfl, rfl, rfl⟩, fun b hb => ?_, q⟩
  have e : b = s1.heap.objs.size := by simpa using hb
  subst e
  exact I1.fpOk (Nat.le_refl _) (I1.hok.fresh (Nat.le_refl _))
/-- a range object just made, walked -/
theorem range_it {pins : List (Addr × Obj)} {σ : St} {H : Hp} {s : Shared} {R : It → Hp → Prop} {E : Value → Shared → Prop} {lo hi : Int} {t u v : Tok} {tk : Nat} (I : Inv X pins σ H s) (h1 : -(2 ^ 62) ≤ lo) (h2 : lo < 2 ^ 62) (h3 : -(2 ^ 62) ≤ hi) (h4 : hi < 2 ^ 62)
    (q : R (Itr lo (hi - lo).toNat) H) : wpAny (model X.prog X.w) X.A (pyIter (.ref s.heap.objs.size)) (PIE X pins σ tg R) E { s with heap := s.heap.push { cls := .type "range", data := .fields #[.int lo t, .int hi u, .int 1 v] }, toks := tk } := by
  refine wpAny_pyIter_range (IsRange.new ..) (small_one h1 h2 h3 h4) ?_
  have I1 : Inv X pins σ H { s with heap := s.heap.push { cls := .type "range", data := .fields #[.int lo t, .int hi u, .int 1 v] }, toks := tk } := I.kept fun b o e => Heap.get?_push_of_some _ e
  refine ⟨(s.heap.push { cls := .type "range", data := .fields #[.int lo t, .int hi u, .int 1 v] }).objs.size, [(s.heap.push { cls := .type "range", data := .fields #[.int lo t, .int hi u, .int 1 v] }).objs.size], _, _, H, rfl,
    I1.kept (t' := tk) fun b o e => Heap.get?_push_of_some _ e, turn_range _ lo (hi - lo).toNat, ?_, fun b hb => ?_, q⟩
  · have e1 : lo + ((0 : Nat) : Int) * 1 = lo := by simp
    have e2 : (((hi - lo).toNat : Nat) : Int) - ((0 : Nat) : Int) = Builtin.Range.rangeSize lo hi 1 := by rw [rangeSize_one]; split <;> omega
    show IsRangeIter _ _ (lo + ((0 : Nat) : Int) * 1) ((((hi - lo).toNat : Nat) : Int) - ((0 : Nat) : Int)) 1
    rw [e1, e2]
    exact Heap.get?_push_size _ rfl
  · have e : b = (s.heap.push { cls := .type "range", data := .fields #[.int lo t, .int hi u, .int 1 v] }).objs.size := by simpa using hb
    subst e
    exact I1.fpOk (Nat.le_refl _) (I1.hok.fresh (Nat.le_refl _))
def iRng1 (ta : TA) : TI := fun σ H R => ta σ H fun vs H1 => ∃ j : Int, vs = [.int j] ∧ -(2 ^ 62) ≤ j ∧ j < 2 ^ 62 ∧ R (Itr 0 j.toNat) H1
def iRng2 (ta : TA) : TI := fun σ H R => ta σ H fun vs H1 => ∃ i j : Int, vs = [.int i, .int j] ∧ (-(2 ^ 62) ≤ i ∧ i < 2 ^ 62 ∧ -(2 ^ 62) ≤ j ∧ j < 2 ^ 62) ∧ R (Itr i (j - i).toNat) H1
theorem pi_range1 {a : Expr} {ta : TA} {p pos : Pos} (hg : Gl X "range") (hm : X.mg "range" = none) (ha : PA X [a] ta) (hs : starEach [a] X.env = [(false, eval a X.env)] := by rfl) : PI X tg (.Call (.Name "range" p) [a] [] pos) (iRng1 ta) := by
  intro pins s σ H R I h
  refine Call_ (ld_blt I hg hm boot_range (PyProof.Rows.callWith_type1 (thn (ha pos pins s σ H _ I h) fun us s1 ⟨vs, H1, I1, r1, q1⟩ => ?_) hs rfl))
  obtain ⟨j, e, q1, q2, q⟩ := q1
  subst e
  cases r1 with
  | cons r rr =>
    cases rr
    obtain ⟨t, rfl⟩ := r
    exact call_range_1 (range_it I1 (by omega) (by omega) q1 q2 (by simpa using q))
theorem pi_range2 {a b : Expr} {ta : TA} {p pos : Pos} (hg : Gl X "range") (hm : X.mg "range" = none) (ha : PA X [a, b] ta) (hs : starEach [a, b] X.env = [(false, eval a X.env), (false, eval b X.env)] := by rfl) (hs2 : starEach [b] X.env = [(false, eval b X.env)] := by rfl) :
    PI X tg (.Call (.Name "range" p) [a, b] [] pos) (iRng2 ta) := by
  intro pins s σ H R I h
  refine Call_ (ld_blt I hg hm boot_range (PyProof.Rows.callWith_type1 (thn (ha pos pins s σ H _ I h) fun us s1 ⟨vs, H1, I1, r1, q1⟩ => ?_) (by rw [hs, hs2]) (by rw [hs2]; rfl)))
  obtain ⟨i, j, e, ⟨q1, q2, q3, q4⟩, q⟩ := q1
  subst e
  cases r1 with
  | cons r rr =>
    cases rr with
    | cons r' rr =>
      cases rr
      obtain ⟨t, rfl⟩ := r
      obtain ⟨t', rfl⟩ := r'
      exact call_range_2 (range_it I1 q1 q2 q3 q4 q)

/-! ### for -/
/-- W: the invariant by the turn and a measure; N: what the body is to reach -/
def tFor (wi : TI) (g : TG) (tb : TS) : TS := fun D σ H => wi σ H fun J H1 => ∃ W : Nat → Nat → St → Hp → Prop, (∃ m, W 0 m σ H1) ∧ ∀ i m σ H, W i m σ H →
  (J.stop i H ∧ D.nx σ H) ∨ (J.go i H ∧ ∃ N : St → Hp → Prop, (∀ σ' H', N σ' H' → ∃ m', m' < m ∧ W (i + 1) m' σ' H') ∧ ∀ x H', J.yld i H x H' → g x σ H' fun σ2 H2 => tb { D with nx := N, ct := N, bk := D.nx } σ2 H2)
/-- the records at fp as they stand -/
def pinsAt (fp : List Addr) (h : Heap) : List (Addr × Obj) := fp.filterMap fun b => (h.get? b).map fun o => (b, o)
theorem mem_pinsAt {fp : List Addr} {h : Heap} {b : Addr} {o : Obj} (hb : b ∈ fp) (e : h.get? b = some o) : (b, o) ∈ pinsAt fp h := List.mem_filterMap.mpr ⟨b, hb, by rw [e]; rfl⟩
theorem of_pinsAt {fp : List Addr} {h : Heap} {p : Addr × Obj} (hp : p ∈ pinsAt fp h) : p.1 ∈ fp ∧ h.get? p.1 = some p.2 := by
  obtain ⟨b, hb, e⟩ := List.mem_filterMap.mp hp
  cases q : h.get? b with
  | none => rw [q] at e; cases e
  | some o =>
    rw [q] at e
    have e' : (b, o) = p := Option.some.inj e
    subst e'
    exact ⟨hb, q⟩
theorem Inv.pinned {pins : List (Addr × Obj)} {σ : St} {H : Hp} {s : Shared} {fp : List Addr} (I : Inv X pins σ H s) (hf : ∀ b ∈ fp, FpOk X pins H b) (ho : ∀ b ∈ fp, ∃ o, s.heap.get? b = some o ∧ ∀ v, o.data ≠ .cell v) : Inv X (pins ++ pinsAt fp s.heap) σ H s :=
  I.pins_of fun p hp => (List.mem_append.mp hp).elim (fun z => I.pin p (List.mem_append_right _ z)) fun z => by
    obtain ⟨hb, e⟩ := of_pinsAt z
    obtain ⟨f0, f1, f2, _⟩ := hf p.1 hb
    obtain ⟨o, e', d⟩ := ho p.1 hb
    rw [e] at e'; cases e'
    exact ⟨e, f0, f1, f2, d⟩
theorem Inv.unpinned {pins pl : List (Addr × Obj)} {σ : St} {H : Hp} {s : Shared} (I : Inv X (pins ++ pl) σ H s) : Inv X pins σ H s := I.pins_of fun p hp => I.pin p (List.mem_append_right _ (List.mem_append_left _ hp))
theorem ps_for {iter : Expr} {body : List Stmt} {wi : TI} {g : TG} {tb : TS} {pos : Pos} (hp : PassesOwn (model X.prog X.w) X.A X.env X.xe) (hc : X.calm = true) (hi : PI X tg iter wi) (hg : PG X tg g) (hb : PSs X body tb)
    (hs : ∀ x, foldedSetIterable iter X.env x = pure x := by intro _; rfl) : PS X (.For tg iter body [] pos) (tFor wi g tb) := by
  intro pins s σ H D I h
  refine wpAny_For (thn (hi pins s σ H _ I h) fun v s1 h1 => thn h1 fun itv s2 h2 => ?_) hs
  obtain ⟨it, fp, tn, J, H2, e, I2, T, st2, f2, W, ⟨m0, w0⟩, turn⟩ := h2
  subst e
  -- what stays true of the iterator's objects through the loop
  have stat : ∀ {H' : Hp}, (∀ b ∈ fp, H' b = none) → ∀ b ∈ fp, FpOk X pins H' b := fun hn b hb => ⟨hn b hb, (f2 b hb).2⟩
  refine codeAny_forLoop_any (fun n s' => ∃ i σ' H', Inv X pins σ' H' s' ∧ tn i s'.heap ∧ (∀ b ∈ fp, H' b = none) ∧ W i n σ' H') ?_ m0 ⟨0, σ, H2, I2, st2, fun b hb => (f2 b hb).1, w0⟩
  rintro n s3 ⟨i, σ3, H3, I3, st3, fr3, w3⟩
  rcases turn i n σ3 H3 w3 with ⟨stop, qn⟩ | ⟨go, N, hN, step⟩
  · refine wpAny_passesOwn hp (thn (T.done X rfl rfl rfl hc i pins s3 σ3 H3 X.xe I3 (stat fr3) st3 stop) fun r s4 ⟨hr, I4⟩ => ?_)
    subst hr
    exact wpAny_execs_nil ⟨σ3, H3, I4, qn⟩
  · refine wpAny_passesOwn hp (thn (T.item X rfl rfl rfl hc i pins s3 σ3 H3 X.xe I3 (stat fr3) st3 go) fun r s4 ⟨u, hr, h4⟩ => ?_)
    subst hr
    refine wpAny_passesOwn hp (thn h4 fun _ s5 ⟨x, H5, I5, r5, y5, st5, fr5⟩ => ?_)
    have I5' := I5.pinned (stat fr5) (T.obj _ _ st5)
    refine wpAny_passesOwn hp (thn (hg _ s5 σ3 H5 x u _ I5' r5 (step x H5 y5)) fun _ s6 ⟨σ6, H6, I6, q6⟩ => ?_)
    refine wpAny_passesOwn hp (thn (hb _ s6 σ6 H6 _ I6 q6) fun f s7 q7 => ?_)
    have again : ∀ {σ7 : St} {H7 : Hp}, Inv X (pins ++ pinsAt fp s5.heap) σ7 H7 s7 → N σ7 H7 → ∃ m, m < n ∧ ∃ i σ' H', Inv X pins σ' H' s7 ∧ tn i s7.heap ∧ (∀ b ∈ fp, H' b = none) ∧ W i m σ' H' := fun {σ7 H7} I7 n7 => by
      obtain ⟨m', hm, w7⟩ := hN σ7 H7 n7
      refine ⟨m', hm, i + 1, σ7, H7, I7.unpinned, T.keep _ _ _ st5 fun b hb o e => (I7.pin (b, o) (List.mem_append_right _ (List.mem_append_right _ (mem_pinsAt hb e)))).1, fun b hb => ?_, w7⟩
      obtain ⟨o, e, d⟩ := T.obj _ _ st5 b hb
      exact (I7.pin (b, o) (List.mem_append_right _ (List.mem_append_right _ (mem_pinsAt hb e)))).2.1
    cases f with
    | next => obtain ⟨σ7, H7, I7, n7⟩ := q7; exact again I7 n7
    | cont => obtain ⟨σ7, H7, I7, n7⟩ := q7; exact again I7 n7
    | brk => obtain ⟨σ7, H7, I7, q7⟩ := q7; exact ⟨σ7, H7, I7.unpinned, q7⟩
    | ret v => obtain ⟨x7, σ7, H7, I7, r7, q7⟩ := q7; exact ⟨x7, σ7, H7, I7.unpinned, r7, q7⟩
end

/-! ### the forms one uses -/
/-- over a list that the body leaves as it is -/
theorem for_list {K : PySem.W.Frag} {a : Addr} {xs : List V} {g : TG} {tb : TS} {D : Ends} {σ : St} {H : Hp} (Pv : Nat → St → Hp → Prop) (h0 : Pv 0 σ H) (hl : ∀ i σ H, i ≤ xs.length → Pv i σ H → SqL K H a xs)
    (hs : ∀ i x σ H, xs[i]? = some x → Pv i σ H → g x σ H fun σ2 H2 => tb { D with nx := Pv (i + 1), ct := Pv (i + 1), bk := D.nx } σ2 H2) (hd : ∀ σ H, Pv xs.length σ H → D.nx σ H) :
    ∃ W : Nat → Nat → St → Hp → Prop, (∃ m, W 0 m σ H) ∧ ∀ i m σ H, W i m σ H →
      ((Itl K a).stop i H ∧ D.nx σ H) ∨ ((Itl K a).go i H ∧ ∃ N : St → Hp → Prop, (∀ σ' H', N σ' H' → ∃ m', m' < m ∧ W (i + 1) m' σ' H') ∧ ∀ x H', (Itl K a).yld i H x H' → g x σ H' fun σ2 H2 => tb { D with nx := N, ct := N, bk := D.nx } σ2 H2) := by
  refine ⟨fun i m σ H => m = xs.length - i ∧ i ≤ xs.length ∧ Pv i σ H, ⟨xs.length, by simp, Nat.zero_le _, h0⟩, ?_⟩
  rintro i m σ H ⟨rfl, hi, p⟩
  have q := hl i σ H hi p
  by_cases hlt : i < xs.length
  · refine .inr ⟨⟨xs, xs[i], q, by simp [hlt]⟩, Pv (i + 1), fun σ' H' p' => ⟨xs.length - (i + 1), by omega, rfl, hlt, p'⟩, fun x H' y => ?_⟩
    obtain ⟨e, y⟩ := y
    subst e
    exact hs i x σ _ (y xs q) p
  · have e : i = xs.length := by omega
    subst e
    exact .inl ⟨⟨xs, q, Nat.le_refl _⟩, hd σ H p⟩
theorem for_range {lo : Int} {n : Nat} {g : TG} {tb : TS} {D : Ends} {σ : St} {H : Hp} (Pv : Nat → St → Hp → Prop) (h0 : Pv 0 σ H)
    (hs : ∀ i σ H, i < n → Pv i σ H → g (.int (lo + i)) σ H fun σ2 H2 => tb { D with nx := Pv (i + 1), ct := Pv (i + 1), bk := D.nx } σ2 H2) (hd : ∀ σ H, Pv n σ H → D.nx σ H) :
    ∃ W : Nat → Nat → St → Hp → Prop, (∃ m, W 0 m σ H) ∧ ∀ i m σ H, W i m σ H →
      ((Itr lo n).stop i H ∧ D.nx σ H) ∨ ((Itr lo n).go i H ∧ ∃ N : St → Hp → Prop, (∀ σ' H', N σ' H' → ∃ m', m' < m ∧ W (i + 1) m' σ' H') ∧ ∀ x H', (Itr lo n).yld i H x H' → g x σ H' fun σ2 H2 => tb { D with nx := N, ct := N, bk := D.nx } σ2 H2) := by
  refine ⟨fun i m σ H => m = n - i ∧ i ≤ n ∧ Pv i σ H, ⟨n, by simp, Nat.zero_le _, h0⟩, ?_⟩
  rintro i m σ H ⟨rfl, hi, p⟩
  by_cases hlt : i < n
  · refine .inr ⟨hlt, Pv (i + 1), fun σ' H' p' => ⟨n - (i + 1), by omega, rfl, hlt, p'⟩, fun x H' y => ?_⟩
    obtain ⟨e, y⟩ := y
    subst e y
    exact hs i σ _ hlt p
  · have e : i = n := by omega
    subst e
    exact .inl ⟨Nat.le_refl _, hd σ H p⟩
end L2

namespace L2
open PySem PySem.Spec PyProof.Rows

abbrev R2 := V → V → Hp → VK → Prop
/-- a two-place operation on values: f is binaryOp op, inplaceOp op or compareOp op -/
def OpR (X : Cx) (f : Value → Value → Sem Value) (r : R2) : Prop :=
  ∀ (pins : List (Addr × Obj)) (s : Shared) (σ : St) (H : Hp) (x y : V) (v u : Value) (Q : VK), Inv X pins σ H s → RelV x v → RelV y u → r x y H Q →
    wpAny (model X.prog X.w) X.A (f v u) (EP X pins σ Q) X.xe s
/-- a one-place operation -/
def UnR (X : Cx) (f : Value → Sem Value) (r : V → Hp → VK → Prop) : Prop :=
  ∀ (pins : List (Addr × Obj)) (s : Shared) (σ : St) (H : Hp) (x : V) (v : Value) (Q : VK), Inv X pins σ H s → RelV x v → r x H Q →
    wpAny (model X.prog X.w) X.A (f v) (EP X pins σ Q) X.xe s
/-- a call of a value that is known (a builtin, a type) with values -/
def CallR (X : Cx) (f : Value) (r : List V → Hp → VK → Prop) : Prop :=
  ∀ (pins : List (Addr × Obj)) (s : Shared) (σ : St) (H : Hp) (xs : List V) (us : List Value) (Q : VK), Inv X pins σ H s → Vals xs us → r xs H Q →
    wpAny (model X.prog X.w) X.A (call f us) (EP X pins σ Q) X.xe s
/-- a value's truth -/
def TruR (X : Cx) (r : V → Hp → (Bool → Hp → Prop) → Prop) : Prop :=
  ∀ (pins : List (Addr × Obj)) (s : Shared) (σ : St) (H : Hp) (x : V) (v : Value) (Q : Bool → Hp → Prop), Inv X pins σ H s → RelV x v → r x H Q →
    wpAny (model X.prog X.w) X.A (truthy v) (TP X pins σ Q) X.xe s

def tOp (r : R2) (ta tb : TE) : TE := fun σ H Q => ta σ H fun x H1 => tb σ H1 fun y H2 => r x y H2 Q
def tUn (r : V → Hp → VK → Prop) (ta : TE) : TE := fun σ H Q => ta σ H fun x H1 => r x H1 Q
/-- ints in, under C, and a value out -/
def rI (C : Int → Int → Prop) (g : Int → Int → V) : R2 := fun x y H Q => ∃ i j, x = .int i ∧ y = .int j ∧ C i j ∧ Q (g i j) H
def rI0 (g : Int → Int → V) : R2 := fun x y H Q => ∃ i j, x = .int i ∧ y = .int j ∧ Q (g i j) H
def rU (g : Int → V) : V → Hp → VK → Prop := fun x H Q => ∃ i, x = .int i ∧ Q (g i) H

section
variable {X : Cx} {a b c : Expr} {ta tb tc : TE} {pos : Pos}

theorem binT (ha : PE X a ta) (hb : PE X b tb) {pins : List (Addr × Obj)} {s : Shared} {σ : St} {H : Hp} {R : V → V → Hp → Prop} (I : Inv X pins σ H s)
    (h : ta σ H fun x H1 => tb σ H1 fun y H2 => R x y H2) {Q : Value → Shared → Prop} {f : Value → Value → Sem Value}
    (hf : ∀ v u s2 x y H2, Inv X pins σ H2 s2 → RelV x v → RelV y u → R x y H2 → wpAny (model X.prog X.w) X.A (f v u) Q X.xe s2) :
    wpAny (model X.prog X.w) X.A (eval a X.env) (fun v s₁ => wpAny (model X.prog X.w) X.A (eval b X.env) (fun u s₂ => wpAny (model X.prog X.w) X.A (f v u) Q X.xe s₂) X.xe s₁) X.xe s := by
  refine thn (ha pins s σ H _ I h) fun v s1 ⟨x, H1, I1, r1, q1⟩ => ?_
  refine thn (hb pins s1 σ H1 _ I1 q1) fun u s2 ⟨y, H2, I2, r2, q2⟩ => ?_
  exact hf v u s2 x y H2 I2 r1 r2 q2

theorem pe_op {op : Operator} {r : R2} (ho : OpR X (binaryOp op) r) (ha : PE X a ta) (hb : PE X b tb) : PE X (.BinOp a op b pos) (tOp r ta tb) := by
  intro pins s σ H Q I h
  exact wpAny_BinOp (binT ha hb I h fun v u s2 x y H2 I2 rx ry q => ho pins s2 σ H2 x y v u Q I2 rx ry q)
theorem pe_un {op : UnaryOp} {r : V → Hp → VK → Prop} (ho : UnR X (unaryOp op) r) (ha : PE X a ta) : PE X (.UnaryOp op a pos) (tUn r ta) := by
  intro pins s σ H Q I h
  exact UnaryOp_ (thn (ha pins s σ H _ I h) fun v s1 ⟨x, H1, I1, r1, q1⟩ => ho pins s1 σ H1 x v Q I1 r1 q1)
/-! ### ints -/
theorem opI {f : Value → Value → Sem Value} {C : Int → Int → Prop} {g : Int → Int → Int}
    (rule : ∀ (i j : Int) (t u : Tok) (s : Shared) (Q : Value → Shared → Prop) (E : Value → Shared → Prop), C i j → Q (.int (g i j) s.toks) { s with toks := s.toks + 1 } → wpAny (model X.prog X.w) X.A (f (.int i t) (.int j u)) Q E s) :
    OpR X f (rI C fun i j => .int (g i j)) := by
  intro pins s σ H x y v u Q I rx ry h
  obtain ⟨i, j, rfl, rfl, hc, q⟩ := h
  obtain ⟨t, rfl⟩ := rx
  obtain ⟨t', rfl⟩ := ry
  exact rule i j t t' s _ _ hc ⟨.int (g i j), H, I.tok _, ⟨_, rfl⟩, q⟩
theorem opI0 {f : Value → Value → Sem Value} {g : Int → Int → Int}
    (rule : ∀ (i j : Int) (t u : Tok) (s : Shared) (Q : Value → Shared → Prop) (E : Value → Shared → Prop), Q (.int (g i j) s.toks) { s with toks := s.toks + 1 } → wpAny (model X.prog X.w) X.A (f (.int i t) (.int j u)) Q E s) :
    OpR X f (rI0 fun i j => .int (g i j)) := by
  intro pins s σ H x y v u Q I rx ry h
  obtain ⟨i, j, rfl, rfl, q⟩ := h
  obtain ⟨t, rfl⟩ := rx
  obtain ⟨t', rfl⟩ := ry
  exact rule i j t t' s _ _ ⟨.int (g i j), H, I.tok _, ⟨_, rfl⟩, q⟩
theorem opB0 {f : Value → Value → Sem Value} {g : Int → Int → Bool}
    (rule : ∀ (i j : Int) (t u : Tok) (s : Shared) (Q : Value → Shared → Prop) (E : Value → Shared → Prop), Q (.bool (g i j)) s → wpAny (model X.prog X.w) X.A (f (.int i t) (.int j u)) Q E s) :
    OpR X f (rI0 fun i j => .bl (g i j)) := by
  intro pins s σ H x y v u Q I rx ry h
  obtain ⟨i, j, rfl, rfl, q⟩ := h
  obtain ⟨t, rfl⟩ := rx
  obtain ⟨t', rfl⟩ := ry
  exact rule i j t t' s _ _ ⟨.bl (g i j), H, I, rfl, q⟩

def CDiv (i j : Int) : Prop := 0 < j ∧ j < 1073741824
def CDivN (i j : Int) : Prop := j ≠ 0 ∧ j.natAbs < 1073741824
def CPow (i j : Int) : Prop := 0 ≤ j ∧ j ≤ 1000000 ∧ i.natAbs < 2 ^ 64
def CMul (i j : Int) : Prop := (-(2 ^ 64) < i ∧ i < 2 ^ 64) ∨ (-(2 ^ 64) < j ∧ j < 2 ^ 64)
theorem CMul.ok {i j : Int} (h : CMul i j) : IntMulOk i j := by
  rcases h with ⟨h1, h2⟩ | ⟨h1, h2⟩
  · exact .of_left (intBits_le_64 h1 h2)
  · exact .of_right (intBits_le_64 h1 h2)
theorem two_pow_nn (k : Nat) : (0 : Int) ≤ 2 ^ k := by
  rw [two_pow_cast]
  exact Int.natCast_nonneg _

theorem op_add : OpR X (binaryOp .Add) (rI0 fun i j => .int (i + j)) := opI0 fun _ _ _ _ _ _ _ q => add_int q
theorem op_sub : OpR X (binaryOp .Sub) (rI0 fun i j => .int (i - j)) := opI0 fun _ _ _ _ _ _ _ q => sub_int q
theorem op_mul : OpR X (binaryOp .Mult) (rI CMul fun i j => .int (i * j)) := opI fun _ _ _ _ _ _ _ hc q => mul_int q hc.ok
/-- // by a positive divisor -/
theorem op_fdiv : OpR X (binaryOp .FloorDiv) (rI CDiv fun i j => .int (i / j)) := opI fun i j _ _ _ _ _ hc q => by
  have h1 : (0 : Int) < j := hc.1
  have h2 : j < 1073741824 := hc.2
  exact floordiv_int (by omega) (by rw [Int.fdiv_eq_ediv_of_nonneg i (by omega)]; exact q) (.inl (PyProof.noPylong_small (by omega)))
/-- % by a positive divisor of any size -/
theorem op_mod : OpR X (binaryOp .Mod) (rI (fun _ j => 0 < j) fun i j => .int (i % j)) := opI fun i j _ _ _ _ _ hc q => by
  have h1 : (0 : Int) < j := hc
  exact mod_int' (by omega) (by rw [Int.fmod_eq_emod_of_nonneg i (by omega)]; exact q)
theorem op_shl : OpR X (binaryOp .LShift) (rI CPow fun i j => .int (i * 2 ^ j.toNat)) := opI fun _ _ _ _ _ _ _ hc q => lshift_int_small hc.1 hc.2.1 hc.2.2 q
theorem op_shr : OpR X (binaryOp .RShift) (rI (fun _ j => 0 ≤ j) fun i j => .int (i / 2 ^ j.toNat)) := opI fun i j _ _ _ _ _ hc q =>
  rshift_int hc (by rw [Int.fdiv_eq_ediv_of_nonneg i (two_pow_nn _)]; exact q)
theorem op_and : OpR X (binaryOp .BitAnd) (rI0 fun i j => .int (Builtin.bitAnd i j)) := opI0 fun _ _ _ _ _ _ _ q => and_int q
theorem op_or : OpR X (binaryOp .BitOr) (rI0 fun i j => .int (Builtin.bitOr i j)) := opI0 fun _ _ _ _ _ _ _ q => or_int q
theorem unI {f : Value → Sem Value} {g : Int → Int}
    (rule : ∀ (i : Int) (t : Tok) (s : Shared) (Q : Value → Shared → Prop) (E : Value → Shared → Prop), Q (.int (g i) s.toks) { s with toks := s.toks + 1 } → wpAny (model X.prog X.w) X.A (f (.int i t)) Q E s) :
    UnR X f (rU fun i => .int (g i)) := by
  intro pins s σ H x v Q I rx h
  obtain ⟨i, rfl, q⟩ := h
  obtain ⟨t, rfl⟩ := rx
  exact rule i t s _ _ ⟨.int (g i), H, I.tok _, ⟨_, rfl⟩, q⟩
theorem un_neg : UnR X (unaryOp .USub) (rU fun i => .int (-i)) := unI fun _ _ _ _ _ q => neg_int q
/-! ### bools among ints: n += (a < b) -/
end

/-! ### comparisons -/
/-- the scalars that == tells apart as data does -/
def scal : V → V → Bool
  | .non, .non => true | .non, .int _ => true | .int _, .non => true | .non, .bl _ => true | .bl _, .non => true | .non, .str _ => true | .str _, .non => true
  | .int _, .int _ => true | .bl _, .bl _ => true | .str _, .str _ => true | .byt _, .byt _ => true
  | .int _, .str _ => true | .str _, .int _ => true | .bl _, .str _ => true | .str _, .bl _ => true
  | _, _ => false
def rEq : R2 := fun x y H Q => scal x y = true ∧ Q (.bl (decide (x = y))) H
def rNe : R2 := fun x y H Q => scal x y = true ∧ Q (.bl (!decide (x = y))) H

theorem dec_int {i j : Int} : decide (V.int i = V.int j) = (i == j) := by
  rw [Bool.eq_iff_iff]
  simp
theorem dec_bl {i j : Bool} : decide (V.bl i = V.bl j) = (i == j) := by
  rw [Bool.eq_iff_iff]
  simp
theorem dec_str {i j : Str} : decide (V.str i = V.str j) = (i == j) := by
  rw [Bool.eq_iff_iff]
  simp
theorem dec_byt {i j : Array UInt8} : decide (V.byt i = V.byt j) = (i.toList == j.toList) := by
  rw [Bool.eq_iff_iff]
  cases i
  cases j
  simp

section
variable {X : Cx} {a b c : Expr} {ta tb tc : TE} {pos : Pos}
theorem fin_bl {pins : List (Addr × Obj)} {σ : St} {H : Hp} {s : Shared} {Q : VK} {k k' : Bool} (I : Inv X pins σ H s) (q : Q (.bl k) H) (e : k = k') : EP X pins σ Q (.bool k') s := by
  subst e
  exact ⟨.bl k, H, I, rfl, q⟩
theorem op_eq : OpR X (compareOp .Eq) rEq := by
  intro pins s σ H x y v u Q I rx ry h
  obtain ⟨hs, q⟩ := h
  cases x with
  | non =>
    cases rx
    cases y with
    | non => cases ry; exact PySem.EqNone.eq_none_none (fin_bl I q (by simp))
    | bl j => cases ry; exact PySem.EqNone.eq_none_bool (fin_bl I q (by simp))
    | int j => obtain ⟨t', rfl⟩ := ry; exact PySem.EqNone.eq_none_int (fin_bl I q (by simp))
    | str j => obtain ⟨t', rfl⟩ := ry; exact PySem.EqNone.eq_none_str (fin_bl I q (by simp))
    | _ => exact absurd (show false = true from hs) Bool.false_ne_true
  | bl i =>
    cases rx
    cases y with
    | non => cases ry; exact PySem.EqNone.eq_bool_none (fin_bl I q (by simp))
    | bl j => cases ry; exact eq_bool (fin_bl I q dec_bl)
    | str j => obtain ⟨t', rfl⟩ := ry; exact PySem.EqMixed.eq_bool_str (fin_bl I q (by simp))
    | _ => exact absurd (show false = true from hs) Bool.false_ne_true
  | int i =>
    obtain ⟨t, rfl⟩ := rx
    cases y with
    | non => cases ry; exact PySem.EqNone.eq_int_none (fin_bl I q (by simp))
    | int j => obtain ⟨t', rfl⟩ := ry; exact eq_int (fin_bl I q dec_int)
    | str j => obtain ⟨t', rfl⟩ := ry; exact PySem.EqMixed.eq_int_str (fin_bl I q (by simp))
    | _ => exact absurd (show false = true from hs) Bool.false_ne_true
  | str i =>
    obtain ⟨t, rfl⟩ := rx
    cases y with
    | non => cases ry; exact PySem.EqNone.eq_str_none (fin_bl I q (by simp))
    | bl j => cases ry; exact PySem.EqMixed.eq_str_bool (fin_bl I q (by simp))
    | int j => obtain ⟨t', rfl⟩ := ry; exact PySem.EqMixed.eq_str_int (fin_bl I q (by simp))
    | str j => obtain ⟨t', rfl⟩ := ry; exact eq_str (fin_bl I q dec_str)
    | _ => exact absurd (show false = true from hs) Bool.false_ne_true
  | byt i =>
    obtain ⟨t, rfl⟩ := rx
    cases y with
    | byt j => obtain ⟨t', rfl⟩ := ry; exact PySem.W.eq_bytes (fin_bl I q dec_byt)
    | _ => exact absurd (show false = true from hs) Bool.false_ne_true
  | _ => cases y <;> exact absurd (show false = true from hs) Bool.false_ne_true
theorem op_ne : OpR X (compareOp .NotEq) rNe := by
  intro pins s σ H x y v u Q I rx ry h
  obtain ⟨hs, q⟩ := h
  cases x with
  | non =>
    cases rx
    cases y with
    | non => cases ry; exact PySem.EqNone.ne_none_none (fin_bl I q (by simp))
    | bl j => cases ry; exact PySem.EqNone.ne_none_bool (fin_bl I q (by simp))
    | int j => obtain ⟨t', rfl⟩ := ry; exact PySem.EqNone.ne_none_int (fin_bl I q (by simp))
    | str j => obtain ⟨t', rfl⟩ := ry; exact PySem.EqNone.ne_none_str (fin_bl I q (by simp))
    | _ => exact absurd (show false = true from hs) Bool.false_ne_true
  | bl i =>
    cases rx
    cases y with
    | non => cases ry; exact PySem.EqNone.ne_bool_none (fin_bl I q (by simp))
    | bl j => cases ry; exact ne_bool (fin_bl I q (congrArg not dec_bl))
    | str j => obtain ⟨t', rfl⟩ := ry; exact PySem.EqMixed.ne_bool_str (fin_bl I q (by simp))
    | _ => exact absurd (show false = true from hs) Bool.false_ne_true
  | int i =>
    obtain ⟨t, rfl⟩ := rx
    cases y with
    | non => cases ry; exact PySem.EqNone.ne_int_none (fin_bl I q (by simp))
    | int j => obtain ⟨t', rfl⟩ := ry; exact ne_int (fin_bl I q (congrArg not dec_int))
    | str j => obtain ⟨t', rfl⟩ := ry; exact PySem.EqMixed.ne_int_str (fin_bl I q (by simp))
    | _ => exact absurd (show false = true from hs) Bool.false_ne_true
  | str i =>
    obtain ⟨t, rfl⟩ := rx
    cases y with
    | non => cases ry; exact PySem.EqNone.ne_str_none (fin_bl I q (by simp))
    | bl j => cases ry; exact PySem.EqMixed.ne_str_bool (fin_bl I q (by simp))
    | int j => obtain ⟨t', rfl⟩ := ry; exact PySem.EqMixed.ne_str_int (fin_bl I q (by simp))
    | str j => obtain ⟨t', rfl⟩ := ry; exact ne_str (fin_bl I q (congrArg not dec_str))
    | _ => exact absurd (show false = true from hs) Bool.false_ne_true
  | byt i =>
    obtain ⟨t, rfl⟩ := rx
    cases y with
    | byt j => obtain ⟨t', rfl⟩ := ry; exact PySem.W.ne_bytes (fin_bl I q (congrArg not dec_byt))
    | _ => exact absurd (show false = true from hs) Bool.false_ne_true
  | _ => cases y <;> exact absurd (show false = true from hs) Bool.false_ne_true

theorem op_lt : OpR X (compareOp .Lt) (rI0 fun i j => .bl (decide (i < j))) := opB0 fun _ _ _ _ _ _ _ q => lt_int q
theorem op_le : OpR X (compareOp .LtE) (rI0 fun i j => .bl (decide (i ≤ j))) := opB0 fun _ _ _ _ _ _ _ q => le_int q
theorem op_gt : OpR X (compareOp .Gt) (rI0 fun i j => .bl (decide (j < i))) := opB0 fun _ _ _ _ _ _ _ q => gt_int q
theorem op_ge : OpR X (compareOp .GtE) (rI0 fun i j => .bl (decide (j ≤ i))) := opB0 fun _ _ _ _ _ _ _ q => ge_int q
/-- is None, is not None: the right side a value none -/
theorem op_isN : OpR X (compareOp .Is) (fun x y H Q => y = .non ∧ Q (.bl (decide (x = .non))) H) := by
  intro pins s σ H x y v u Q I rx ry h
  obtain ⟨rfl, q⟩ := h
  cases ry
  refine is_none_gen (fin_bl I q ?_)
  cases x <;> first
    | (cases rx; rfl)
    | (obtain ⟨t, rfl⟩ := rx; rfl)
/-- is, is not of two objects that are tracked lists or instances -/
def isObj : HO → Bool
  | .lst _ => true
  | .ins _ _ _ => true
  | _ => false
theorem nomark (b : Expr) {op : CmpOp} (h : op ≠ .In := by decide) (h2 : op ≠ .NotIn := by decide) : behindInMarks op b = false := by
  have e1 : (op == CmpOp.In) = false := by cases op <;> first | rfl | exact absurd rfl h
  have e2 : (op == CmpOp.NotIn) = false := by cases op <;> first | rfl | exact absurd rfl h2
  cases b <;> simp [behindInMarks, e1, e2]
/-- a comparison as a value; hm: nomark b, or (for in, not in) by with_unfolding_all rfl -/
theorem pe_cmpR {op : CmpOp} {r : R2} (ho : OpR X (compareOp op) r) (ha : PE X a ta) (hb : PE X b tb) (hm : behindInMarks op b = false) : PE X (.Compare a [op] [b] pos) (tOp r ta tb) := by
  intro pins s σ H Q I h
  exact wpAny_Compare1 (binT ha hb I h fun v u s2 x y H2 I2 rx ry q => ho pins s2 σ H2 x y v u Q I2 rx ry q) hm
/-- a reading of a value as a test -/
def tTest (t : TE) : TT := fun σ H Q => t σ H fun x H' => ∃ k, x = .bl k ∧ Q k H'
theorem pt_cmpR {op : CmpOp} {r : R2} (ho : OpR X (compareOp op) r) (ha : PE X a ta) (hb : PE X b tb) (hm : behindInMarks op b = false) : PT X (.Compare a [op] [b] pos) (tTest (tOp r ta tb)) := by
  intro pins s σ H Q I h
  refine wpAny_isTrue_Compare1 (thn (ha pins s σ H _ I h) fun v s1 ⟨x, H1, I1, r1, q1⟩ => thn (hb pins s1 σ H1 _ I1 q1) fun u s2 ⟨y, H2, I2, r2, q2⟩ =>
    thn (ho pins s2 σ H2 x y v u _ I2 r1 r2 q2) fun c s3 ⟨z, H3, I3, r3, k, e, q3⟩ => ?_) hm
  subst e
  cases r3
  exact wpAny_truthy_bool ⟨H3, I3, q3⟩
/-- a op1 b op2 c -/
def tChain (r r' : R2) (ta tb tc : TE) : TE := fun σ H Q => ta σ H fun x H1 => tb σ H1 fun y H2 => r x y H2 fun z H3 => ∃ k, z = .bl k ∧
  (if k = true then tc σ H3 fun w' H4 => r' y w' H4 Q else Q (.bl false) H3)
theorem pe_chain {op op' : CmpOp} {r r' : R2} (ho : OpR X (compareOp op) r) (ho' : OpR X (compareOp op') r') (ha : PE X a ta) (hb : PE X b tb) (hc : PE X c tc)
    (hm : lastMarks [op, op'] [b, c] = false := by with_unfolding_all rfl) : PE X (.Compare a [op, op'] [b, c] pos) (tChain r r' ta tb tc) := by
  intro pins s σ H Q I h
  refine Compare_chain (thn (ha pins s σ H _ I h) fun v s1 ⟨x, H1, I1, r1, q1⟩ => chain_link (thn (hb pins s1 σ H1 _ I1 q1) fun u s2 ⟨y, H2, I2, r2, q2⟩ =>
    thn (ho pins s2 σ H2 x y v u _ I2 r1 r2 q2) fun d s3 ⟨z, H3, I3, r3, k, e, q3⟩ => ?_)) hm
  subst e
  cases r3
  refine wpAny_truthy_bool ?_
  cases k with
  | false => exact ite_ff ⟨.bl false, H3, I3, rfl, q3⟩
  | true => exact ite_tt (chain_last (thn (hc pins s3 σ H3 _ I3 q3) fun w' s4 ⟨z', H4, I4, r4, q4⟩ => ho' pins s4 σ H4 y z' u w' Q I4 r2 r4 q4))
/-! ### truth -/
/-- a value's truth by the abstract heap -/
def TruV (K : PySem.W.Frag) (x : V) (H : Hp) (k : Bool) : Prop :=
  match x with
  | .non => k = false
  | .bl b => k = b
  | .int i => k = (i != 0)
  | .str y => y.length ≤ sizeLine ∧ k = ((y.length : Int) != 0)
  | .byt y => y.size ≤ sizeLine ∧ k = ((y.size : Int) != 0)
  | .ref p => (∃ xs, SqL K H p xs ∧ k = !xs.isEmpty) ∨ (∃ xs, SqT K H p xs ∧ k = !xs.isEmpty) ∨ ∃ kvs, H p = some (.dK kvs) ∧ k = !kvs.isEmpty
  | _ => False
theorem line63 : (sizeLine : Nat) < 2 ^ 63 := by rw [sizeLine_eq]; decide
/-! ### strs and bytes -/
theorem op_add_str : OpR X (binaryOp .Add) (fun x y H Q => ∃ i j, x = .str i ∧ y = .str j ∧ i.length + j.length ≤ sizeLine ∧ Q (.str (i ++ j)) H) := by
  intro pins s σ H x y v u Q I rx ry h
  obtain ⟨i, j, rfl, rfl, hz, q⟩ := h
  obtain ⟨t, rfl⟩ := rx
  obtain ⟨t', rfl⟩ := ry
  exact add_str (fun t' tk => ⟨.str (i ++ j), H, I.tok _, ⟨_, rfl⟩, q⟩) hz
def PlainIxT (b : Expr) : Prop := ∀ o i, subscripted b false o i = operate [o, i] (getItem o i)
/-! ### scalar builtins, by CallR -/
theorem vals1 {x : V} {us : List Value} (r : Vals [x] us) : ∃ u, us = [u] ∧ RelV x u := by
  cases r with
  | cons r1 r2 => cases r2; exact ⟨_, rfl, r1⟩
theorem call_str_int : CallR X (.type "str") (fun xs H Q => ∃ i, xs = [.int i] ∧ i.natAbs.log2 < 1920 ∧ Q (.str (toString i)) H) := by
  intro pins s σ H xs us Q I r h
  obtain ⟨i, rfl, hz, q⟩ := h
  obtain ⟨u, rfl, t, rfl⟩ := vals1 r
  exact PySem.P.str_of_int hz ⟨.str _, H, I.tok _, ⟨_, rfl⟩, q⟩
/-- len of a str, a bytes, a list, a tuple -/
def LenV (K : PySem.W.Frag) (x : V) (H : Hp) (n : Nat) : Prop :=
  match x with
  | .str y => y.length ≤ sizeLine ∧ n = y.length
  | .byt y => y.size ≤ sizeLine ∧ n = y.size
  | .ref p => (∃ xs, SqL K H p xs ∧ n = xs.length) ∨ ∃ xs, SqT K H p xs ∧ n = xs.length
  | _ => False
end
end L2

namespace L2
open PySem PySem.Spec PyProof.Rows

/-! ### an instance, its attributes a map -/
structure ObjM (h : Heap) (x dx C : Addr) (mA : Str → Option Value) : Prop where
  obj : h.get? x = some (PySem.W.instObj C dx)
  ns : h.Ns1 dx mA
  ne : dx ≠ x

theorem lookIn_ns {h : Heap} {dx : Addr} {mA : Str → Option Value} (n : h.Ns1 dx mA) : ∃ od, h.get? dx = some od ∧ ∀ name, PySem.W.lookIn name od = some (mA name) := by
  obtain ⟨o, es, ep, ho, hd, hk, _, hm⟩ := n
  refine ⟨o, ho, fun name => ?_⟩
  have e := hm name
  unfold nsFind findBy at e
  rw [← Array.find?_toList] at e
  unfold PySem.W.lookIn
  rw [hd]
  dsimp only
  split
  · rename_i y q
    rw [q] at e
    exact congrArg some e
  · rename_i q
    rw [q] at e
    have a : es.toList.any (·.refKey) = false := by
      rw [List.any_eq_false]
      intro y hy
      obtain ⟨z, t, hkey⟩ := hk y (Array.mem_toList_iff.mp hy)
      simp [DictEntry.refKey, hkey]
    have a' : ¬ es.toList.any (·.refKey) = true := by rw [a]; exact Bool.false_ne_true
    rw [if_neg a']
    exact congrArg some e

theorem ObjM.look {h : Heap} {x dx C : Addr} {mA : Str → Option Value} (I : ObjM h x dx C mA) : ∃ od, PySem.W.InstAt h x (PySem.W.instObj C dx) C (some od) ∧ ∀ name, PySem.W.lookIn name od = some (mA name) :=
  let ⟨od, ho, hl⟩ := lookIn_ns I.ns
  ⟨od, ⟨I.obj, rfl, rfl, ho⟩, hl⟩

section
variable {prog : Program} {w : World} {A : Around} {E : Value → Shared → Prop} {s : Shared} {K : PySem.W.Frag} {x dx C f : Addr} {mA : Str → Option Value} {name : Str} {v : Value}

theorem get_map {expr : Bool} {Q : Value → Shared → Prop} (X : K.In s.heap) (I : ObjM s.heap x dx C mA) (hg : PySem.W.plainGet K C name = true) (hh : PySem.W.hasDictIn K C = true)
    (ha : PySem.W.findIn K (.ref C) name = some none) (hv : mA name = some v) (hv' : PySem.W.handedIn v = true) (h : Q v { s with toks := s.toks + 1 }) :
    wpAny (model prog w) A (getAttr (.ref x) name expr) Q E s := by
  obtain ⟨od, J, hl⟩ := I.look
  exact PySem.W.get_value X J (PySem.W.plainGet_of hg).1 (PySem.W.findObj_own hh ha rfl (by rw [hl, hv])) hv' h

theorem get_meth {pl : Sem Bool} {Q : Value × List Value → Shared → Prop} (X : K.In s.heap) (I : ObjM s.heap x dx C mA) (hg : PySem.W.plainGet K C name = true)
    (hf : PySem.W.findIn K (.ref C) name = some (some (.ref f))) (ht : PySem.W.isFn K (.ref f) = true) (hv : mA name = none) (h : Q (.ref f, [.ref x]) s) :
    wpAny (model prog w) A (getMethod (.ref x) name pl) Q E s := by
  obtain ⟨od, J, hl⟩ := I.look
  exact PySem.W.method_fn X J (PySem.W.plainGet_of hg).1 (PySem.W.plainGet_of hg).2 hf (beq_iff_eq.mp ht) (by show (PySem.W.lookIn name od).map (·.isSome) = some false; rw [hl, hv]; rfl) h

theorem set_map {ns : List Str} {Q : Unit → Shared → Prop} (X : K.In s.heap) (I : ObjM s.heap x dx C mA)
    (hs : PySem.W.findIn K (.ref C) "__setattr__" = some (some (.builtin "object.__setattr__"))) (hp : PySem.W.plainOver K C = true) (ht : PySem.W.takerIn K C name = some none) (hh : PySem.W.hasDictIn K C = true)
    (hw : PySem.Within mA ns) (hsz : ns.length ≤ sizeLine)
    (h : ∀ h', ObjM h' x dx C (fun y => if y = name then some v else mA y) → Heap.SameBut dx s.heap h' → Q () { s with heap := h', toks := s.toks + 2 }) :
    wpAny (model prog w) A (setAttr (.ref x) name v) Q E s := by
  obtain ⟨od, J, hl⟩ := I.look
  refine PySem.W.set_plain X J hs (PySem.W.osa_open (s := { s with toks := s.toks + 1 }) (r := none) X J hp ht fun b => ?_)
  obtain ⟨cd, hc, hd'⟩ := PySem.W.any_some hh
  have hx : s.heap.get? x = some ⟨.ref C, some dx, .plain, #[]⟩ := I.obj
  refine wpAny_bind (wpAny_pure (wpAny_bind (wpAny_bind (wpAny_loadPart hx (wpAny_bind (PySem.W.Looks.here (s := { s with toks := s.toks + 1 }) (PySem.W.looks_clsIn X hc) ?_))))))
  rw [hd']
  refine wpAny_pure (a := some dx) (wpAny_bind (wpAny_pure (wpAny_bind ?_)))
  refine wpAny_nsSet1 (s := { s with toks := s.toks + 1 }) I.ns fun h' hn2 hs2 => ?_
  obtain ⟨oD, esD, epD, hoD, hdD, hcD⟩ := hn2.count (PySem.Within.cons name v hw)
  refine wpAny_bind (wpAny_lookBehind hoD (by rw [hdD]; exact pastItsLine_dict (Nat.le_trans hcD (by rw [List.length_cons]; omega))) ?_)
  exact wpAny_pure (h _ ⟨(hs2.2 _ (Ne.symm I.ne)).trans I.obj, hn2, I.ne⟩ hs2)

/-- C(..): the dict at the heap's end, the instance behind it; then its __init__ -/
theorem make_map {R : Result → Shared → Prop} {vs : List Value} {kw : List (Str × Value)} (X : K.In s.heap) (hm : PySem.W.makesIn K C = true)
    (hi : PySem.W.findIn K (.ref C) "__init__" = some (some (.ref f))) (hf : PySem.W.typeIn K (.ref f) = some (.type "function"))
    (h : codeAny (model prog w) (A.under (.builtin "type.__call__" ⟨.ref C :: vs, kw⟩)) (.call (.ref f) ⟨.ref (s.heap.objs.size + 1) :: vs, kw⟩) (PySem.W.InitBack (s.heap.objs.size + 1) R)
      { s with heap := (s.heap.push PySem.W.emptyDict).push (PySem.W.instObj C s.heap.objs.size) }) :
    codeAny (model prog w) A (.call (.ref C) ⟨vs, kw⟩) R s := by
  obtain ⟨hh, g, d, t, os⟩ := s
  exact PySem.W.make_core (PySem.W.makes_of X hm) (PySem.W.looks_findIn X hi) (fun self => PySem.W.bind_fn X self hf) (.inl rfl) h
end

/-! ### the attributes as a list of pairs -/
def putF (f : Str) (v : V) : List (Str × V) → List (Str × V)
  | [] => [(f, v)]
  | (g, x) :: r => if g = f then (g, v) :: r else (g, x) :: putF f v r
theorem lookup_putF (f g : Str) (v : V) : ∀ fs : List (Str × V), (putF f v fs).lookup g = if g = f then some v else fs.lookup g
  | [] => by
    show List.lookup g [(f, v)] = _
    by_cases h : g = f
    · have hb : (g == f) = true := beq_iff_eq.mpr h
      simp only [List.lookup, hb, if_pos h]
    · have hb : (g == f) = false := beq_eq_false_iff_ne.mpr h
      simp only [List.lookup, hb, if_neg h]
  | (k, x) :: r => by
    have ih := lookup_putF f g v r
    rw [show putF f v ((k, x) :: r) = (if k = f then (k, v) :: r else (k, x) :: putF f v r) from rfl]
    by_cases hk : k = f
    · rw [if_pos hk]
      by_cases h : g = k
      · have hb : (g == k) = true := beq_iff_eq.mpr h
        simp only [List.lookup, hb, if_pos (h.trans hk)]
      · have hb : (g == k) = false := beq_eq_false_iff_ne.mpr h
        simp only [List.lookup, hb, if_neg (fun e : g = f => h (e.trans hk.symm))]
    · rw [if_neg hk]
      by_cases h : g = k
      · have hb : (g == k) = true := beq_iff_eq.mpr h
        simp only [List.lookup, hb, if_neg (fun e : g = f => hk (h.symm.trans e))]
      · have hb : (g == k) = false := beq_eq_false_iff_ne.mpr h
        simp only [List.lookup, hb]
        exact ih
theorem keys_putF (f : Str) (v : V) : ∀ fs : List (Str × V), f ∈ (putF f v fs).map (·.1) ∧ ∀ g, g ∈ fs.map (·.1) → g ∈ (putF f v fs).map (·.1)
  | [] => ⟨by simp [putF], fun g h => by simp at h⟩
  | (k, x) :: r => by
    obtain ⟨i1, i2⟩ := keys_putF f v r
    rw [show putF f v ((k, x) :: r) = (if k = f then (k, v) :: r else (k, x) :: putF f v r) from rfl]
    by_cases hk : k = f
    · rw [if_pos hk]
      subst hk
      exact ⟨by simp, fun g h => by simpa using h⟩
    · rw [if_neg hk]
      refine ⟨?_, fun g h => ?_⟩
      · rw [List.map_cons]
        exact List.mem_cons_of_mem _ i1
      · rw [List.map_cons] at h ⊢
        rcases List.mem_cons.mp h with e | e
        · exact List.mem_cons.mpr (.inl e)
        · exact List.mem_cons_of_mem _ (i2 g e)
theorem length_putF (f : Str) (v : V) : ∀ fs : List (Str × V), (putF f v fs).length ≤ fs.length + 1
  | [] => by simp [putF]
  | (k, x) :: r => by
    have ih := length_putF f v r
    rw [show putF f v ((k, x) :: r) = (if k = f then (k, v) :: r else (k, x) :: putF f v r) from rfl]
    by_cases hk : k = f
    · rw [if_pos hk, List.length_cons, List.length_cons]; omega
    · rw [if_neg hk, List.length_cons, List.length_cons]; omega

theorem RelO.some_of {v : V} {o : Option Value} (r : RelO (some v) o) : ∃ u, o = some u ∧ RelV v u := by
  cases o with
  | none => exact (show False from r).elim
  | some u => exact ⟨u, rfl, r⟩
theorem RelO.none_of {o : Option Value} (r : RelO none o) : o = none := by
  cases o with
  | none => rfl
  | some u => exact (show False from r).elim
theorem handed_of {v : V} {u : Value} (r : RelV v u) : PySem.W.handedIn u = true := by
  cases v with
  | non => cases (show u = Value.none from r); rfl
  | bl b => cases (show u = Value.bool b from r); rfl
  | int i => obtain ⟨t, e⟩ := (show ∃ t, u = Value.int i t from r); cases e; rfl
  | str x => obtain ⟨t, e⟩ := (show ∃ t, u = Value.str x t from r); cases e; rfl
  | byt b => obtain ⟨t, e⟩ := (show ∃ t, u = Value.bytes b t from r); cases e; rfl
  | flt b => obtain ⟨t, e⟩ := (show ∃ t, u = Value.float b t from r); cases e; rfl
  | ref a => cases (show u = Value.ref a from r); rfl
  | ty n => cases (show u = Value.type n from r); rfl

section
variable {P : Program} {w : World} {H H' : Hp} {h h' : Heap} {a C dx : Addr} {fs fs' : List (Str × V)}
theorem ins_get (hok : HOk P w H h) (e : H a = some (.ins C dx fs)) : ∃ mA, ObjM h a dx C mA ∧ (∀ f, RelO (fs.lookup f) (mA f)) ∧ PySem.Within mA (fs.map (·.1)) ∧ fs.length ≤ 1000 ∧ H dx = some (.own a) := by
  obtain ⟨d, z, ne, ob, mA, n, r, q⟩ := (show ObjOk P w H h a (.ins C dx fs) from hok a _ e)
  exact ⟨mA, ⟨ob, n, ne⟩, r, q, z, d⟩
end

/-! ### what of the text a class must have -/
structure Cls (K : PySem.W.Frag) (C : Addr) : Prop where
  pg : PySem.W.plainGet K C Str.empty = true
  hd : PySem.W.hasDictIn K C = true
  po : PySem.W.plainOver K C = true
  sa : PySem.W.findIn K (.ref C) "__setattr__" = some (some (.builtin "object.__setattr__"))
theorem Cls.get {K : PySem.W.Frag} {C : Addr} (c : Cls K C) (f : Str) : PySem.W.plainGet K C f = true := c.pg
/-- no class of it has the name -/
def NoAttr (K : PySem.W.Frag) (C : Addr) (f : Str) : Prop := PySem.W.findIn K (.ref C) f = some none
theorem NoAttr.taker {K : PySem.W.Frag} {C : Addr} {f : Str} (n : NoAttr K C f) : PySem.W.takerIn K C f = some none := by
  unfold PySem.W.takerIn
  rw [show PySem.W.findIn K (.ref C) f = some none from n]
  rfl
/-- a constant of the class -/
structure Con (K : PySem.W.Frag) (C : Addr) (f : Str) (v : V) (u : Value) : Prop where
  at_ : PySem.W.findIn K (.ref C) f = some (some u)
  rel : RelV v u
  get : PySem.W.specialIn K u "__get__" = some none
  cp : PySem.W.copiedNames.contains f = false
/-- a method: a plain def of the class or of one above it -/
structure Meth (K : PySem.W.Frag) (C : Addr) (m : Str) (f : Addr) : Prop where
  at_ : PySem.W.findIn K (.ref C) m = some (some (.ref f))
  fn : PySem.W.isFn K (.ref f) = true
  kp : PySem.W.keepIn K (.ref f) = true

section
variable {X : Cx} {pins : List (Addr × Obj)} {σ : St} {H : Hp} {s : Shared} {a C dx : Addr} {fs : List (Str × V)} {f : Str} {v : V} {A : Around} {E : Value → Shared → Prop}

theorem getattr_ok {b : Bool} {Q : Value → Shared → Prop} (I : Inv X pins σ H s) (e : H a = some (.ins C dx fs)) (c : Cls X.K C) (n : NoAttr X.K C f) (l : fs.lookup f = some v)
    (h : ∀ u s', Inv X pins σ H s' → RelV v u → Q u s') : wpAny (model X.prog X.w) A (getAttr (.ref a) f b) Q E s := by
  obtain ⟨mA, O, r, _, _, _⟩ := ins_get I.hok e
  obtain ⟨u, hu, ru⟩ := RelO.some_of (v := v) (o := mA f) (by rw [← l]; exact r f)
  exact get_map I.kIn O (c.get f) c.hd n hu (handed_of ru) (h u _ (I.tok _) ru)

theorem getmeth_ok {m : Str} {g : Addr} {pl : Sem Bool} {Q : Value × List Value → Shared → Prop} (I : Inv X pins σ H s) (e : H a = some (.ins C dx fs)) (c : Cls X.K C) (k : Meth X.K C m g) (l : fs.lookup m = none)
    (h : Q (.ref g, [.ref a]) s) : wpAny (model X.prog X.w) A (getMethod (.ref a) m pl) Q E s := by
  obtain ⟨mA, O, r, _, _, _⟩ := ins_get I.hok e
  have hn : mA m = none := RelO.none_of (by rw [← l]; exact r m)
  exact get_meth I.kIn O (c.get m) k.at_ k.fn hn h

theorem setattr_ok {y : V} {u : Value} {Q : Unit → Shared → Prop} (I : Inv X pins σ H s) (e : H a = some (.ins C dx fs)) (c : Cls X.K C) (n : NoAttr X.K C f) (hl : fs.length < 1000) (ry : RelV y u)
    (h : ∀ s', Inv X pins σ (upd H a (.ins C dx (putF f y fs))) s' → Q () s') : wpAny (model X.prog X.w) A (setAttr (.ref a) f u) Q E s := by
  obtain ⟨mA, O, r, wi, _, ho⟩ := ins_get I.hok e
  have hz : (fs.map (·.1)).length ≤ sizeLine := by rw [List.length_map, sizeLine_eq]; omega
  refine set_map I.kIn O c.sa c.po n.taker c.hd wi hz fun h' O' sb => h _ ?_
  have hd : ∃ o, h'.get? dx = some o := let ⟨o, _, _, e', _⟩ := O'.ns; ⟨o, e'⟩
  refine I.write (x := a) (e := dx) (by rw [e]; exact True.intro) (.inr ho) (fun b q hb z => (sb.2 b hb).trans z) hd ?_
  refine ⟨by rw [upd_ne O.ne]; exact ho, ?_, O.ne, O'.obj, _, O'.ns, fun g => ?_, fun g hg => ?_⟩
  · have := length_putF f y fs; omega
  · show RelO ((putF f y fs).lookup g) (if g = f then some u else mA g)
    rw [lookup_putF]
    by_cases q : g = f
    · rw [if_pos q, if_pos q]; exact ry
    · rw [if_neg q, if_neg q]; exact r g
  · by_cases q : g = f
    · rw [q]; exact (keys_putF f y fs).1
    · refine (keys_putF f y fs).2 g (wi g fun z => hg ?_)
      show (if g = f then some u else mA g) = none
      rw [if_neg q]; exact z

/-- a new instance, tracked, without attributes -/
theorem Inv.made (I : Inv X pins σ H s) : Inv X pins σ (upd (upd H s.heap.objs.size (.own (s.heap.objs.size + 1))) (s.heap.objs.size + 1) (.ins C s.heap.objs.size []))
    { s with heap := (s.heap.push PySem.W.emptyDict).push (PySem.W.instObj C s.heap.objs.size) } := by
  have e1 : (s.heap.push PySem.W.emptyDict).get? s.heap.objs.size = some PySem.W.emptyDict := Heap.get?_push_size s.heap rfl
  have e2 : ((s.heap.push PySem.W.emptyDict).push (PySem.W.instObj C s.heap.objs.size)).get? (s.heap.objs.size + 1) = some (PySem.W.instObj C s.heap.objs.size) := by
    have := Heap.get?_push_size (s.heap.push PySem.W.emptyDict) (o := PySem.W.instObj C s.heap.objs.size) rfl
    rwa [Heap.size_push] at this
  have e3 : (s.heap.push PySem.W.emptyDict).Ns s.heap.objs.size (fun _ => none) := ⟨PySem.W.emptyDict, #[], _, e1, rfl, (fun e he => absurd he (by simp)), fun _ => rfl⟩
  have I1 := I.laid (a := s.heap.objs.size) (o := .own (s.heap.objs.size + 1)) (h' := s.heap.push PySem.W.emptyDict) (t' := s.toks) (fun b u q => Heap.get?_push_of_some _ q) (Nat.le_refl _) ⟨_, e1⟩
  refine I1.laid (a := s.heap.objs.size + 1) (o := .ins C s.heap.objs.size []) (t' := s.toks) (fun b u q => Heap.get?_push_of_some _ q) (Nat.le_of_eq (Heap.size_push _ _)) ?_
  have ne : s.heap.objs.size ≠ s.heap.objs.size + 1 := Nat.ne_of_lt (Nat.lt_succ_self _)
  refine ⟨by rw [upd_ne ne, upd_same], Nat.zero_le _, ne, e2, fun _ => none, (Heap.Ns1.of_empty e3).at fun o q => Heap.get?_push_of_some _ q, fun _ => True.intro, fun y hy => absurd rfl hy⟩

/-- e.f where nothing but the object is asked: through attributeBase (super) and the last hold -/
theorem attr_of {prog : Program} {w : World} {env : Env} {e : Expr} {f : Str} {pos : Pos} {s : Shared} {Q : Value → Shared → Prop} (hb : attributeBase e f env (eval e env) = eval e env)
    (h : wpAny (model prog w) A (eval e env) (fun o s₁ => wpAny (model prog w) A (getAttr o f true) Q E s₁) E s) : wpAny (model prog w) A (eval (.Attribute e f pos) env) Q E s :=
  Attribute_any_ h (by rw [arm_eval_Attribute, hb])
end

/-! ### readings and rules -/
/-- e.f, an attribute of the instance -/
def tFld (K : PySem.W.Frag) (ta : TE) (f : Str) : TE := fun σ H Q => ta σ H fun x H1 => ∃ a C dx fs v, x = .ref a ∧ H1 a = some (.ins C dx fs) ∧ Cls K C ∧ NoAttr K C f ∧ fs.lookup f = some v ∧ Q v H1
/-- e.f, a constant of the class -/
def tCon (K : PySem.W.Frag) (ta : TE) (f : Str) : TE := fun σ H Q => ta σ H fun x H1 => ∃ a C dx fs v u, x = .ref a ∧ H1 a = some (.ins C dx fs) ∧ Cls K C ∧ Con K C f v u ∧ fs.lookup f = none ∧ Q v H1
/-- e.f = value -/
def sFld (K : PySem.W.Frag) (ta tv : TE) (f : Str) : TS := fun D σ H => tv σ H fun y H1 => ta σ H1 fun x H2 => ∃ a C dx fs, x = .ref a ∧ H2 a = some (.ins C dx fs) ∧ Cls K C ∧ NoAttr K C f ∧ fs.length < 1000 ∧
  D.nx σ (upd H2 a (.ins C dx (putF f y fs)))
/-- an augmented operator on two values -/
def InOp (X : Cx) (op : Operator) (rd : V → V → Hp → VK → Prop) : Prop :=
  ∀ (pins : List (Addr × Obj)) (s : Shared) (σ : St) (H : Hp) (x y : V) (u v : Value) (Q : VK), Inv X pins σ H s → RelV x u → RelV y v → rd x y H Q → wpAny (model X.prog X.w) X.A (inplaceOp op u v) (EP X pins σ Q) X.xe s
/-- e.f op= value -/
def sFldAug (K : PySem.W.Frag) (ta tv : TE) (rd : V → V → Hp → VK → Prop) (f : Str) : TS := fun D σ H => ta σ H fun x H1 => ∃ a C dx fs v, x = .ref a ∧ H1 a = some (.ins C dx fs) ∧ Cls K C ∧ NoAttr K C f ∧ fs.lookup f = some v ∧
  tv σ H1 fun y H2 => rd v y H2 fun z H3 => ∃ dx' fs', H3 a = some (.ins C dx' fs') ∧ fs'.length < 1000 ∧ D.nx σ (upd H3 a (.ins C dx' (putF f z fs')))

section
variable {X : Cx} {o e value : Expr} {f : Str} {pos pos' tpos : Pos} {ta tv : TE}
theorem pe_fld (he : PE X e ta) (hb : attributeBase e f X.env (eval e X.env) = eval e X.env) : PE X (.Attribute e f pos) (tFld X.K ta f) := by
  intro pins s σ H Q I h
  refine attr_of hb (thn (he pins s σ H _ I h) fun u s1 ⟨x, H1, I1, rx, a, C, dx, fs, v, ex, ea, c, n, l, q⟩ => ?_)
  subst ex
  obtain rfl : u = Value.ref a := rx
  exact getattr_ok I1 ea c n l fun u' s2 I2 ru => ⟨v, H1, I2, ru, q⟩
theorem ps_fld (ha : PE X o ta) (hv : PE X value tv) (hs : swapsWith value (some (.Attribute o f pos')) pos.line X.env = pure false) : PS X (.Assign [.Attribute o f pos'] value pos) (sFld X.K ta tv f) := by
  intro pins s σ H D I h
  refine plainObj_wpAny_Assign_Attribute (thn (hv pins s σ H _ I h) fun u s1 ⟨y, H1, I1, ry, q⟩ => thn (ha pins s1 σ H1 _ I1 q) fun ov s2 ⟨x, H2, I2, rx, a, C, dx, fs, ex, ea, c, n, l, q2⟩ => ?_) hs
  subst ex
  obtain rfl : ov = Value.ref a := rx
  exact setattr_ok I2 ea c n l ry fun s3 I3 => ⟨σ, _, I3, q2⟩
def rAdd : V → V → Hp → VK → Prop := fun x y H Q => ∃ i j, x = .int i ∧ y = .int j ∧ Q (.int (i + j)) H
def rSub : V → V → Hp → VK → Prop := fun x y H Q => ∃ i j, x = .int i ∧ y = .int j ∧ Q (.int (i - j)) H
/-- what is between an instance and its method: the tree of a method call -/
theorem methcall_of {pl : Sem Bool} {m : Str} {apos : Pos} {args : List Expr} {pins : List (Addr × Obj)} {s : Shared} {σ : St} {H : Hp} {Q : Value → Shared → Prop} {te : TE} (he : PE X e te) (I : Inv X pins σ H s)
    (h : te σ H fun x H1 => ∃ a C dx fs g, x = .ref a ∧ H1 a = some (.ins C dx fs) ∧ Cls X.K C ∧ Meth X.K C m g ∧ fs.lookup m = none ∧
      ∀ s1, Inv X pins σ H1 s1 → wpAny (model X.prog X.w) X.A (callWith pos (.ref g) [.ref a] (backTo pos (starEach args X.env)) (backToKw pos (keywordEach [] X.env))) Q X.xe s1)
    (ht : eval (.Call (.Attribute e m apos) args [] pos) X.env = (do
      let ov ← eval e X.env
      standAt apos.atName
      let (f, first) ← holding [ov] (getMethod ov m pl)
      callWith pos f first (backTo pos (starEach args X.env)) (backToKw pos (keywordEach [] X.env)))) :
    wpAny (model X.prog X.w) X.A (eval (.Call (.Attribute e m apos) args [] pos) X.env) Q X.xe s := by
  refine PySem.W.methodCall_KW (pl := pl) (thn (he pins s σ H _ I h) fun u s1 ⟨x, H1, I1, rx, a, C, dx, fs, g, ex, ea, c, k, l, q⟩ => ?_) ht
  subst ex
  obtain rfl : u = Value.ref a := rx
  exact getmeth_ok I1 ea c k l (q s1 I1)
end

/-! ### isinstance -/
section
variable {X : Cx} {pins : List (Addr × Obj)} {σ : St} {H : Hp} {s : Shared} {A : Around} {E : Value → Shared → Prop} {Q : Value → Shared → Prop} {c : Value} {b : Bool}
/-- the type of a value, as the fragment's deciders take it; for an instance its class -/
inductive TyOf (K : PySem.W.Frag) (H : Hp) : V → Value → Prop where
  | non : TyOf K H .non (.type "NoneType")
  | bl (x : Bool) : TyOf K H (.bl x) (.type "bool")
  | int (i : Int) : TyOf K H (.int i) (.type "int")
  | str (x : Str) : TyOf K H (.str x) (.type "str")
  | flt (x : UInt64) : TyOf K H (.flt x) (.type "float")
  | lst {a : Addr} {xs : List V} (e : H a = some (.lst xs)) : TyOf K H (.ref a) (.type "list")
  | frz {a : Addr} {o : Obj} {xs : List V} (e : H a = some (.frz o (.lst xs))) : TyOf K H (.ref a) (.type "list")
  | tup {a : Addr} {xs : List V} (e : H a = some (.tup xs)) : TyOf K H (.ref a) (.type "tuple")
  | dK {a : Addr} {kvs : List (Key × V)} (e : H a = some (.dK kvs)) : TyOf K H (.ref a) (.type "dict")
  | dT {a : Addr} {kvs : List (List Key × V)} (e : H a = some (.dT kvs)) : TyOf K H (.ref a) (.type "dict")
  | ins {a C dx : Addr} {fs : List (Str × V)} (e : H a = some (.ins C dx fs)) (cl : Cls K C) (ha : PySem.W.findIn K (.ref C) "__class__" = some (some (.builtin "object.__class__")))
      (hn : PySem.W.specialIn K (.builtin "object.__class__") "__get__" = some (some (.builtin "getset_descriptor.__get__"))) (htk : PySem.W.takesIn K (.builtin "object.__class__") = some true)
      (hm : PySem.W.mroIn K C (.type "object") = some true) : TyOf K H (.ref a) (.ref C)
end
end L2

namespace L2
open PySem PySem.Spec PyProof.Rows

/-! ### room -/
structure Room (k : Nat) (A : Around) : Prop where
  hd : A.handled = none
  dp : A.depth + 3 * k + 5 < recursionLimit
  un : A.units + 16 * k + 200 < cLine
theorem Room.mono {j k : Nat} {A : Around} (r : Room k A) (h : j ≤ k) : Room j A := ⟨r.hd, by have := r.dp; omega, by have := r.un; omega⟩
theorem Room.deeper {k : Nat} {A : Around} (r : Room (k + 1) A) (env : Env) : Room k (A.deeper env) :=
  ⟨r.hd, by have := r.dp; show A.depth + 1 + 3 * k + 5 < _; omega, by have := r.un; show A.units + 3 + 16 * k + 200 < _; omega⟩
theorem make_depth {A : Around} {C : Addr} {us : List Value} {kw : List (Str × Value)} : (A.under (.builtin "type.__call__" ⟨.ref C :: us, kw⟩)).depth = A.depth + 1 := by
  first | rfl | simp [Around.under, Code.weight, Code.isCreation, Code.isGuard, Code.isCaller, Code.frames, Code.isFrame, guardIds]
theorem make_units {A : Around} {C : Addr} {us : List Value} {kw : List (Str × Value)} : (A.under (.builtin "type.__call__" ⟨.ref C :: us, kw⟩)).units = A.units + 1 := by
  first | rfl | simp [Around.under, Code.cUnits, Code.frames, Code.isFrame]
theorem Room.make {k : Nat} {A : Around} (r : Room (k + 1) A) (C : Addr) (us : List Value) (kw : List (Str × Value)) : Room k (A.under (.builtin "type.__call__" ⟨.ref C :: us, kw⟩)) :=
  ⟨r.hd, by have := r.dp; rw [make_depth]; omega, by have := r.un; rw [make_units]; omega⟩
theorem Room.depth {k : Nat} {A : Around} (r : Room k A) : A.depth < recursionLimit := by have := r.dp; omega
theorem Room.units0 {k : Nat} {A : Around} (r : Room k A) : A.units < cLine := by have := r.un; omega

/-! ### argument lists and displays -/
def tNil : TA := fun _ H Q => Q [] H
def tCons (ta : TE) (tr : TA) : TA := fun σ H Q => ta σ H fun x H1 => tr σ H1 fun xs H2 => Q (x :: xs) H2
section
variable {X : Cx} {e : Expr} {es : List Expr} {te : TE} {t : TA} {pos : Pos}
theorem pa_nil : PA X [] tNil := fun _ _ _ _ H Q I h => Calls.spliced_nil ⟨[], H, I, .nil, h⟩
theorem pa_cons (ha : PE X e te) (hr : PA X es t) (hs : starEach (e :: es) X.env = (false, eval e X.env) :: starEach es X.env := by rfl) : PA X (e :: es) (tCons te t) := by
  intro pos pins s σ H Q I h
  rw [hs]
  show wpAny _ _ (spliced ((false, eval e X.env) :: backTo pos (starEach es X.env))) _ _ s
  refine Calls.spliced_cons (thn (ha pins s σ H _ I h) fun u s1 ⟨x, H1, I1, r1, q1⟩ => ?_)
  exact thn (hr pos pins s1 σ H1 _ I1 q1) fun us s2 ⟨xs, H2, I2, r2, q2⟩ => ⟨x :: xs, H2, I2, .cons r1 r2, q2⟩

/-- a tuple, a list of written items -/
def tTup (t : TA) : TE := fun σ H Q => t σ H fun xs H1 => xs.length ≤ sizeLine ∧ ∀ p, H1 p = none → Q (.ref p) (upd H1 p (.tup xs))
def tLst (t : TA) : TE := fun σ H Q => t σ H fun xs H1 => xs.length ≤ sizeLine ∧ ∀ p, H1 p = none → Q (.ref p) (upd H1 p (.lst xs))
theorem pe_tup {x1} (h : PA X es t) : PE X (.Tuple es x1 pos) (tTup t) := by
  intro pins s σ H Q I hq
  refine wpAny_Tuple_spliced (thn (h pos pins s σ H _ I hq) fun us s1 ⟨xs, H1, I1, r, z, q⟩ => ⟨by rw [← r.length]; exact z, ?_⟩)
  have hf : H1 s1.heap.objs.size = none := I1.hok.fresh (Nat.le_refl _)
  refine ⟨.ref s1.heap.objs.size, upd H1 s1.heap.objs.size (.tup xs), I1.laid (t' := s1.toks) (fun b u e => Heap.get?_push_of_some _ e) (Nat.le_refl _) ?_, rfl, q _ hf⟩
  exact ⟨z, us, r, ⟨_, Heap.get?_push_size _ rfl, rfl, _, rfl⟩⟩
theorem pe_lst (h : PA X es t) : PE X (.List es pos) (tLst t) := by
  intro pins s σ H Q I hq
  refine wpAny_List_spliced (thn (h pos pins s σ H _ I hq) fun us s1 ⟨xs, H1, I1, r, z, q⟩ => ⟨by rw [← r.length]; exact z, ?_⟩)
  have hf : H1 s1.heap.objs.size = none := I1.hok.fresh (Nat.le_refl _)
  refine ⟨.ref s1.heap.objs.size, upd H1 s1.heap.objs.size (.lst xs), I1.laid (t' := s1.toks) (fun b u e => Heap.get?_push_of_some _ e) (Nat.le_refl _) ?_, rfl, q _ hf⟩
  exact ⟨z, us, 0, r, Heap.get?_push_size _ rfl⟩
end

/-! ### what a def promises -/
/-- a def's promise: the bound arguments in the parameters' order, the heap, the wanted end, the wanted exception -/
abbrev Sp := List V → Hp → VK → XK → Prop
/-- how an exception lies behind a call (file 08 gives it): the callers' frames, abstract heap and state ahead of the call, the wish, the exception, the state -/
abbrev CXT := List Env → Hp → Shared → XK → Value → Shared → Prop

/-- the state at a call -/
structure Env0 (P : Program) (w : World) (K : PySem.W.Frag) (mg : Str → Option Value) (base : Heap) (A : Around) (outer : List Env) (s : Shared) (H : Hp) : Prop where
  frames : A.frames = some outer
  mod : Mod K mg base
  bs : ∀ b o, base.get? b = some o → s.heap.get? b = some o ∧ H b = none
  bsz : base.objs.size ≤ s.heap.objs.size
  funs : s.heap.FunFrames base outer
  frf : ∀ b ∈ frs outer, H b = none
  hok : HOk P w H s.heap
  bare : AllBare s.gens
/-- a call's end -/
def CE (outer : List Env) (P : Program) (w : World) (H : Hp) (s : Shared) (Q : VK) (u : Value) (s' : Shared) : Prop :=
  ∃ v H', s'.os = s.os ∧ AllBare s'.gens ∧ Un (frs outer) [] H H' s.heap s'.heap ∧ HOk P w H' s'.heap ∧ RelV v u ∧ Q v H'
def CR (CX : CXT) (outer : List Env) (P : Program) (w : World) (H : Hp) (s : Shared) (Q : VK) (E : XK) (r : Result) (s' : Shared) : Prop :=
  match r with
  | .ok (.ret u) => CE outer P w H s Q u s'
  | .ok _ => False
  | .error e => CX outer H s E e s'
structure FnOk (P : Program) (w : World) (K : PySem.W.Frag) (mg : Str → Option Value) (base : Heap) (CX : CXT) (k : Nat) (f : Addr) (fd : FuncData) (ps : List Str) (sp : Sp) : Prop where
  len : ∀ vs H Q E, sp vs H Q E → vs.length = ps.length
  run : ∀ (A : Around) (outer : List Env) (s : Shared) (H : Hp) (args : Args) (us : List Value) (vs : List V) (Q : VK) (E : XK), Room k A → Env0 P w K mg base A outer s H → BindsTo s fd args (ps.zip us) → Vals vs us → sp vs H Q E →
    codeAny (model P w) A (.call (.ref f) args) (CR CX outer P w H s Q E) s
theorem Env0.make {P : Program} {w : World} {K : PySem.W.Frag} {mg : Str → Option Value} {base : Heap} {A : Around} {outer : List Env} {s : Shared} {H : Hp} (e : Env0 P w K mg base A outer s H) (C : Addr) (us : List Value) (kw : List (Str × Value)) :
    Env0 P w K mg base (A.under (.builtin "type.__call__" ⟨.ref C :: us, kw⟩)) outer s H := ⟨by first | exact e.frames | (simpa [Around.under, Code.envs, Code.isFrame, pushEnvs] using e.frames), e.mod, e.bs, e.bsz, e.funs, e.frf, e.hok, e.bare⟩
section
variable {X : Cx} {pins : List (Addr × Obj)} {σ : St} {H : Hp} {s s' : Shared}
/-- from a body: what a callee wants -/
theorem Inv.env0 (I : Inv X pins σ H s) : Env0 X.prog X.w X.K X.mg X.base X.A X.stack s H :=
  ⟨I.ok.frames, I.ok.mod, I.bs, Nat.le_trans I.ok.bsz I.sz, I.stack, I.stkFree, I.hok, I.bare⟩
/-- behind a call -/
theorem Inv.after {Q : VK} {u : Value} (I : Inv X pins σ H s) (h : CE X.stack X.prog X.w H s Q u s') : EP X pins σ Q u s' := by
  obtain ⟨v, H', os, bare, un, hok, r, q⟩ := h
  obtain ⟨hh, g, d, t, os'⟩ := s'
  obtain rfl : os' = s.os := os
  exact ⟨v, H', I.call (h' := hh) (g' := g) (d' := d) (t' := t) (ch := []) un hok bare (fun b z => absurd z (by simp)), r, q⟩
end

/-! ### calls -/
/-- f(..): the written arguments, then the defaults dvs; E: what is wanted of an exception -/
def tCall (sp : Sp) (dvs : List V) (E : XK) (t : TA) : TE := fun σ H Q => t σ H fun vs H1 => sp (vs ++ dvs) H1 Q E
/-- o.m(..) of an instance of the class at C -/
def tMeth (C : Addr) (m : Str) (sp : Sp) (dvs : List V) (E : XK) (ta : TE) (t : TA) : TE := fun σ H Q => ta σ H fun x H1 => ∃ a dx fs, x = .ref a ∧ H1 a = some (.ins C dx fs) ∧ fs.lookup m = none ∧
  t σ H1 fun vs H2 => sp (x :: (vs ++ dvs)) H2 Q E
/-- C(..): a new instance and its dict, then __init__ -/
def tMake (C : Addr) (sp : Sp) (dvs : List V) (E : XK) (t : TA) : TE := fun σ H Q => t σ H fun vs H1 => ∀ x dx, H1 x = none → H1 dx = none → dx ≠ x →
  sp (.ref x :: (vs ++ dvs)) (upd (upd H1 dx (.own x)) x (.ins C dx [])) (fun v H2 => v = .non ∧ Q (.ref x) H2) E

/-- how the parameters are bound: us the positional arguments, kw the keywords' values by name, ds the defaults that fill up -/
def Binds (K : PySem.W.Frag) (fd : FuncData) (ps : List Str) (ds : List Value) : Prop :=
  ∀ (s : Shared) (us : List Value), K.In s.heap → (us ++ ds).length = ps.length → BindsTo s fd ⟨us, []⟩ (ps.zip (us ++ ds))
/-- every parameter is given -/
theorem Binds.all {K : PySem.W.Frag} {fd : FuncData} {ps : List Str} (h : ∀ us : List Value, us.length = ps.length → bindArgs fd ⟨us, []⟩ = pure (ps.zip us)) : Binds K fd ps [] := fun s us _ hl => by
  rw [List.append_nil] at hl ⊢
  exact .of_eq (h us hl)

/-- an exception of a callee reaches what this body wants of exceptions -/
def Passes (CX : CXT) (X : Cx) (E : XK) : Prop := ∀ (pins : List (Addr × Obj)) (σ : St) (H : Hp) (s : Shared) (e : Value) (s' : Shared), Inv X pins σ H s → CX X.stack H s E e s' → X.xe e s'

section
variable {X : Cx} {CX : CXT} {k : Nat} {f C : Addr} {fd : FuncData} {ps : List Str} {sp : Sp} {dvs : List V} {ds : List Value} {E : XK} {x m : Str} {p pos apos : Pos} {e o : Expr} {es : List Expr} {ta : TE} {t : TA}

/-- the callee runs -/
theorem run_fn {pins : List (Addr × Obj)} {σ : St} {H : Hp} {s : Shared} {Q : VK} {us : List Value} {vs : List V} (F : FnOk X.prog X.w X.K X.mg X.base CX k f fd ps sp) (hr : Room k X.A) (hb : Binds X.K fd ps ds) (hd : Vals dvs ds) (hx : Passes CX X E)
    (I : Inv X pins σ H s) (r : Vals vs us) (h : sp (vs ++ dvs) H Q E) : wpAny (model X.prog X.w) X.A (call (.ref f) us) (EP X pins σ Q) X.xe s := by
  have r2 : Vals (vs ++ dvs) (us ++ ds) := r.append hd
  have hl : (us ++ ds).length = ps.length := by rw [← r2.length]; exact F.len _ _ _ _ h
  refine wpAny_call (codeAny_mono (F.run X.A X.stack s H ⟨us, []⟩ (us ++ ds) (vs ++ dvs) Q E hr I.env0 (hb s us I.kIn hl) r2 h) fun r s' hq => ?_)
  cases r with
  | error e => exact hx pins σ H s e s' I hq
  | ok fl =>
    cases fl with
    | ret u => exact I.after hq
    | next => exact False.elim hq
    | brk => exact False.elim hq
    | cont => exact False.elim hq

theorem pe_call (F : FnOk X.prog X.w X.K X.mg X.base CX k f fd ps sp) (hr : Room k X.A) (hg : Gl X x) (hm : X.mg x = some (.ref f)) (hk : PySem.W.keepIn X.K (.ref f) = true) (hb : Binds X.K fd ps ds) (hd : Vals dvs ds) (hx : Passes CX X E)
    (ha : PA X (e :: es) t) (hdb : (x == ("__debug__" : Str)) = false := by decide) (he : starEach (e :: es) X.env = (false, eval e X.env) :: starEach es X.env := by rfl) (hpl : (backTo pos (starEach es X.env)).any (·.1) = false := by rfl) :
    PE X (.Call (.Name x p) (e :: es) [] pos) (tCall sp dvs E t) := by
  intro pins s σ H Q I h
  refine wpAny_Call_Name_kw (ld_glob I hg hm ?_ hdb)
  refine PySem.W.callWith_K (h₀ := X.base) I.ok.mod.kin hk (thn (ha pos pins s σ H _ I h) fun us s1 ⟨vs, H1, I1, r, q⟩ => ⟨I1.kIn, ?_⟩) he hpl
  exact run_fn F hr hb hd hx I1 r q
/-- o.m(e, ..) -/
theorem pe_meth {pl : Sem Bool} (he : PE X o ta) (c : Cls X.K C) (hm : Meth X.K C m f) (F : FnOk X.prog X.w X.K X.mg X.base CX k f fd ps sp) (hr : Room k X.A) (hb : Binds X.K fd ps ds) (hd : Vals dvs ds) (hx : Passes CX X E) (ha : PA X (e :: es) t)
    (hst : starEach (e :: es) X.env = (false, eval e X.env) :: starEach es X.env := by rfl) (hpl : (backTo pos (starEach es X.env)).any (·.1) = false := by rfl)
    (ht : eval (.Call (.Attribute o m apos) (e :: es) [] pos) X.env = (do
      let ov ← eval o X.env
      standAt apos.atName
      let (f, first) ← holding [ov] (getMethod ov m pl)
      callWith pos f first (backTo pos (starEach (e :: es) X.env)) (backToKw pos (keywordEach [] X.env))) := by rfl) :
    PE X (.Call (.Attribute o m apos) (e :: es) [] pos) (tMeth C m sp dvs E ta t) := by
  intro pins s σ H Q I h
  refine PySem.W.methodCall_KW (pl := pl) (thn (he pins s σ H _ I h) fun u s1 ⟨x, H1, I1, rx, a, dx, fs, ex, ea, l, q⟩ => ?_) ht
  subst ex
  obtain rfl : u = Value.ref a := rx
  refine getmeth_ok I1 ea c hm l ?_
  refine PySem.W.callWith_K (first := [.ref a]) (h₀ := X.base) I.ok.mod.kin hm.kp (thn (ha pos pins s1 σ H1 _ I1 q) fun us s2 ⟨vs, H2, I2, r, q2⟩ => ⟨I2.kIn, ?_⟩) hst hpl
  exact run_fn (us := .ref a :: us) (vs := .ref a :: vs) F hr hb hd hx I2 (.cons rfl r) q2
/-- o.m() -/
theorem pe_meth0 {pl : Sem Bool} (he : PE X o ta) (c : Cls X.K C) (hm : Meth X.K C m f) (F : FnOk X.prog X.w X.K X.mg X.base CX k f fd ps sp) (hr : Room k X.A) (hb : Binds X.K fd ps ds) (hd : Vals dvs ds) (hx : Passes CX X E)
    (ht : eval (.Call (.Attribute o m apos) [] [] pos) X.env = (do
      let ov ← eval o X.env
      standAt apos.atName
      let (f, first) ← holding [ov] (getMethod ov m pl)
      callWith pos f first (backTo pos (starEach [] X.env)) (backToKw pos (keywordEach [] X.env))) := by rfl) :
    PE X (.Call (.Attribute o m apos) [] [] pos) (tMeth C m sp dvs E ta tNil) := by
  intro pins s σ H Q I h
  refine PySem.W.methodCall_KW (pl := pl) (thn (he pins s σ H _ I h) fun u s1 ⟨x, H1, I1, rx, a, dx, fs, ex, ea, l, q⟩ => ?_) ht
  subst ex
  obtain rfl : u = Value.ref a := rx
  refine getmeth_ok I1 ea c hm l ?_
  exact PySem.W.callWith_K0 (first := [.ref a]) I1.kIn hm.kp (run_fn (us := [.ref a]) (vs := [.ref a]) F hr hb hd hx I1 (.cons rfl .nil) q)

/-- what a class must have to be made -/
structure Mk (K : PySem.W.Frag) (C f : Addr) : Prop where
  makes : PySem.W.makesIn K C = true
  init : PySem.W.findIn K (.ref C) "__init__" = some (some (.ref f))
  fn : PySem.W.isFn K (.ref f) = true
  kp : PySem.W.keepIn K (.ref C) = true

theorem run_make {pins : List (Addr × Obj)} {σ : St} {H : Hp} {s : Shared} {Q : VK} {us : List Value} {vs : List V} (M : Mk X.K C f) (F : FnOk X.prog X.w X.K X.mg X.base CX k f fd ps sp) (hr : Room (k + 1) X.A) (hb : Binds X.K fd ps ds) (hd : Vals dvs ds)
    (hx : Passes CX X E) (I : Inv X pins σ H s) (r : Vals vs us)
    (h : ∀ x dx, H x = none → H dx = none → dx ≠ x → sp (.ref x :: (vs ++ dvs)) (upd (upd H dx (.own x)) x (.ins C dx [])) (fun v H2 => v = .non ∧ Q (.ref x) H2) E) :
    wpAny (model X.prog X.w) X.A (call (.ref C) us) (EP X pins σ Q) X.xe s := by
  have hq := h (s.heap.objs.size + 1) s.heap.objs.size (I.hok.fresh (Nat.le_succ _)) (I.hok.fresh (Nat.le_refl _)) (Nat.ne_of_lt (Nat.lt_succ_self _))
  have I2 := Inv.made (C := C) I
  have r2 : Vals (V.ref (s.heap.objs.size + 1) :: (vs ++ dvs)) (Value.ref (s.heap.objs.size + 1) :: (us ++ ds)) := .cons rfl (r.append hd)
  have hl : (Value.ref (s.heap.objs.size + 1) :: us ++ ds).length = ps.length := by
    have e := r2.length
    rw [F.len _ _ _ _ hq] at e
    exact e.symm
  refine wpAny_call (make_map (f := f) I.kIn M.makes M.init (beq_iff_eq.mp M.fn) (codeAny_mono (F.run _ X.stack _ _ ⟨Value.ref (s.heap.objs.size + 1) :: us, []⟩ (Value.ref (s.heap.objs.size + 1) :: (us ++ ds)) _ _ E (hr.make C us [])
    (I2.env0.make C us []) (hb _ (Value.ref (s.heap.objs.size + 1) :: us) I2.kIn hl) r2 hq) fun r s' hq' => ?_))
  cases r with
  | error e => exact hx pins σ _ _ e s' I2 hq'
  | ok fl =>
    cases fl with
    | ret u =>
      obtain ⟨v, H', I3, rv, ev, q3⟩ := I2.after hq'
      subst ev
      exact ⟨rv, ⟨V.ref (s.heap.objs.size + 1), H', I3, rfl, q3⟩⟩
    | next => exact False.elim hq'
    | brk => exact False.elim hq'
    | cont => exact False.elim hq'
theorem pe_make (M : Mk X.K C f) (F : FnOk X.prog X.w X.K X.mg X.base CX k f fd ps sp) (hr : Room (k + 1) X.A) (hg : Gl X x) (hm : X.mg x = some (.ref C)) (hb : Binds X.K fd ps ds) (hd : Vals dvs ds) (hx : Passes CX X E)
    (ha : PA X (e :: es) t) (hdb : (x == ("__debug__" : Str)) = false := by decide) (he : starEach (e :: es) X.env = (false, eval e X.env) :: starEach es X.env := by rfl) (hpl : (backTo pos (starEach es X.env)).any (·.1) = false := by rfl) :
    PE X (.Call (.Name x p) (e :: es) [] pos) (tMake C sp dvs E t) := by
  intro pins s σ H Q I h
  refine wpAny_Call_Name_kw (ld_glob I hg hm ?_ hdb)
  refine PySem.W.callWith_K (h₀ := X.base) I.ok.mod.kin M.kp (thn (ha pos pins s σ H _ I h) fun us s1 ⟨vs, H1, I1, r, q⟩ => ⟨I1.kIn, ?_⟩) he hpl
  exact run_make M F hr hb hd hx I1 r q
end

/-! ### keywords -/
/-- the values of the keywords, from the left -/
def PK (X : Cx) (kws : List Keyword) (t : TA) : Prop :=
  ∀ (pos : Pos) (pins : List (Addr × Obj)) (s : Shared) (σ : St) (H : Hp) (Q : List V → Hp → Prop), Inv X pins σ H s → t σ H Q → wpAny (model X.prog X.w) X.A (evalAll ((backToKw pos (keywordEach kws X.env)).map (·.2))) (AP X pins σ Q) X.xe s
section
variable {X : Cx} {CX : CXT} {k : Nat} {f C : Addr} {fd : FuncData} {ps ks : List Str} {sp : Sp} {E : XK} {x m : Str} {p pos apos kpos : Pos} {e o : Expr} {es : List Expr} {kws : List Keyword} {te ta : TE} {t tk : TA} {nm : Option Str}
/-- how a call with keywords binds: g puts the positional values us and the keywords' values ws (names ks) in the parameters' order, defaults among them -/
structure KBinds (K : PySem.W.Frag) (fd : FuncData) (ps ks : List Str) (g : List Value → List Value → List Value) (gV : List V → List V → List V) : Prop where
  to : ∀ (s : Shared) (us ws : List Value), K.In s.heap → (g us ws).length = ps.length → BindsTo s fd ⟨us, ks.zip ws⟩ (ps.zip (g us ws))
  rel : ∀ {vs : List V} {us : List Value} {zs : List V} {ws : List Value}, Vals vs us → Vals zs ws → Vals (gV vs zs) (g us ws)
def tCallK (sp : Sp) (gV : List V → List V → List V) (E : XK) (t tk : TA) : TE := fun σ H Q => t σ H fun vs H1 => tk σ H1 fun zs H2 => sp (gV vs zs) H2 Q E
variable {g : List Value → List Value → List Value} {gV : List V → List V → List V}
end

/-! ### a def's body keeps its promise -/
/-- names: the parameters first -/
structure FnScope (N P : List Str) (sc : Scope) : Prop where
  kind : sc.kind = .function
  co : sc.isCoroutine = false
  gen : sc.isGenerator = false
  nd : N.Nodup
  pre : N.take P.length = P
  par : ∀ x ∈ P, sc.names.lookup x = some .local ∨ sc.names.lookup x = some .cell
  nofree : ∀ y ∈ sc.names, y.2 ≠ .free

theorem bindL_out {kindOf : Str → Option NameKind} {x : Str} : ∀ {binds : List (Str × Value)} {m : Str → Option Value}, (∀ v, (x, v) ∉ binds) → bindL kindOf binds m x = m x
  | [], _, _ => rfl
  | (n, v) :: r, m, h => by
    unfold bindL
    rw [bindL_out fun w hw => h w (List.mem_cons_of_mem _ hw)]
    split
    · have : x ≠ n := by rintro rfl; exact h v List.mem_cons_self
      simp [this]
    · rfl
theorem bindC_out {kindOf : Str → Option NameKind} {x : Str} : ∀ {binds : List (Str × Value)} {m : Str → Option Value}, (∀ v, (x, v) ∉ binds) → bindC kindOf binds m x = m x
  | [], _, _ => rfl
  | (n, v) :: r, m, h => by
    unfold bindC
    rw [bindC_out fun w hw => h w (List.mem_cons_of_mem _ hw)]
    split
    · rfl
    · have : x ≠ n := by rintro rfl; exact h v List.mem_cons_self
      simp [this]
theorem bindL_get {kindOf : Str → Option NameKind} {x : Str} {v : Value} : ∀ {P : List Str} {vs : List Value} {i : Nat} {m : Str → Option Value}, P.Nodup → P[i]? = some x → vs[i]? = some v → kindOf x = some .local →
    bindL kindOf (P.zip vs) m x = some v
  | [], _, _, _, _, h, _, _ => by simp at h
  | _ :: _, [], _, _, _, _, h, _ => by simp at h
  | p :: P, w :: vs, 0, m, nd, h1, h2, hk => by
    simp at h1 h2; subst h1; subst h2
    show bindL kindOf ((p, w) :: P.zip vs) m p = _
    unfold bindL
    rw [bindL_out fun v hv => (List.nodup_cons.mp nd).1 (List.of_mem_zip hv).1, if_pos hk]
    simp
  | p :: P, w :: vs, i + 1, m, nd, h1, h2, hk => by
    show bindL kindOf ((p, w) :: P.zip vs) m x = _
    unfold bindL
    exact bindL_get (i := i) (List.nodup_cons.mp nd).2 (by simpa using h1) (by simpa using h2) hk
theorem bindC_get {kindOf : Str → Option NameKind} {x : Str} {v : Value} : ∀ {P : List Str} {vs : List Value} {i : Nat} {m : Str → Option Value}, P.Nodup → P[i]? = some x → vs[i]? = some v → kindOf x ≠ some .local →
    bindC kindOf (P.zip vs) m x = some v
  | [], _, _, _, _, h, _, _ => by simp at h
  | _ :: _, [], _, _, _, _, h, _ => by simp at h
  | p :: P, w :: vs, 0, m, nd, h1, h2, hk => by
    simp at h1 h2; subst h1; subst h2
    show bindC kindOf ((p, w) :: P.zip vs) m p = _
    unfold bindC
    rw [bindC_out fun v hv => (List.nodup_cons.mp nd).1 (List.of_mem_zip hv).1, if_neg hk]
    simp
  | p :: P, w :: vs, i + 1, m, nd, h1, h2, hk => by
    show bindC kindOf ((p, w) :: P.zip vs) m x = _
    unfold bindC
    exact bindC_get (i := i) (List.nodup_cons.mp nd).2 (by simpa using h1) (by simpa using h2) hk

/-- the names' values at the entry -/
def start (N : List Str) (vs : List V) : St := vs.map some ++ List.replicate (N.length - vs.length) none

/-- the context of a def's body, at its entry; an exception leaves the frame, then lies as CX says -/
def cxOf (CX : CXT) (P : Program) (w : World) (K : PySem.W.Frag) (mg : Str → Option Value) (base : Heap) (N : List Str) (qual : Str) (scope : Scope) (f : Addr) (cd : Value) (A : Around) (outer : List Env) (s : Shared) (H : Hp) (E : XK) : Cx where
  prog := P
  w := w
  K := K
  mg := mg
  base := base
  A := A.deeper (envOfC qual scope s.heap.objs.size f cd)
  N := N
  s₀ := s
  H₀ := H
  env := envOfC qual scope s.heap.objs.size f cd
  outer := outer
  stack := envOfC qual scope s.heap.objs.size f cd :: outer
  ex := []
  calm := true
  fn := fun _ => true
  pn := []
  xe := fun e s' => wpAny (model P w) (A.deeper (envOfC qual scope s.heap.objs.size f cd)) (leaving (envOfC qual scope s.heap.objs.size f cd) e) (fun _ s'' => CX outer H s E e s'') (fun e' s'' => CX outer H s E e' s'') s'

theorem cell_has {sc : Scope} {n : Nat} {x : Str} (h : sc.names.lookup x = some .cell) : ∃ c, (cellsFrom n sc.names []).lookup x = some c := by
  have q := PySem.W.cellsFrom_some sc.names n [] (.inl h)
  exact Option.isSome_iff_exists.mp q

theorem inv_start {CX : CXT} {P : Program} {w : World} {K : PySem.W.Frag} {mg : Str → Option Value} {base : Heap} {N ps : List Str} {qual : Str} {scope : Scope} {f : Addr} {cd : Value} {A : Around} {outer : List Env} {s s1 : Shared} {H : Hp} {E : XK} {us : List Value} {vs : List V}
    (S : FnScope N ps scope) (hd : A.handled = none) (e0 : Env0 P w K mg base A outer s H) (hl : vs.length = ps.length) (r : Vals vs us)
    (x : InCallC s s.heap.objs.size (bindL (envOfC qual scope s.heap.objs.size f cd).kindOf (ps.zip us) fun _ => none) (cellsFrom (s.heap.objs.size + 1) scope.names []) (bindC (envOfC qual scope s.heap.objs.size f cd).kindOf (ps.zip us) fun _ => none) s1) :
    Inv (cxOf CX P w K mg base N qual scope f cd A outer s H E) [] (start N vs) H s1 := by
  have hpl : ps.length ≤ N.length := by have := congrArg List.length S.pre; rw [List.length_take] at this; omega
  obtain ⟨h1, tk, rfl, hk⟩ := x.done
  have noA : ∀ b : Addr, b ∉ (cxOf CX P w K mg base N qual scope f cd A outer s H E).ex := fun b z => absurd (show b ∈ ([] : List Addr) from z) (by simp)
  refine ⟨⟨e0.mod, S.kind, rfl, rfl, Nat.le_refl _, fun y z c h1 h2 => ?_, fun y hy => ?_, fun y c _ h => ?_, fun _ => hd, Around.frames_deeper e0.frames, .inr ⟨rfl, rfl⟩, fun b z => absurd z (noA b), e0.bs, e0.bsz, fun b _ _ => noA b, fun b z => absurd z (noA b), e0.funs, e0.frf⟩,
    rfl, e0.bare, Un.kept hk, ⟨_, x.toInCall.ns, fun i y v h1 h2 h3 => ?_⟩, fun y c h => ⟨_, x.cell y c h⟩, e0.hok.fresh (Nat.le_refl _), fun y c h => ?_, fun p hp => absurd (show p ∈ ([] : List (Addr × Obj)) from hp) (by simp), e0.hok.kept hk, ?_⟩
  · exact name_of_addr x.apart (PySem.mem_of_lookup h1) (PySem.mem_of_lookup h2)
  · have hy : scope.names.lookup y = some .cell ∨ scope.names.lookup y = some .free := hy
    rcases hy with hy | hy
    · exact cell_has hy
    · exact absurd rfl (S.nofree _ (PySem.mem_of_lookup hy))
  · exact Nat.le_of_lt (x.above y c (PySem.mem_of_lookup h))
  · have hi : i < vs.length := by
      unfold start at h2
      by_cases hi : i < vs.length
      · exact hi
      · rw [List.getElem?_append_right (by simpa using hi)] at h2
        rw [List.getElem?_replicate] at h2
        split at h2 <;> cases h2
    have ha : vs[i]? = some v := by
      unfold start at h2
      rw [List.getElem?_append_left (by simpa using hi), List.getElem?_map] at h2
      cases e : vs[i]? with
      | none => rw [e] at h2; cases h2
      | some a => rw [e] at h2; cases h2; rfl
    obtain ⟨u, hu, rv⟩ := r.get ha
    have hp : ps[i]? = some y := by
      rw [← S.pre, List.getElem?_take_of_lt (by omega)]; exact h1
    have ndP : ps.Nodup := by rw [← S.pre]; exact S.nd.sublist (List.take_sublist _ _)
    refine ⟨u, rv, ?_⟩
    rcases S.par y (List.mem_of_getElem? hp) with k | k
    · exact .inl ⟨k, bindL_get ndP hp hu k⟩
    · obtain ⟨c, e⟩ := cell_has (n := s.heap.objs.size + 1) k
      refine .inr ⟨.inl k, c, e, ?_⟩
      have q := x.cell y c e
      rw [bindC_get ndP hp hu (by show scope.names.lookup y ≠ _; rw [k]; decide)] at q
      exact q
  · exact e0.hok.fresh (Nat.le_of_lt (x.above y c (PySem.mem_of_lookup h)))
  · unfold start
    show _ = N.length
    rw [List.length_append, List.length_map, List.length_replicate]
    omega

/-- THE RULE: a def (or a method) of the text, by its body. The body's reading t is chosen for each entry; it is run at the parameters' values -/
theorem fn_of {CX : CXT} {P : Program} {w : World} {K : PySem.W.Frag} {mg : Str → Option Value} {base : Heap} {k : Nat} {f : Addr} {name qual : Str} {params : Arguments} {body : List Stmt} {scope : Scope} {dV kV doc pm cdv ct oc : Value} {an od : Option Addr}
    {osl : Array (Option Value)} {N ps : List Str} {sp : Sp} (lk : K.lookup f = some ⟨oc, od, .func (PySem.W.fnOf name qual params body scope dV kV doc pm an cdv ct), osl⟩) (hcd : PySem.W.codeIn K cdv qual = true) (S : FnScope N ps scope)
    (len : ∀ vs H Q E, sp vs H Q E → vs.length = ps.length)
    (hbody : ∀ (A : Around) (outer : List Env) (s : Shared) (H : Hp) (vs : List V) (Q : VK) (E : XK), Room k (A.deeper (envOfC qual scope s.heap.objs.size f cdv)) → sp vs H Q E →
      ∃ t, PSs (cxOf CX P w K mg base N qual scope f cdv A outer s H E) body t ∧ t { nx := fun _ H' => Q .non H', rt := Q } (start N vs) H) :
    FnOk P w K mg base CX (k + 1) f (PySem.W.fnOf name qual params body scope dV kV doc pm an cdv ct) ps sp := by
  refine ⟨len, fun A outer s H args us vs Q E hr e0 hb r hsp => ?_⟩
  have hl := len _ _ _ _ hsp
  have KX : K.In s.heap := e0.mod.kin.keeps fun b o e => (e0.bs b o e).1
  have lim : s.heap.NoLimit := e0.mod.nolimit.keeps fun b o e => (e0.bs b o e).1
  have hkind : ∀ y ∈ ps.zip us, scope.names.lookup y.1 = some .local ∨ (scope.names.lookup y.1 = some .cell ∧ ((cellsFrom (s.heap.objs.size + 1) scope.names []).lookup y.1).isSome = true) := fun ⟨n, v⟩ hy => by
    rcases S.par n (List.of_mem_zip hy).1 with q | q
    · exact .inl q
    · exact .inr ⟨q, PySem.W.cellsFrom_some _ _ _ (.inl q)⟩
  refine codeAny_call_function hr.depth (KX _ _ lk) rfl S.co S.gen rfl (PySem.W.codeRec_of KX hcd) (hb _ _ _ _ ?_)
  refine wpAny_newFunctionEnv_cells S.kind hkind fun env he s1 x => ?_
  subst he
  refine ⟨lim.keeps x.toInCall.keep, codeAny_func ?_⟩
  obtain ⟨t, ht, hq⟩ := hbody A outer s H vs Q E (hr.deeper _) hsp
  have I : Inv (cxOf CX P w K mg base N qual scope f cdv A outer s H E) [] (start N vs) H s1 := inv_start S hr.hd e0 hl r x
  refine wpAny_mono (ht [] s1 (start N vs) H _ I hq) (fun fl s' hs => ?_) fun e s' hs => hs
  have fin : ∀ {σ' : St} {H' : Hp} {v : V} {u : Value}, Inv (cxOf CX P w K mg base N qual scope f cdv A outer s H E) [] σ' H' s' → RelV v u → Q v H' → CE outer P w H s Q u s' :=
    fun {σ' H' v u} J rv q => ⟨v, H', J.os, J.bare, J.base, J.hok, rv, q⟩
  cases fl with
  | ret u =>
    obtain ⟨v, σ', H', J, rv, q⟩ := hs
    exact fin J rv q
  | next =>
    obtain ⟨σ', H', J, q⟩ := hs
    exact fin (v := V.non) (u := Value.none) J rfl q
  | brk =>
    obtain ⟨_, _, _, q⟩ := hs
    exact False.elim q
  | cont =>
    obtain ⟨_, _, _, q⟩ := hs
    exact False.elim q
end L2

namespace L2
open PySem PySem.Spec PyProof.Rows
section
variable {X : Cx} {x : Str} {p pos : Pos} {e : Expr} {es : List Expr} {t : TA} {id T : String} {r : List V → Hp → VK → Prop}

def tCB (r : List V → Hp → VK → Prop) (t : TA) : TE := fun σ H Q => t σ H fun vs H1 => r vs H1 Q
/-- f(e, ..), f a built-in function -/
theorem pe_callB (hc : CallR X (.builtin id) r) (hg : Gl X x) (hm : X.mg x = none) (hv : bootBuiltins x = some (.builtin id)) (ha : PA X (e :: es) t) (hn : x ≠ "__name__" := by decide) (hdb : (x == ("__debug__" : Str)) = false := by decide)
    (he : starEach (e :: es) X.env = (false, eval e X.env) :: starEach es X.env := by rfl) (hpl : (backTo pos (starEach es X.env)).any (·.1) = false := by rfl) : PE X (.Call (.Name x p) (e :: es) [] pos) (tCB r t) := by
  intro pins s σ H Q I h
  refine wpAny_Call_Name_kw (ld_blt I hg hm hv ?_ hn hdb)
  exact PyProof.Rows.callWith_builtin1 (thn (ha pos pins s σ H _ I h) fun us s1 ⟨vs, H1, I1, r1, q1⟩ => hc pins s1 σ H1 vs us Q I1 r1 q1) he hpl
/-- T(e, ..), T a built-in type -/
theorem pe_callTy (hc : CallR X (.type T) r) (hg : Gl X x) (hm : X.mg x = none) (hv : bootBuiltins x = some (.type T)) (ha : PA X (e :: es) t) (hn : x ≠ "__name__" := by decide) (hdb : (x == ("__debug__" : Str)) = false := by decide)
    (he : starEach (e :: es) X.env = (false, eval e X.env) :: starEach es X.env := by rfl) (hpl : (backTo pos (starEach es X.env)).any (·.1) = false := by rfl) : PE X (.Call (.Name x p) (e :: es) [] pos) (tCB r t) := by
  intro pins s σ H Q I h
  refine wpAny_Call_Name_kw (ld_blt I hg hm hv ?_ hn hdb)
  exact PyProof.Rows.callWith_type1 (thn (ha pos pins s σ H _ I h) fun us s1 ⟨vs, H1, I1, r1, q1⟩ => hc pins s1 σ H1 vs us Q I1 r1 q1) he hpl
end
end L2

namespace HT
open PySem PyProof.Rows

/-- t < u of tuples of ints -/
def lexLt : List Int → List Int → Bool
  | [], [] => false
  | [], _ :: _ => true
  | _ :: _, [] => false
  | x :: xs, y :: ys => if x = y then lexLt xs ys else decide (x < y)
section
open PySem.SeqAt
open PySem.AutoSeq1 (wpAny_loadPart')
open PySem.MeetsSeq PySem.MeetsSeq2 PySem.MeetsSeq3

end

section
variable {prog : Program} {w : World} {A : Around} {E : Value → Shared → Prop} {s : Shared}

/-! ### t[a:b], not the whole -/
/-- a slice's bound as a place among n (d where it is left out) -/
def sIx (n d : Nat) : Option Int → Nat
  | none => d
  | some v => if v < 0 then (v + (n : Int)).toNat else min v.toNat n
end
end HT

namespace L2
open PySem PySem.Spec PyProof.Rows

/-! ### the parts of a slice -/
abbrev TO := St → Hp → (Option Int → Hp → Prop) → Prop
/-- a slice's part (left out, or an int) -/
def PO (X : Cx) (e : Option Expr) (t : TO) : Prop :=
  ∀ (pins : List (Addr × Obj)) (s : Shared) (σ : St) (H : Hp) (Q : Option Int → Hp → Prop), Inv X pins σ H s → t σ H Q →
    wpAny (model X.prog X.w) X.A (evalPart e X.env) (fun u s' => ∃ o H', Inv X pins σ H' s' ∧ IsPart u o ∧ Q o H') X.xe s
def tNoPart : TO := fun _ H Q => Q none H
def tPart (t : TE) : TO := fun σ H Q => t σ H fun x H1 => ∃ i, x = .int i ∧ Q (some i) H1

theorem intsAre_of {ns : List Int} : ∀ {us : List Value}, Vals (ns.map V.int) us → IntsAre us ns := by
  induction ns with
  | nil => intro us r; rw [List.map_nil] at r; cases r; exact .nil
  | cons n ns ih =>
    intro us r
    rw [List.map_cons] at r
    cases r with
    | cons r1 r2 =>
      obtain ⟨t, e⟩ := r1
      subst e
      exact .cons n t (ih r2)

section
variable {X : Cx} {e : Expr} {te : TE} {lo hi : Option Expr} {tl th : TO} {pos p2 : Pos}

theorem po_none : PO X none tNoPart := by
  intro pins s σ H Q I h
  rw [evalPart_none]
  exact wpAny_pure ⟨none, H, I, .none, h⟩
theorem po_some (h : PE X e te) : PO X (some e) (tPart te) := by
  intro pins s σ H Q I hw
  rw [evalPart_some]
  refine thn (h pins s σ H _ I hw) fun u s1 ⟨x, H1, I1, r1, q1⟩ => ?_
  obtain ⟨i, rfl, q⟩ := q1
  obtain ⟨t, rfl⟩ := r1
  exact ⟨some i, H1, I1, .int i t, q⟩

/-- what a slice of a value is, by values: the slice object stands at sl -/
def SlR (X : Cx) (r : V → Option Int → Option Int → Hp → VK → Prop) : Prop :=
  ∀ (pins : List (Addr × Obj)) (s : Shared) (σ : St) (H : Hp) (x : V) (v vl vu : Value) (lo hi : Option Int) (sl : Addr) (Q : VK), Inv X pins σ H s → RelV x v → s.heap.IsSliceOf sl vl vu .none → IsPart vl lo → IsPart vu hi → r x lo hi H Q →
    ∃ T id, typeLookup (.type T) "__getitem__" = pure (some (.builtin id)) ∧ s.TypeIs v T ∧ wpAny (model X.prog X.w) X.A (getItem v (.ref sl)) (EP X pins σ Q) X.xe s
def tSl (r : V → Option Int → Option Int → Hp → VK → Prop) (te : TE) (tl th : TO) : TE := fun σ H Q => te σ H fun x H1 => tl σ H1 fun l H2 => th σ H2 fun u H3 => r x l u H3 Q
/-- a[lo:hi], any a -/
theorem pe_slice {r : V → Option Int → Option Int → Hp → VK → Prop} (hr : SlR X r) (he : PE X e te) (hl : PO X lo tl) (hu : PO X hi th) : PE X (.Subscript e (.Slice lo hi none p2) pos) (tSl r te tl th) := by
  intro pins s σ H Q I h
  refine Subscript_ (thn (he pins s σ H _ I h) fun v s1 ⟨x, H1, I1, r1, q1⟩ => ?_)
  refine wpAny_Slice (thn (hl pins s1 σ H1 _ I1 q1) fun vl s2 ⟨l, H2, I2, pl, q2⟩ => thn (hu pins s2 σ H2 _ I2 q2) fun vu s3 ⟨u, H3, I3, pu, q3⟩ => ?_)
  rw [evalPart_none]
  refine wpAny_pure ?_
  have I4 : Inv X pins σ H3 { s3 with heap := s3.heap.push { cls := .type "slice", data := .fields #[vl, vu, .none] } } := I3.kept (t' := s3.toks) fun b ob q => Heap.get?_push_of_some _ q
  obtain ⟨T, id, hT, ht, hg⟩ := hr pins { s3 with heap := s3.heap.push { cls := .type "slice", data := .fields #[vl, vu, .none] } } σ H3 x v vl vu l u s3.heap.objs.size Q I4 r1 (Heap.IsSliceOf.new ..) pl pu q3
  show wpAny (model X.prog X.w) X.A (subscriptTail e (.Slice lo hi none p2) v (.ref s3.heap.objs.size)) (EP X pins σ Q) X.xe { s3 with heap := s3.heap.push { cls := .type "slice", data := .fields #[vl, vu, .none] } }
  exact tail_any (ops := [.ref s3.heap.objs.size, v]) ht hT hg (by with_unfolding_all rfl)

/-- the items of xs[lo:hi] -/
def cutV (xs : List V) (lo hi : Option Int) : List V := (xs.drop (HT.sIx xs.length 0 lo)).take (HT.sIx xs.length xs.length hi - HT.sIx xs.length 0 lo)
theorem cutV_length (xs : List V) (lo hi : Option Int) : (cutV xs lo hi).length ≤ xs.length := by
  unfold cutV
  rw [List.length_take, List.length_drop]
  omega
/-- t[lo:hi], not the whole of it (the whole would be t itself) -/
def rSlT (K : PySem.W.Frag) : V → Option Int → Option Int → Hp → VK → Prop := fun x lo hi H Q => ∃ a xs, x = .ref a ∧ SqT K H a xs ∧
  ¬ (HT.sIx xs.length 0 lo = 0 ∧ HT.sIx xs.length xs.length hi = xs.length) ∧ ∀ p, H p = none → Q (.ref p) (upd H p (.tup (cutV xs lo hi)))
/-! ### t < u, t + u -/
def rLtT (K : PySem.W.Frag) : R2 := fun x y H Q => ∃ a b ns ms, x = .ref a ∧ y = .ref b ∧ SqT K H a (ns.map V.int) ∧ SqT K H b (ms.map V.int) ∧ Q (.bl (HT.lexLt ns ms)) H
/-- t + u, t not empty: u empty gives t itself -/
def rCatT (K : PySem.W.Frag) : R2 := fun x y H Q => ∃ a b xs ys, x = .ref a ∧ y = .ref b ∧ SqT K H a xs ∧ SqT K H b ys ∧ xs ≠ [] ∧ xs.length + ys.length ≤ sizeLine ∧
  (ys = [] → Q (.ref a) H) ∧ (ys ≠ [] → ∀ p, H p = none → Q (.ref p) (upd H p (.tup (xs ++ ys))))
end
end L2

namespace L2
open PySem PySem.Spec PyProof.Rows

/-! ### places -/
/-- the place that an index of any sign means -/
def ixN (n : Nat) (i : Int) : Option Nat := if 0 ≤ i then (if i < n then some i.toNat else none) else if -(n : Int) ≤ i then some (i + n).toNat else none
def atI {α : Type} (xs : List α) (i : Int) : Option α := (ixN xs.length i).bind fun j => xs[j]?
theorem ixN_seq {n : Nat} {i : Int} {j : Nat} (h : ixN n i = some j) : seqIndex? i n = some j ∧ j < n ∧ -(n : Int) ≤ i ∧ i < n := by
  unfold ixN at h
  by_cases h0 : 0 ≤ i
  · rw [if_pos h0] at h
    by_cases h1 : i < n
    · rw [if_pos h1] at h
      have e : i.toNat = j := Option.some.inj h
      exact ⟨by rw [seqIndex_of h0 h1, e], by omega, by omega, h1⟩
    · rw [if_neg h1] at h; cases h
  · rw [if_neg h0] at h
    by_cases h1 : -(n : Int) ≤ i
    · rw [if_pos h1] at h
      have e : (i + n).toNat = j := Option.some.inj h
      exact ⟨by rw [seqIndex_neg (by omega) h1, e], by omega, h1, by omega⟩
    · rw [if_neg h1] at h; cases h
theorem atI_get {α : Type} {xs : List α} {i : Int} {v : α} (h : atI xs i = some v) : ∃ j, seqIndex? i xs.length = some j ∧ xs[j]? = some v ∧ j < xs.length ∧ -(xs.length : Int) ≤ i ∧ i < xs.length := by
  unfold atI at h
  cases e : ixN xs.length i with
  | none => rw [e] at h; cases h
  | some j =>
    rw [e] at h
    obtain ⟨h1, h2, h3, h4⟩ := ixN_seq e
    exact ⟨j, h1, h, h2, h3, h4⟩
theorem atI_nat {α : Type} {xs : List α} {j : Nat} {v : α} (h : xs[j]? = some v) : atI xs (j : Int) = some v := by
  have hj : j < xs.length := (List.getElem?_eq_some_iff.mp h).1
  have e : ixN xs.length (j : Int) = some j := by
    unfold ixN
    rw [if_pos (by omega), if_pos (by omega)]; simp
  unfold atI; rw [e]; exact h
/-! ### what may be subscripted -/
/-- what stands as an index of a plain subscript -/
def PlainIx (b : Expr) : Prop := ∀ o i, subscripted b false o i = operate [o, i] (getItem o i)
/-- a subscript by values -/
def IxR (X : Cx) (r : R2) : Prop :=
  ∀ (value slice : Expr) (pins : List (Addr × Obj)) (s : Shared) (σ : St) (H : Hp) (x y : V) (v u : Value) (Q : VK), Inv X pins σ H s → RelV x v → RelV y u → r x y H Q →
    subscripted slice false v u = operate [v, u] (getItem v u) → wpAny (model X.prog X.w) X.A (subscriptTail value slice v u) (EP X pins σ Q) X.xe s
/-- a call of a builtin's method by values: the receiver, the arguments -/
def MtR (X : Cx) (id : String) (r : V → List V → Hp → VK → Prop) : Prop :=
  ∀ (pins : List (Addr × Obj)) (s : Shared) (σ : St) (H : Hp) (x : V) (xs : List V) (v : Value) (us : List Value) (Q : VK), Inv X pins σ H s → RelV x v → Vals xs us → r x xs H Q →
    wpAny (model X.prog X.w) X.A (call (.builtin id) (v :: us)) (EP X pins σ Q) X.xe s
section
variable {X : Cx} {a b : Expr} {ta tb : TE} {pos : Pos}
/-- a[b] -/
theorem pe_ix {r : R2} (hr : IxR X r) (ha : PE X a ta) (hb : PE X b tb) (hs : PlainIx b) : PE X (.Subscript a b pos) (tOp r ta tb) := by
  intro pins s σ H Q I h
  exact Subscript_ (binT ha hb I h fun v u s2 x y H2 I2 rx ry q => hr a b pins s2 σ H2 x y v u Q I2 rx ry q (hs _ _))

def rIxL (K : PySem.W.Frag) : R2 := fun x y H Q => ∃ p xs i v, x = .ref p ∧ y = .int i ∧ SqL K H p xs ∧ atI xs i = some v ∧ Q v H
def rIxT (K : PySem.W.Frag) : R2 := fun x y H Q => ∃ p xs i v, x = .ref p ∧ y = .int i ∧ SqT K H p xs ∧ atI xs i = some v ∧ Q v H
def rIxS : R2 := fun x y H Q => ∃ z i c, x = .str z ∧ y = .int i ∧ z.length ≤ sizeLine ∧ atI z.cps.toList i = some c ∧ Q (.str ⟨#[c]⟩) H
theorem ix_list : IxR X (rIxL X.K) := by
  intro value slice pins s σ H x y v u Q I rx ry h hs
  obtain ⟨p, xs, i, z, rfl, rfl, hq, he, q⟩ := h
  cases rx
  obtain ⟨t, rfl⟩ := ry
  obtain ⟨its, r, pl, hz⟩ := I.list hq
  obtain ⟨j, h1, h2, h3, h4, h5⟩ := atI_get he
  obtain ⟨w, ew, rw'⟩ := r.get h2
  have hl := r.length
  have hn := line63
  have fin : EP X pins σ Q w s := ⟨z, H, I, rw', q⟩
  by_cases h0 : 0 ≤ i
  · have hj : i.toNat = j := by
      rw [seqIndex_of h0 h5] at h1
      exact Option.some.inj h1
    exact item_listR pl.isList h0 (by omega) (by rw [hj]; simpa using ew) fin hs
  · have hj : (i + (its.toArray.size : Int)).toNat = j := by
      rw [seqIndex_neg (by omega) h4] at h1
      rw [List.size_toArray, ← hl]
      exact Option.some.inj h1
    exact subscriptTail_builtinR (x := w) pl.isList.typeIs slot_list_getitem.lookup
      (wpAny_getItem_list_neg (Q := fun r s' => r = w ∧ EP X pins σ Q r s') pl.isList (by omega) (by rw [List.size_toArray] <;> omega) (by omega) (by rw [hj]; simpa using ew) ⟨rfl, fin⟩) hs
theorem ix_tup : IxR X (rIxT X.K) := by
  intro value slice pins s σ H x y v u Q I rx ry h hs
  obtain ⟨p, xs, i, z, rfl, rfl, hq, he, q⟩ := h
  cases rx
  obtain ⟨t, rfl⟩ := ry
  obtain ⟨its, r, pl, hz⟩ := I.tuple hq
  obtain ⟨j, h1, h2, h3, h4, h5⟩ := atI_get he
  obtain ⟨w, ew, rw'⟩ := r.get h2
  have hl := r.length
  have hn := line63
  have fin : EP X pins σ Q w s := ⟨z, H, I, rw', q⟩
  exact subscriptTail_builtinR (x := w) pl.typeIs slot_tuple_getitem.lookup
    (getItem_tuple (j := j) (Q := fun r s' => r = w ∧ EP X pins σ Q r s') pl (by omega) (by omega) (by rw [List.size_toArray, ← hl]; exact h1) (by simpa using ew) ⟨rfl, fin⟩) hs
theorem ix_str : IxR X rIxS := by
  intro value slice pins s σ H x y v u Q I rx ry h hs
  obtain ⟨z, i, c, rfl, rfl, hz, he, q⟩ := h
  obtain ⟨t, rfl⟩ := rx
  obtain ⟨t', rfl⟩ := ry
  obtain ⟨j, h1, h2, h3, h4, h5⟩ := atI_get he
  have hl : z.cps.toList.length = z.length := by simp [Str.length]
  rw [hl] at h1 h4 h5
  have hn := line63
  exact tail_any (typeIs_str s z t) slot_str_getitem.lookup (getItem_str (c := c) (by
    have e1 : decide (i < -(2 ^ 63 : Int)) = false := decide_eq_false (by omega)
    have e2 : decide (i ≥ 2 ^ 63) = false := decide_eq_false (by omega)
    rw [e1, e2, Bool.or_false]) (by rw [h1]; simpa using h2) ⟨.str ⟨#[c]⟩, H, I.tok _, ⟨_, rfl⟩, q⟩) hs
/-- list, tuple or str -/
def rIx (K : PySem.W.Frag) : R2 := fun x y H Q => rIxL K x y H Q ∨ rIxT K x y H Q ∨ rIxS x y H Q
/-! ### xs[i] = v, any sign -/
def rSetL : V → V → V → Hp → (Hp → Prop) → Prop := fun o i v H Q => ∃ p xs k j, o = .ref p ∧ i = .int k ∧ H p = some (.lst xs) ∧ ixN xs.length k = some j ∧ Q (upd H p (.lst (xs.set j v)))
/-! ### slices -/
theorem slice_bounds (lo hi : Option Int) (n : Nat) : (sliceBounds lo hi none n).1 = ((HT.sIx n 0 lo : Nat) : Int) ∧ (sliceBounds lo hi none n).2.1 = ((HT.sIx n n hi : Nat) : Int) ∧ (sliceBounds lo hi none n).2.2 = 1 := by
  refine ⟨?_, ?_, rfl⟩
  · cases lo with
    | none => simp [sliceBounds, HT.sIx]
    | some i =>
      simp only [sliceBounds, HT.sIx, Option.getD_none, show (1 : Int) > 0 by decide, if_true]
      by_cases h : i < 0
      · simp only [h, if_true] <;> omega
      · simp only [h, if_false] <;> omega
  · cases hi with
    | none => simp [sliceBounds, HT.sIx]
    | some i =>
      simp only [sliceBounds, HT.sIx, Option.getD_none, show (1 : Int) > 0 by decide, if_true]
      by_cases h : i < 0
      · simp only [h, if_true] <;> omega
      · simp only [h, if_false] <;> omega
theorem slicePick_cut (its : List Value) (lo hi : Option Int) : slicePick its.toArray lo hi none = ((its.drop (HT.sIx its.length 0 lo)).take (HT.sIx its.length its.length hi - HT.sIx its.length 0 lo)).toArray := by
  obtain ⟨h1, h2, h3⟩ := slice_bounds lo hi its.toArray.size
  unfold slicePick
  rw [h1, h2, h3]
  simp only [sliceRange_one, pick_run, List.size_toArray] <;> rfl
/-- xs[lo:hi] of a list: a new list -/
def rSlL (K : PySem.W.Frag) : V → Option Int → Option Int → Hp → VK → Prop := fun x lo hi H Q => ∃ a xs, x = .ref a ∧ SqL K H a xs ∧ ∀ p, H p = none → Q (.ref p) (upd H p (.lst (cutV xs lo hi)))
theorem sl_list : SlR X (rSlL X.K) := by
  intro pins s σ H x v vl vu lo hi sl Q I rx hs pl pu h
  obtain ⟨a, xs, rfl, hx, q⟩ := h
  cases rx
  obtain ⟨its, r, ht, hz⟩ := I.list hx
  have hlen := r.length
  refine ⟨"list", _, slot_list_getitem.lookup, ht.isList.typeIs, ?_⟩
  refine wpAny_getItem_list_slice ht.isList hs pl pu .none (by simp) ?_ (by rw [List.size_toArray] <;> omega)
  rw [slicePick_cut, ← hlen]
  refine ⟨.ref s.heap.objs.size, _, I.laid (t' := s.toks) (o := .lst (cutV xs lo hi)) (fun b ob q => Heap.get?_push_of_some _ q) (Nat.le_refl _) ?_, rfl, q _ (I.hok.fresh (Nat.le_refl _))⟩
  exact ⟨Nat.le_trans (cutV_length xs lo hi) hz, _, 0, (r.drop (HT.sIx xs.length 0 lo)).take (HT.sIx xs.length xs.length hi - HT.sIx xs.length 0 lo), Heap.get?_push_size _ rfl⟩

/-! ### in, not in: flat items -/
def flatV : V → Bool
  | .non => true
  | .bl _ => true
  | .int _ => true
  | .str _ => true
  | _ => false
/-- == of flat values -/
def eqV : V → V → Bool
  | .non, .non => true
  | .bl a, .bl b => a == b
  | .bl a, .int b => (if a then 1 else 0) == b
  | .int a, .bl b => a == (if b then 1 else 0)
  | .int a, .int b => a == b
  | .str a, .str b => a == b
  | _, _ => false
theorem eqAt_V {A : Around} {s : Shared} {y x : V} {u v : Value} (ry : RelV y u) (rx : RelV x v) (fy : flatV y = true) (fx : flatV x = true) : SeqAt.EqAt A s u v (eqV y x) := by
  cases y with
  | non =>
    cases ry
    cases x with
    | non => cases rx; exact SeqAt.EqAt.same _
    | bl b => cases rx; exact SeqAt.EqAt.none_bool b
    | int b => obtain ⟨t, rfl⟩ := rx; exact SeqAt.EqAt.none_int b t
    | str b => obtain ⟨t, rfl⟩ := rx; exact SeqAt.EqAt.none_str b t
    | _ => exact absurd (show false = true from fx) Bool.false_ne_true
  | bl a =>
    cases ry
    cases x with
    | non => cases rx; exact SeqAt.EqAt.bool_none a
    | bl b => cases rx; exact SeqAt.EqAt.bool_bool a b
    | int b => obtain ⟨t, rfl⟩ := rx; exact SeqAt.EqAt.bool_int a b t
    | str b => obtain ⟨t, rfl⟩ := rx; exact SeqAt.EqAt.bool_str a b t
    | _ => exact absurd (show false = true from fx) Bool.false_ne_true
  | int a =>
    obtain ⟨t', rfl⟩ := ry
    cases x with
    | non => cases rx; exact SeqAt.EqAt.int_none a t'
    | bl b => cases rx; exact SeqAt.EqAt.int_bool a t' b
    | int b => obtain ⟨t, rfl⟩ := rx; exact SeqAt.EqAt.int_int a t' b t
    | str b => obtain ⟨t, rfl⟩ := rx; exact SeqAt.EqAt.int_str a t' b t
    | _ => exact absurd (show false = true from fx) Bool.false_ne_true
  | str a =>
    obtain ⟨t', rfl⟩ := ry
    cases x with
    | non => cases rx; exact SeqAt.EqAt.str_none a t'
    | bl b => cases rx; exact SeqAt.EqAt.str_bool a t' b
    | int b => obtain ⟨t, rfl⟩ := rx; exact SeqAt.EqAt.str_int a t' b t
    | str b => obtain ⟨t, rfl⟩ := rx; exact SeqAt.EqAt.str_str a t' b t
    | _ => exact absurd (show false = true from fx) Bool.false_ne_true
  | _ => exact absurd (show false = true from fy) Bool.false_ne_true
/-- the items' answers, read off the values (a value's own answer does not lean on its token) -/
def eqU (x : V) (u : Value) : Bool := match u with
  | .none => eqV .non x
  | .bool b => eqV (.bl b) x
  | .int i _ => eqV (.int i) x
  | .str z _ => eqV (.str z) x
  | _ => false
theorem eqU_of {x y : V} {u : Value} (r : RelV y u) (f : flatV y = true) : eqU x u = eqV y x := by
  cases y with
  | non => cases r; rfl
  | bl b => cases r; rfl
  | int i => obtain ⟨t, rfl⟩ := r; rfl
  | str z => obtain ⟨t, rfl⟩ := r; rfl
  | _ => exact absurd (show false = true from f) Bool.false_ne_true
theorem any_eqU {x : V} : ∀ {xs : List V} {us : List Value}, Vals xs us → xs.all flatV = true → us.any (eqU x) = xs.any fun y => eqV y x
  | _, _, .nil, _ => rfl
  | y :: xs, u :: us, .cons r t, f => by
    rw [List.all_cons, Bool.and_eq_true] at f
    rw [List.any_cons, List.any_cons, eqU_of r f.1, any_eqU t f.2]
theorem mem_eqAt {A : Around} {s : Shared} {x : V} {v : Value} (rx : RelV x v) (fx : flatV x = true) : ∀ {xs : List V} {us : List Value}, Vals xs us → xs.all flatV = true → ∀ u ∈ us, SeqAt.EqAt A s u v (eqU x u)
  | _, _, .nil, _ => fun u hu => by cases hu
  | y :: xs, u :: us, .cons r t, f => fun u' hu => by
    rw [List.all_cons, Bool.and_eq_true] at f
    rcases List.mem_cons.mp hu with rfl | hu
    · rw [eqU_of r f.1]; exact eqAt_V r rx f.1 fx
    · exact mem_eqAt rx fx t f.2 u' hu
def inV (x : V) (xs : List V) : Bool := xs.any fun y => eqV y x
/-- x in a list or tuple of flat items -/
def rIn (K : PySem.W.Frag) (neg : Bool) : R2 := fun x y H Q => ∃ p xs, y = .ref p ∧ (SqL K H p xs ∨ SqT K H p xs) ∧ flatV x = true ∧ xs.all flatV = true ∧ Q (.bl (if neg then !inV x xs else inV x xs)) H
theorem op_in_seq : OpR X (compareOp .In) (rIn X.K false) := by
  intro pins s σ H x y v u Q I rx ry h
  obtain ⟨p, xs, rfl, hq, fx, fs, q⟩ := h
  cases ry
  rcases hq with hq | hq
  · obtain ⟨its, r, pl, hz⟩ := I.list hq
    refine SeqAt.in_listAt (eqU x) pl.isList (fun w hw => mem_eqAt rx fx r fs w (by simpa using hw)) ⟨.bl _, H, I, rfl, ?_⟩
    rw [show its.toArray.any (eqU x) = its.any (eqU x) by simp, any_eqU r fs]
    exact q
  · obtain ⟨its, r, pl, hz⟩ := I.tuple hq
    refine SeqAt.in_tupleAt (eqU x) pl (fun w hw => mem_eqAt rx fx r fs w (by simpa using hw)) ⟨.bl _, H, I, rfl, ?_⟩
    rw [show its.toArray.any (eqU x) = its.any (eqU x) by simp, any_eqU r fs]
    exact q
theorem op_notIn_seq : OpR X (compareOp .NotIn) (rIn X.K true) := by
  intro pins s σ H x y v u Q I rx ry h
  obtain ⟨p, xs, rfl, hq, fx, fs, q⟩ := h
  cases ry
  rcases hq with hq | hq
  · obtain ⟨its, r, pl, hz⟩ := I.list hq
    refine SeqAt.notIn_listAt (eqU x) pl.isList (fun w hw => mem_eqAt rx fx r fs w (by simpa using hw)) ⟨.bl _, H, I, rfl, ?_⟩
    rw [show its.toArray.any (eqU x) = its.any (eqU x) by simp, any_eqU r fs]
    exact q
  · obtain ⟨its, r, pl, hz⟩ := I.tuple hq
    refine SeqAt.notIn_tupleAt (eqU x) pl (fun w hw => mem_eqAt rx fx r fs w (by simpa using hw)) ⟨.bl _, H, I, rfl, ?_⟩
    rw [show its.toArray.any (eqU x) = its.any (eqU x) by simp, any_eqU r fs]
    exact q
theorem op_notIn_str : OpR X (compareOp .NotIn) (fun x y H Q => ∃ i j, x = .str i ∧ y = .str j ∧ Q (.bl (!(!(Builtin.Str.occurrences j i 0 j.length 1).isEmpty))) H) := by
  intro pins s σ H x y v u Q I rx ry h
  obtain ⟨i, j, rfl, rfl, q⟩ := h
  obtain ⟨t, rfl⟩ := rx
  obtain ⟨t', rfl⟩ := ry
  exact notIn_str ⟨.bl _, H, I, rfl, q⟩

/-! ### len, list(x), tuple(x) of any list or tuple that is read -/
theorem call_len_seq : CallR X (.builtin "len") (fun xs H Q => ∃ p ys, xs = [.ref p] ∧ (SqL X.K H p ys ∨ SqT X.K H p ys) ∧ Q (.int ys.length) H) := by
  intro pins s σ H xs us Q I r h
  obtain ⟨p, ys, rfl, hq, q⟩ := h
  obtain ⟨u, rfl, rx⟩ := vals1 r
  cases rx
  have hn := line63
  rcases hq with hq | hq
  · obtain ⟨its, r', pl, hz⟩ := I.list hq
    have hlen := r'.length
    exact Calls.call_len_list pl.isList (by simp only [List.size_toArray] <;> omega) ⟨.int ys.length, H, I.tok _, ⟨s.toks + 1, by rw [List.size_toArray, hlen]⟩, q⟩
  · obtain ⟨its, r', pl, hz⟩ := I.tuple hq
    have hlen := r'.length
    exact len_tuple pl (by simp only [List.size_toArray] <;> omega) ⟨.int ys.length, H, I.tok _, ⟨s.toks + 1, by rw [List.size_toArray, hlen]⟩, q⟩
theorem call_len_str : CallR X (.builtin "len") (fun xs H Q => ∃ z, xs = [.str z] ∧ z.length ≤ sizeLine ∧ Q (.int z.length) H) := by
  intro pins s σ H xs us Q I r h
  obtain ⟨z, rfl, hz, q⟩ := h
  obtain ⟨u, rfl, t, rfl⟩ := vals1 r
  have hn := line63
  exact len_str (by omega) ⟨.int z.length, H, I.tok _, ⟨_, rfl⟩, q⟩
theorem call_tuple_of : CallR X (.type "tuple") (fun xs H Q => ∃ p ys, xs = [.ref p] ∧ ((SqL X.K H p ys ∧ ∀ l, H l = none → Q (.ref l) (upd H l (.tup ys))) ∨ (SqT X.K H p ys ∧ Q (.ref p) H))) := by
  intro pins s σ H xs us Q I r h
  obtain ⟨p, ys, rfl, h⟩ := h
  obtain ⟨u, rfl, rx⟩ := vals1 r
  cases rx
  rcases h with ⟨hq, q⟩ | ⟨hq, q⟩
  · obtain ⟨its, r', pl, hz⟩ := I.list hq
    have hlen := r'.length
    refine call_tuple_list pl.isList (fun h' kp => ?_) (by simp only [List.size_toArray] <;> omega)
    have I1 : Inv X pins σ H { s with heap := h' } := I.kept (t' := s.toks) kp
    have I2 : Inv X pins σ (upd H h'.objs.size (.tup ys)) { s with heap := h'.push { cls := .type "tuple", data := .seq its.toArray } } :=
      I1.laid (t' := s.toks) (fun b o e => Heap.get?_push_of_some _ e) (Nat.le_refl _) (show ObjOk X.prog X.w _ _ _ (.tup ys) from ⟨hz, its, r', IsTup.new _ _⟩)
    exact ⟨.ref h'.objs.size, _, I2, rfl, q _ (I1.hok.fresh (Nat.le_refl _))⟩
  · obtain ⟨its, r', pl, hz⟩ := I.tuple hq
    exact call_tuple_same pl ⟨.ref p, H, I, rfl, q⟩

/-! ### the call of a builtin's method: o.m(..) -/
/-- the value is of that builtin type -/
def tyV (K : PySem.W.Frag) (T : String) (x : V) (H : Hp) : Prop := match x with
  | .str _ => T = "str"
  | .int _ => T = "int"
  | .ref p => (T = "list" ∧ ∃ xs, SqL K H p xs) ∨ (T = "tuple" ∧ ∃ o, K.lookup p = some o ∧ o.cls = .type "tuple" ∧ o.dict = none) ∨
      (T = "dict" ∧ ((∃ kvs, H p = some (.dK kvs)) ∨ ∃ kvs, H p = some (.dT kvs))) ∨ (T = "set" ∧ ∃ S n, H p = some (.set S n))
  | _ => False
theorem tyV_is {pins : List (Addr × Obj)} {σ : St} {H : Hp} {s : Shared} {T : String} {x : V} {v : Value} (I : Inv X pins σ H s) (r : RelV x v) (ty : tyV X.K T x H) :
    s.TypeIs v T ∧ ∀ a, v = .ref a → ∃ ob, s.heap.get? a = some ob ∧ ob.dict = none := by
  cases x with
  | str z =>
    obtain ⟨t, rfl⟩ := r
    cases (show T = "str" from ty)
    exact ⟨typeIs_str s z t, fun _ e => nomatch e⟩
  | int i =>
    obtain ⟨t, rfl⟩ := r
    cases (show T = "int" from ty)
    exact ⟨typeIs_int s i t, fun _ e => nomatch e⟩
  | ref p =>
    cases r
    rcases ty with ⟨rfl, xs, hq⟩ | ⟨rfl, o, hk, hc, hd⟩ | ⟨rfl, hk⟩ | ⟨rfl, S, n, hk⟩
    · obtain ⟨its, _, pl, _⟩ := I.list hq
      refine ⟨pl.isList.typeIs, fun a e => ?_⟩
      cases e
      obtain ⟨o, n, e, c, hd, _⟩ := pl
      exact ⟨o, e, hd⟩
    · refine ⟨⟨o, I.kIn p o hk, hc⟩, fun a e => ?_⟩
      cases e
      exact ⟨o, I.kIn _ o hk, hd⟩
    · have z : ∃ o, s.heap.get? p = some o ∧ o.ExactDict := by
        rcases hk with ⟨kvs, hk⟩ | ⟨kvs, hk⟩
        · obtain ⟨_, _, _, _, o, _, _, e, ex, _⟩ := I.hok p _ hk
          exact ⟨o, e, ex⟩
        · obtain ⟨_, _, _, _, o, _, _, e, ex, _⟩ := I.hok p _ hk
          exact ⟨o, e, ex⟩
      obtain ⟨o, e, ex⟩ := z
      refine ⟨⟨o, e, ex.1⟩, fun a e2 => ?_⟩
      cases e2
      exact ⟨o, e, ex.2.1⟩
    · obtain ⟨o, _, _, _, e, ex, _⟩ := I.hok p _ hk
      refine ⟨⟨o, e, ex.1⟩, fun a e2 => ?_⟩
      cases e2
      exact ⟨o, e, ex.2.1⟩
  | _ => exact False.elim ty
def tBM0 (K : PySem.W.Frag) (T : String) (r : V → List V → Hp → VK → Prop) (to : TE) : TE := fun σ H Q => to σ H fun x H1 => tyV K T x H1 ∧ r x [] H1 Q
def tBM (K : PySem.W.Frag) (T : String) (r : V → List V → Hp → VK → Prop) (to : TE) (t : TA) : TE := fun σ H Q => to σ H fun x H1 => tyV K T x H1 ∧ t σ H1 fun xs H2 => r x xs H2 Q
variable {o e : Expr} {es : List Expr} {to : TE} {t : TA} {name : Str} {apos cpos : Pos} {T id : String} {r : V → List V → Hp → VK → Prop}
theorem pe_bm (pa : PlainAttrs T) (slot : Slot T name id) (hty : typeOf (.builtin id) = pure (.type "method_descriptor")) (hm : MtR X id r) (ho : PE X o to) (ha : PA X (e :: es) t)
    (hbase : attributeBase o name X.env (eval o X.env) = eval o X.env := by rfl)
    (hfew : ((backTo cpos (starEach (e :: es) X.env)).all (fun x => !x.1) && (backToKw cpos (keywordEach [] X.env)).all (fun x => x.1.isSome)
      && decide ((e :: es).length + ([] : List Keyword).length + (if ([] : List Keyword).isEmpty then 0 else 1) < 30)) = true := by rfl)
    (hline : (apos.endLine == cpos.line) = true := by rfl) (hs : starEach (e :: es) X.env = (false, eval e X.env) :: starEach es X.env := by rfl) (hplain : (backTo cpos (starEach es X.env)).any (·.1) = false := by rfl) :
    PE X (.Call (.Attribute o name apos) (e :: es) [] cpos) (tBM X.K T r to t) := by
  intro pins s σ H Q I h
  refine wpAny_Call_method_late hbase hfew hline rfl (thn (ho pins s σ H _ I h) fun v s1 ⟨x, H1, I1, r1, ty, q1⟩ => ?_)
  obtain ⟨h1, h2⟩ := tyV_is I1 r1 ty
  refine ⟨T, id, pa, slot, hty, h1, h2, ?_⟩
  have hA := ha cpos pins s1 σ H1 _ I1 q1
  rw [hs] at hA ⊢
  refine Calls.callWith_builtin (by show (false || (backTo cpos (starEach es X.env)).any (·.1)) = false; rw [hplain] <;> rfl) (Calls.evalArgs_plain ?_)
  exact thn hA fun us s2 ⟨vs, H2, I2, r2, q2⟩ => hm pins s2 σ H2 x vs v us Q I2 r1 r2 q2
/- xs.append(e), list.index on a module's tuple .. are MtR facts of 06m -/
end
end L2

namespace L2
open PySem PySem.Spec PyProof.Rows

def MtM (X : Cx) (id : String) (r : V → List V → Hp → VK → Prop) : Prop :=
  ∀ (pins : List (Addr × Obj)) (s : Shared) (σ : St) (H : Hp) (x : V) (xs : List V) (v : Value) (us : List Value) (Q : VK), Inv X pins σ H s → RelV x v → Vals xs us → r x xs H Q →
    wpAny (model X.prog X.w) X.A (call (.builtin id) (v :: us)) (EP X pins σ Q) X.xe s

/-! ### lists of values -/
theorem Vals.one : ∀ {x : V} {us : List Value}, Vals [x] us → ∃ u, us = [u] ∧ RelV x u
  | _, _, .cons r .nil => ⟨_, rfl, r⟩
theorem Vals.two : ∀ {x y : V} {us : List Value}, Vals [x, y] us → ∃ u v, us = [u, v] ∧ RelV x u ∧ RelV y v
  | _, _, _, .cons r (.cons q .nil) => ⟨_, _, rfl, r, q⟩
section
variable {X : Cx} {pins : List (Addr × Obj)} {σ : St} {H : Hp} {s : Shared} {l b : Addr} {xs ys zs : List V}

/-! ### the two steps: a tracked list is rewritten, a new list is laid -/
theorem Inv.lset {its its' : List Value} {n : Nat} {f : Array Value → Array Value} {t' : Nat} (I : Inv X pins σ H s) (hH : H l = some (.lst xs))
    (e : s.heap.get? l = some { cls := .type "list", data := .seq its.toArray n }) (hf : f its.toArray = its'.toArray) (hv : Vals ys its') (hz : ys.length ≤ sizeLine) :
    Inv X pins σ (upd H l (.lst ys)) { s with heap := s.heap.update l (Obj.mapSeq f), toks := t' } := by
  have q := PySem.IsL.update e f
  rw [hf] at q
  refine I.write (x := l) (e := l) (by rw [hH]; exact trivial) (.inl rfl) (fun b' u hb hu => (Heap.get?_update_other s.heap (Obj.mapSeq f) (Ne.symm hb)).trans hu) ⟨_, q⟩ ?_
  exact ⟨hz, its', _, hv, q⟩
theorem Inv.lnew {its : List Value} {t' : Nat} (I : Inv X pins σ H s) (hv : Vals ys its) (hz : ys.length ≤ sizeLine) :
    Inv X pins σ (upd H s.heap.objs.size (.lst ys)) { s with heap := s.heap.push { cls := .type "list", data := .seq its.toArray }, toks := t' } :=
  I.laid (fun _ _ q => Heap.get?_push_of_some _ q) (Nat.le_refl _) ⟨hz, its, 0, hv, Heap.get?_push_size _ rfl⟩
theorem Inv.fresh (I : Inv X pins σ H s) : H s.heap.objs.size = none := I.hok.fresh (Nat.le_refl _)
theorem Inv.lstM (I : Inv X pins σ H s) (hH : H l = some (.lst xs)) : xs.length ≤ sizeLine ∧ ∃ (its : List Value) (n : Nat), Vals xs its ∧ xs.length = its.length ∧ s.heap.get? l = some { cls := .type "list", data := .seq its.toArray n } := by
  obtain ⟨z, its, n, r, e⟩ := I.hok l _ hH
  exact ⟨z, its, n, r, r.length, e⟩

theorem notLongL {n : Nat} (h : n ≤ sizeLine) : Builtin.List.listTooLong n = false := by
  unfold Builtin.List.listTooLong
  exact decide_eq_false (by omega)
end

section
variable {X : Cx}

/-! ### methods -/
def rAppend : V → List V → Hp → VK → Prop := fun x vs H Q => ∃ l xs y, x = .ref l ∧ vs = [y] ∧ H l = some (.lst xs) ∧ xs.length < sizeLine ∧ Q .non (upd H l (.lst (xs ++ [y])))
theorem mt_append : MtM X "list.append" rAppend := by
  intro pins s σ H x vs v us Q I rx rv h
  obtain ⟨l, xs, y, rfl, rfl, hH, hz, q⟩ := h
  cases rx
  obtain ⟨u, rfl, ru⟩ := rv.one
  obtain ⟨z, its, n, r, hl, e⟩ := I.lstM hH
  refine call_meets F.slot_list_append ⟨_, e, rfl⟩ F.entry_list_append (F.args_list_append_2 _ _) (PySem.list_append l its.toArray n u (by rw [List.size_toArray]; omega)) ⟨e, ?_⟩
  refine ⟨.non, _, I.lset (its' := its ++ [u]) hH e (by simp) (r.append (.cons ru .nil)) ?_, rfl, q⟩
  rw [List.length_append, List.length_singleton]
  omega

def rExtend : V → List V → Hp → VK → Prop := fun x vs H Q => ∃ l b xs zs, x = .ref l ∧ vs = [.ref b] ∧ H l = some (.lst xs) ∧ H b = some (.lst zs) ∧ xs.length + zs.length ≤ sizeLine ∧ Q .non (upd H l (.lst (xs ++ zs)))
theorem mt_extend : MtM X "list.extend" rExtend := by
  intro pins s σ H x vs v us Q I rx rv h
  obtain ⟨l, b, xs, zs, rfl, rfl, hH, hB, hz, q⟩ := h
  cases rx
  obtain ⟨u, rfl, ru⟩ := rv.one
  cases ru
  obtain ⟨z, its, n, r, hl, e⟩ := I.lstM hH
  obtain ⟨z2, its2, n2, r2, hl2, e2⟩ := I.lstM hB
  have hsz : its.toArray.size + its2.toArray.size ≤ sizeLine := by rw [List.size_toArray, List.size_toArray]; omega
  have hlong : ¬ (!its.toArray.isEmpty && Builtin.List.listTooLong (its.toArray.size + its2.toArray.size)) = true := by
    rw [notLongL hsz, Bool.and_false]
    exact Bool.false_ne_true
  refine call_meets F.slot_list_extend ⟨_, e, rfl⟩ F.entry_list_extend (F.args_list_extend_2 _ _)
    (AutoSeq1.list_extend_list_list_0 l its.toArray n b its2.toArray n2 hlong (by rw [List.size_toArray]; omega) (by omega)) ⟨e, e2, ?_⟩
  refine ⟨.non, _, I.lset (its' := its ++ its2) hH e (by simp) (r.append r2) ?_, rfl, q⟩
  rw [List.length_append]
  omega

def rPop : V → List V → Hp → VK → Prop := fun x vs H Q => ∃ l xs y, x = .ref l ∧ vs = [] ∧ H l = some (.lst xs) ∧ xs[xs.length - 1]? = some y ∧ Q y (upd H l (.lst xs.dropLast))
def rPopAt : V → List V → Hp → VK → Prop := fun x vs H Q => ∃ l xs i k y, x = .ref l ∧ vs = [.int i] ∧ H l = some (.lst xs) ∧ -(2 ^ 63) ≤ i ∧ i < 2 ^ 63 ∧ seqIndex? i xs.length = some k ∧ xs[k]? = some y ∧ Q y (upd H l (.lst (xs.eraseIdx k)))
def rReverse : V → List V → Hp → VK → Prop := fun x vs H Q => ∃ l xs, x = .ref l ∧ vs = [] ∧ H l = some (.lst xs) ∧ Q .non (upd H l (.lst xs.reverse))
def rClear : V → List V → Hp → VK → Prop := fun x vs H Q => ∃ l xs, x = .ref l ∧ vs = [] ∧ H l = some (.lst xs) ∧ Q .non (upd H l (.lst []))
/-! ### list + list, list += list, list * int -/
def rCat : R2 := fun x y H Q => ∃ l b xs zs, x = .ref l ∧ y = .ref b ∧ H l = some (.lst xs) ∧ H b = some (.lst zs) ∧ xs.length + zs.length ≤ sizeLine ∧ ∀ p, H p = none → Q (.ref p) (upd H p (.lst (xs ++ zs)))
theorem op_cat : OpR X (binaryOp .Add) rCat := by
  intro pins s σ H x y v u Q I rx ry h
  obtain ⟨l, b, xs, zs, rfl, rfl, hH, hB, hz, q⟩ := h
  cases rx
  cases ry
  obtain ⟨z, its, n, r, hl, e⟩ := I.lstM hH
  obtain ⟨z2, its2, n2, r2, hl2, e2⟩ := I.lstM hB
  refine PySem.P.add_list e e2 ?_ (by rw [List.size_toArray, List.size_toArray]; omega)
  have ea : its.toArray ++ its2.toArray = (its ++ its2).toArray := by simp
  rw [ea]
  exact ⟨.ref _, _, I.lnew (t' := s.toks) (r.append r2) (by rw [List.length_append]; omega), rfl, q _ I.fresh⟩
/-- a list times an int (a negative one is nothing) -/
def rRep : R2 := fun x y H Q => ∃ l k xs, x = .ref l ∧ y = .int k ∧ H l = some (.lst xs) ∧ -(2 ^ 63) ≤ k ∧ k < 2 ^ 63 ∧ xs.length * k.toNat ≤ sizeLine ∧
  ∀ p, H p = none → Q (.ref p) (upd H p (.lst (List.replicate k.toNat xs).flatten))
/-! ### del xs[i] -/
end

/-! ### xs[a:b] = ys -/
section
variable {prog : Program} {w : World} {A : Around} {E : Value → Shared → Prop} {s : Shared}
end

section
variable {X : Cx}
end
end L2

namespace Att
open PySem PySem.W PySem.Calls PyProof.Rows

/-! ### the script -/
theorem ints_of_wellAll {P : Params} {h : Heap} : ∀ (ns : List Int) (vs : List Value), WellAll P h vs (ns.map WData.int) → IntsAre vs ns := by
  intro ns
  induction ns with
  | nil =>
    intro vs w
    rw [List.map_nil] at w
    cases w
    exact .nil
  | cons n ns ih =>
    intro vs w
    rw [List.map_cons] at w
    cases w with
    | cons a b =>
      cases a
      exact .cons _ _ (ih _ b)

theorem script_of {l : OpenLaw} {n : Nat} (hn : l.most = some n) {P : Params} {h : Heap} {args : List WData} {vals : List Value}
    (hpre : l.row.toRowW.claim.pre args = true) (hwl : WellAll P h vals args) :
    ∃ a vs ns, vals = [Value.ref a] ∧ args = [WData.list (ns.map WData.int)] ∧ h.get? a = some { cls := .type "list", data := .seq vs.toArray } ∧ IntsAre vs ns ∧ ns.length ≤ n := by
  have hsh : WShape.hasAll [] args [.list .int] = true := (pre_splitW hpre).1
  have hc : l.pre.holds [] { args := args } = true := (pre_splitW hpre).2
  obtain ⟨d, r, rfl, h1, h2⟩ := hasAllW_cons hsh
  obtain rfl := hasAllW_nil h2
  obtain ⟨xs, rfl, h3⟩ := hasW_list h1
  obtain ⟨ns, rfl⟩ := items_int h3
  have hlen : ns.length ≤ n := by
    unfold OpenLaw.pre at hc
    have h4 : (WTm.not (.lt (.lit (.int (n : Int))) (.len (.arg 0)))).holds [] { args := [.list (ns.map .int)] } = true := by
      have h4 := (holds_andW hc).1
      rw [hn] at h4
      exact h4
    have h5 := condW_of h4 (w_not (w_lt w_lit (w_len_list (w_arg rfl))))
    rw [List.length_map] at h5
    refine Nat.le_of_not_lt fun q => ?_
    have q' : (n : Int) < ((ns.length : Nat) : Int) := by omega
    first
      | (rw [decide_eq_true q'] at h5; exact absurd h5 (by decide))
      | (simp at h5; omega)
  cases hwl with
  | cons w1 w2 =>
    cases w2
    cases w1 with
    | list ho hall => exact ⟨_, _, ns, rfl, rfl, ho, ints_of_wellAll ns _ hall, hlen⟩

theorem post_true (l : OpenLaw) (args : List WData) : l.row.toRowW.claim.post args (.bool true) args = true :=
  postW_of (r := l.row.toRowW) (X := (true == true))
    (show WShape.has [] (.bool true) .bool = true by first | rfl | decide | simp [WShape.has, WShape.arms, WShape.armsAll])
    (show (WTm.eq .res (.lit (.bool true))).value [] { args := args, res := some (.bool true), after := args } = some (.bool (true == true)) from w_eq_bool (w_res rfl) w_lit) rfl

/-! ### the attachment: holds_open's last premise (the goal 'hc' behind k_head) from a wpAny of the law's body -/
/-- the same from a codeAny of the CALL (for a layer whose function contracts speak of calls) -/
theorem attach_call {l : OpenLaw} {n : Nat} {q : Program} {loose : List Str} {XP : (Str → Option Value) → Heap → Prop} {YP : World → Heap → Prop} {d : DefRec}
    (hn : l.most = some n) (hdf : d.params.defaults = [])
    (call : ∀ (w : World) (s₀ s₁ : Shared) (mg mb : Str → Option Value) (fa : Addr) (o : Obj) (pm cd doc : Value) (a : Addr) (vs : List Value) (ns : List Int),
      Ground q loose [] XP w s₀ mg mb s₁.heap → YP w s₁.heap →
      s₁.heap.get? fa = some o → o.data = .func (docDef d.name d.params d.body d.scope pm cd doc) → s₁.heap.CodeRec cd d.name → mg d.name = some (.ref fa) →
      s₁.heap.get? a = some { cls := .type "list", data := .seq vs.toArray } → IntsAre vs ns → ns.length ≤ n → s₁.gens = #[] →
      codeAny (model l.prog w) callerA (.call (.ref fa) ⟨[.ref a], []⟩) (fun r s' => r = .ok (.ret (.bool true)) ∧ OldK s₁.heap s'.heap ∧ s'.os = s₁.os ∧ AllBare s'.gens) s₁) :
    WalkO q loose XP YP l.row.toRowW d [] (fun f vs => PySem.call f vs) := by
  intro w s₀ s₁ mg mb G Y fa o pm cd doc dV kV ho hd hcd hD hmg hg args vals as hpre hlay hrd hwl hlo
  obtain rfl : dV = .none := Dflts.none hD hdf
  obtain rfl : kV = .none := Dflts.noKw hD
  obtain ⟨a, vs, ns, rfl, rfl, hobj, hints, hlen⟩ := script_of hn hpre hwl
  refine enter_call (codeAny_mono (call w s₀ s₁ mg mb fa o pm cd doc a vs ns G Y ho (fd_plain hd) hcd hmg hobj hints hlen hg) fun r s' hq => ?_)
  obtain ⟨rfl, h2, h3, h4⟩ := hq
  exact ⟨.inl ⟨.bool true, .bool true, [], rfl, fun _ => rfl, .bool true, post_true l _, fun _ => ⟨List.Pairwise.nil, fun _ hm => (nomatch hm)⟩⟩, h2, h3, h4⟩

/-! ### rules over ANY heap (no ledger) from facts about the written part K: the library's own take a ledger (News) for what they write -/
section
variable {prog : Program} {w : World} {A : Around} {E : Value → Shared → Prop} {s : Shared} {K : Frag}

/-! the whole heap as the ledger: makes every rule that writes through a ledger a rule over any heap -/
def noObjs (h : Heap) : Heap := { h with objs := #[] }
def ledger (h : Heap) (L d : Addr) : List (Addr × Obj) := (List.range h.objs.size).filterMap fun a => if a = L ∨ a = d then none else (h.get? a).map fun o => (a, o)
end
end Att

namespace L2
open PySem PySem.Spec PyProof.Rows

theorem vals_ints : ∀ {vs : List Value} {ns : List Int}, IntsAre vs ns → Vals (ns.map V.int) vs
  | _, _, .nil => .nil
  | _, _, .cons n t h => .cons ⟨t, rfl⟩ (vals_ints h)

/-- nothing is tracked but the script, known to the object (or it is an object of the module) -/
def Only (H : Hp) : Prop := ∀ b, H b = none ∨ ∃ o xs, H b = some (.frz o (.lst xs))

/-- THE HEAD: the law's promise, at the heap behind the top. F, the promise of the law's def, may use that base is part of the heap (so K.In base, base.Ns mainGlobals mg stand in Mod) -/
theorem law_call {P : Program} {w : World} {K : PySem.W.Frag} {mg mb : Str → Option Value} {CX : CXT} {k : Nat} {fa a : Addr} {fd : FuncData} {x : Str} {sp : Sp} {s₁ : Shared} {vs : List Value} {ns : List Int}
    (KX : K.In s₁.heap) (hns : s₁.heap.Ns mainGlobals mg) (hb : s₁.heap.Ns builtinsNs mb) (hbb : ∀ x : Str, x ≠ "__name__" → mb x = bootBuiltins x) (hlim : s₁.heap.NoLimit) (hg : s₁.gens = #[])
    (ha : s₁.heap.get? a = some { cls := .type "list", data := .seq vs.toArray }) (hi : IntsAre vs ns) (hl : ns.length ≤ sizeLine) (hr : Room k callerA)
    (F : ∀ base : Heap, K.In base → base.Ns mainGlobals mg → FnOk P w K mg base CX k fa fd [x] sp) (hbind : ∀ (s : Shared) (u : Value), BindsTo s fd ⟨[u], []⟩ [(x, u)])
    (hsp : ∀ H : Hp, Only H → SqL K H a (ns.map V.int) → sp [.ref a] H (fun v _ => v = .bl true) fun _ _ _ => False)
    (hCX : ∀ H e s', CX [] H s₁ (fun _ _ _ => False) e s' → False) :
    codeAny (model P w) callerA (.call (.ref fa) ⟨[.ref a], []⟩) (fun r s' => r = .ok (.ret (.bool true)) ∧ OldK s₁.heap s'.heap ∧ s'.os = s₁.os ∧ AllBare s'.gens) s₁ := by
  have rv := vals_ints hi
  have lenV := hi.length
  -- from an abstract heap in which nothing but the script may be tracked
  have core : ∀ H : Hp, Only H → SqL K H a (ns.map V.int) → HOk P w H s₁.heap → (∀ b, H b ≠ none → b = a) → (H a ≠ none → K.lookup a = none) →
      codeAny (model P w) callerA (.call (.ref fa) ⟨[.ref a], []⟩) (fun r s' => r = .ok (.ret (.bool true)) ∧ OldK s₁.heap s'.heap ∧ s'.os = s₁.os ∧ AllBare s'.gens) s₁ := by
    intro H hO hS hok hA hK
    have base_of : ∀ {b : Addr} {o : Obj}, s₁.heap.get? b = some o → H b = none → (hidT s₁.heap H).get? b = some o := fun e n => hidT_get e n
    have noA : ∀ {b : Addr} {o : Obj} {es : Array DictEntry} {ep : Nat}, s₁.heap.get? b = some o → o.data = .dict es ep → H b = none := fun {b o es ep} e d => by
      cases q : H b with
      | none => rfl
      | some u =>
        have e' : b = a := hA b (by rw [q]; simp)
        subst e'
        rw [ha] at e; cases e
        have d' : Data.seq vs.toArray _ = Data.dict es ep := d
        cases d'
    have nsK : ∀ {b : Addr} {m : Str → Option Value}, s₁.heap.Ns b m → (hidT s₁.heap H).Ns b m := fun {b m} ⟨o, es, ep, e, d, r⟩ => ⟨o, es, ep, base_of e (noA e d), d, r⟩
    have hKb : K.In (hidT s₁.heap H) := fun b o e => base_of (KX b o e) (by
      cases q : H b with
      | none => rfl
      | some u =>
        have e' : b = a := hA b (by rw [q]; simp)
        subst e'
        rw [hK (by rw [q]; simp)] at e; cases e)
    have hM : Mod K mg (hidT s₁.heap H) := ⟨hKb, nsK hns, ⟨mb, nsK hb, hbb⟩, let ⟨mc, h1, h2⟩ := hlim; ⟨mc, nsK h1, h2⟩⟩
    have e0 : Env0 P w K mg (hidT s₁.heap H) callerA [] s₁ H := ⟨rfl, hM, fun b o e => of_hidT e, Nat.le_of_eq (hidT_size _ _), trivial, fun b hb => absurd (show b ∈ ([] : List Addr) from hb) (by simp), hok, .of_eq hg⟩
    refine codeAny_mono ((F _ hKb (nsK hns)).run callerA [] s₁ H ⟨[.ref a], []⟩ [.ref a] [.ref a] _ _ hr e0 (hbind s₁ (.ref a)) (.cons rfl .nil) (hsp H hO hS)) fun r s' h => ?_
    cases r with
    | error e => exact (hCX H e s' h).elim
    | ok fl =>
      cases fl with
      | next => exact False.elim h
      | brk => exact False.elim h
      | cont => exact False.elim h
      | ret u =>
        obtain ⟨v, H', os, bare, un, hok', r', q⟩ := h
        have q' : v = .bl true := q
        subst q'
        obtain rfl : u = Value.bool true := r'
        refine ⟨rfl, OldK.of_keep fun b o e => ?_, os, bare⟩
        cases q : H b with
        | none => exact un.keep b o e q (by intro z; exact absurd (show b ∈ ([] : List Addr) from z) (by simp)) (by simp)
        | some u =>
          rcases hO b with z | ⟨ob, xs, z⟩
          · rw [q] at z; cases z
          · have z2 := un.frzs b ob _ z
            obtain ⟨e1, _⟩ := hok b _ z
            obtain ⟨e2, _⟩ := hok' b _ z2
            rw [e] at e1; cases e1
            exact e2
  cases hk : K.lookup a with
  | some o =>
    -- the script is one of the module's own objects
    have e := KX a o hk
    rw [ha] at e
    cases e
    refine core (fun _ => none) (fun _ => .inl rfl) (.inr ⟨_, vs.toArray, _, hk, rfl, rfl, rfl, by rw [List.size_toArray, lenV]; exact hl, by simpa using rv⟩) (fun b u z => by have z' : (none : Option HO) = some u := z; cases z') (fun b z => absurd rfl z) fun z => absurd rfl z
  | none =>
    refine core (fun b => if b = a then some (.frz { cls := .type "list", data := .seq vs.toArray } (.lst (ns.map V.int))) else none) (fun b => ?_) (.inl (.inr ⟨{ cls := .type "list", data := .seq vs.toArray }, if_pos rfl⟩)) (fun b u z => ?_) (fun b z => ?_) fun _ => hk
    · by_cases hb : b = a
      · exact .inr ⟨_, _, if_pos hb⟩
      · exact .inl (if_neg hb)
    · by_cases hb : b = a
      · have z' := (if_pos hb).symm.trans z
        cases z'
        subst hb
        exact ⟨ha, by rw [List.length_map]; exact hl, vs, _, rv, ha⟩
      · have z' := (if_neg hb).symm.trans z
        cases z'
    · by_cases hb : b = a
      · exact hb
      · exact absurd (if_neg hb) z
end L2

namespace L2
open PySem PySem.Spec PyProof.Rows

abbrev KOf {K : PySem.W.Frag} {h : Heap} (_ : K.In h) : PySem.W.Frag := K

/-- the goal that k_head leaves (case hc), from the law's promise. F gives the function object fd (K's own) once, then the promise over every base -/
theorem walk_of {l : PySem.W.OpenLaw} {n k : Nat} {q : Program} {loose : List Str} {XP : (Str → Option Value) → Heap → Prop} {YP : World → Heap → Prop} {d : DefRec} {K : Params → PySem.W.Frag} {CX : World → CXT} {sp : World → Sp} {x : Str}
    (hn : l.most = some n) (hn2 : n ≤ sizeLine) (hdf : d.params.defaults = []) (hr : Room k callerA)
    (hY : ∀ (w : World) (h : Heap), YP w h → (K w.params).In h)
    (F : ∀ (w : World) (mg : Str → Option Value) (fa : Addr) (h : Heap), (K w.params).In h → h.Ns mainGlobals mg → mg d.name = some (.ref fa) →
      ∃ fd : FuncData, (∀ (s : Shared) (u : Value), BindsTo s fd ⟨[u], []⟩ [(x, u)]) ∧
        ∀ base : Heap, (K w.params).In base → base.Ns mainGlobals mg → FnOk l.prog w (K w.params) mg base (CX w) k fa fd [x] (sp w))
    (hsp : ∀ (w : World) (H : Hp) (a : Addr) (ns : List Int), ns.length ≤ n → Only H → SqL (K w.params) H a (ns.map V.int) → sp w [.ref a] H (fun v _ => v = .bl true) fun _ _ _ => False)
    (hCX : ∀ (w : World) (H : Hp) (s : Shared) (e : Value) (s' : Shared), CX w [] H s (fun _ _ _ => False) e s' → False) :
    PySem.W.WalkO q loose XP YP l.row.toRowW d [] (fun f vs => PySem.call f vs) := by
  refine Att.attach_call hn hdf fun w s₀ s₁ mg mb fa o pm cd doc a vs ns G Y ho hd hcd hmg hobj hints hlen hg => ?_
  have KX := hY w _ Y
  obtain ⟨fd, hb, hF⟩ := F w mg fa _ KX G.T.g hmg
  exact law_call KX G.T.g G.T.b G.T.builtins G.T.nolimit hg hobj hints (Nat.le_trans hlen hn2) hr hF hb (fun H hO hS => hsp w H a ns hlen hO hS) fun H e s' => hCX w H s₁ e s'
end L2



/-! SHORT WORDS over the layer: a def of the text, its body, what a loop and a test want. -/
namespace L2
open PySem PySem.Spec PyProof.Rows

/-! ### the text by places -/
/-- the j-th statement of a class's body -/
def inClass (s : Stmt) (j : Nat) : Stmt := match s with
  | .ClassDef _ _ _ body _ _ _ _ _ _ _ => body.getD j (.Pass ⟨0, 0, 0, 0⟩)
  | _ => .Pass ⟨0, 0, 0, 0⟩
def defArgs (s : Stmt) : Arguments := match s with
  | .FunctionDef _ a _ _ _ _ _ _ _ _ => a
  | _ => { posonlyargs := [], args := [], vararg := none, kwonlyargs := [], kw_defaults := [], kwarg := none, defaults := [] }
def defBody (s : Stmt) : List Stmt := match s with
  | .FunctionDef _ _ b _ _ _ _ _ _ _ => b
  | _ => []
def defScope (s : Stmt) : Scope := match s with
  | .FunctionDef _ _ _ _ _ _ sc _ _ _ => sc
  | _ => { kind := .function, names := [], isGenerator := false, isCoroutine := false }

/-! ### no exception leaves a def -/
abbrev CX0 : CXT := fun _ _ _ _ _ _ => False
abbrev E0 : XK := fun _ _ _ => False
theorem pass0 {X : Cx} : Passes CX0 X E0 := fun _ _ _ _ _ _ _ h => h.elim

/-! ### a def (or method) of the text as it stands behind the top -/
structure Fun (K : PySem.W.Frag) (x qual : Str) (st : Stmt) (f : Addr) (fd : FuncData) : Prop where
  ex : ∃ (oc : Value) (od : Option Addr) (kV doc pm : Value) (an : Option Addr) (cdv ct : Value) (osl : Array (Option Value)),
    fd = PySem.W.fnOf x qual (defArgs st) (defBody st) (defScope st) .none kV doc pm an cdv ct ∧ K.lookup f = some ⟨oc, od, .func fd, osl⟩ ∧ PySem.W.codeIn K cdv qual = true
  kp : PySem.W.keepIn K (.ref f) = true
section
variable {P : Program} {w : World} {K : PySem.W.Frag} {mg : Str → Option Value} {base : Heap}
/-- THE RULE for a def: its body as a term of rules, and the reading of that term -/
theorem Fun.ok {x qual : Str} {st : Stmt} {f : Addr} {fd : FuncData} {N ps : List Str} {k : Nat} {sp : Sp} (F : Fun K x qual st f fd) (S : FnScope N ps (defScope st)) (len : ∀ vs H Q E, sp vs H Q E → vs.length = ps.length)
    (hbody : ∀ (cdv : Value) (A : Around) (outer : List Env) (s : Shared) (H : Hp) (vs : List V) (Q : VK) (E : XK), Room k (A.deeper (envOfC qual (defScope st) s.heap.objs.size f cdv)) → sp vs H Q E →
      ∃ t, PSs (cxOf CX0 P w K mg base N qual (defScope st) f cdv A outer s H E).nox (defBody st) t ∧ t { nx := fun _ H' => Q .non H', rt := Q } (start N vs) H) : FnOk P w K mg base CX0 (k + 1) f fd ps sp := by
  obtain ⟨oc, od, kV, doc, pm, an, cdv, ct, osl, rfl, lk, hcd⟩ := F.ex
  refine fn_of lk hcd S len fun A outer s H vs Q E hr hsp => ?_
  obtain ⟨t, h, q⟩ := hbody cdv A outer s H vs Q E hr hsp
  exact ⟨t, h.nox, q⟩
/-- how its arguments bind (no defaults): h is «fun _ _ _ _ _ _ us hl => match us, hl with | [_, _], _ => rfl», one _ a parameter -/
theorem Fun.binds {x qual : Str} {st : Stmt} {f : Addr} {fd : FuncData} {ps : List Str} (F : Fun K x qual st f fd)
    (h : ∀ (kV doc pm : Value) (an : Option Addr) (cdv ct : Value) (us : List Value), us.length = ps.length → bindArgs (PySem.W.fnOf x qual (defArgs st) (defBody st) (defScope st) .none kV doc pm an cdv ct) ⟨us, []⟩ = pure (ps.zip us)) : Binds K fd ps [] := by
  obtain ⟨oc, od, kV, doc, pm, an, cdv, ct, osl, rfl, lk, hcd⟩ := F.ex
  exact .all (h kV doc pm an cdv ct)
theorem fun_mk {x qual : Str} {st : Stmt} {f : Addr} {oc : Value} {od an : Option Addr} {osl : Array (Option Value)} {kV doc pm cdv ct : Value} (l : K.lookup f = some ⟨oc, od, .func (PySem.W.fnOf x qual (defArgs st) (defBody st) (defScope st) .none kV doc pm an cdv ct), osl⟩)
    (c : PySem.W.codeIn K cdv qual = true) (k : PySem.W.keepIn K (.ref f) = true) : Fun K x qual st f (PySem.W.fnOf x qual (defArgs st) (defBody st) (defScope st) .none kV doc pm an cdv ct) := ⟨⟨oc, od, kV, doc, pm, an, cdv, ct, osl, rfl, l, c⟩, k⟩
end
theorem small1000 {n : Nat} (h : n ≤ 1000) : n < sizeLine := Nat.lt_of_le_of_lt h (by decide)

/-! ### expressions in short: the name that stands in the i-th slot -/
section
variable {X : Cx}
theorem pv (i : Nat) {x : Str} {pos : Pos} (hN : X.N[i]? = some x := by rfl) (hv : Vis X.env.scope x := by first | exact Or.inl rfl | exact Or.inr (Or.inl rfl) | exact Or.inr (Or.inr rfl)) (hd : (x == ("__debug__" : Str)) = false := by decide)
    (hcd : (x == ("__classdict__" : Str)) = false := by decide) : PE X (.Name x pos) (tVar i) := pe_var hN hv hd hcd
end

/-! ### tests -/
theorem iteF {A B : Prop} (h : B) : if false = true then A else B := by
  rw [if_neg Bool.false_ne_true]
  exact h
theorem iteT {A B : Prop} (h : A) : if true = true then A else B := by
  rw [if_pos rfl]
  exact h
/-! ### heaps -/
/-- all that was tracked is as it was -/
def Same (H H' : Hp) : Prop := ∀ b o, H b = some o → H' b = some o
theorem Same.refl (H : Hp) : Same H H := fun _ _ h => h
theorem Same.trans {H H1 H2 : Hp} (a : Same H H1) (b : Same H1 H2) : Same H H2 := fun c o h => b c o (a c o h)
theorem Same.free {H H' : Hp} (e : Same H H') {l : Addr} (h : H' l = Option.none) : H l = Option.none := by
  cases q : H l with
  | none => rfl
  | some o =>
    rw [e l o q] at h
    cases h
theorem Same.seq {K : PySem.W.Frag} {H H' : Hp} {a : Addr} {xs : List V} (e : Same H H') (h : SqL K H a xs) : SqL K H' a xs := by
  rcases h with (h | ⟨o, h⟩) | h
  · exact .inl (.inl (e _ _ h))
  · exact .inl (.inr ⟨o, e _ _ h⟩)
  · exact .inr h

end L2

set_option Elab.async false
set_option linter.all false
set_option maxRecDepth 100000
namespace L2
open PySem PySem.Spec PyProof.Rows

/-! ## comprehensions: the closure -/
/-- the cells that a block takes along -/
def closL (cells : List (Str × Addr)) : List (Str × NameKind) → List (Str × Addr) → List (Str × Addr)
  | [], cs => cs
  | (n, k) :: r, cs => closL cells r (if k = .free then (n, (cells.lookup n).getD 0) :: cs else cs)

theorem clos_for (env : Env) : ∀ (l : List (Str × NameKind)) (cs : List (Str × Addr)), (∀ y ∈ l, y.2 = .free → ∃ c, env.cells.lookup y.1 = some c) →
    (forIn l cs fun (x : Str × NameKind) (r : List (Str × Addr)) => (if (x.2 == NameKind.free) = true then do
        let c ← cellOf env x.1
        pure (ForInStep.yield ((x.1, c) :: r)) else pure (ForInStep.yield r) : Sem (ForInStep (List (Str × Addr))))) = (pure (closL env.cells l cs) : Sem (List (Str × Addr)))
  | [], cs, _ => rfl
  | (n, k) :: r, cs, h => by
    rw [List.forIn_cons]
    by_cases hk : k = .free
    · obtain ⟨c, hc⟩ := h (n, k) List.mem_cons_self hk
      have e1 : cellOf env n = pure c := by unfold cellOf; rw [show env.cells.lookup n = some c from hc]
      subst hk
      simp only [beq_self_eq_true, if_true, e1, pure_bind]
      rw [clos_for env r _ fun y hy => h y (List.mem_cons_of_mem _ hy)]
      show _ = pure (closL env.cells r (if NameKind.free = .free then (n, (env.cells.lookup n).getD 0) :: cs else cs))
      rw [if_pos rfl, show env.cells.lookup n = some c from hc]
      rfl
    · have hb : (k == NameKind.free) = false := by simpa using hk
      simp only [hb, Bool.false_eq_true, if_false, pure_bind]
      rw [clos_for env r _ fun y hy => h y (List.mem_cons_of_mem _ hy)]
      show _ = pure (closL env.cells r (if k = .free then (n, (env.cells.lookup n).getD 0) :: cs else cs))
      rw [if_neg hk]

theorem closureFor_all {sc : Scope} {env : Env} (h : ∀ y ∈ sc.names, y.2 = .free → ∃ c, env.cells.lookup y.1 = some c) : closureFor sc env = pure (closL env.cells sc.names []) := by
  have e := clos_for env sc.names [] h
  simp only [closureFor]
  rw [e, pure_bind]

/-- what the closure holds is the enclosing def's -/
theorem closL_sound {cells : List (Str × Addr)} : ∀ {l : List (Str × NameKind)} {cs : List (Str × Addr)}, (∀ y ∈ l, y.2 = .free → ∃ c, cells.lookup y.1 = some c) → (∀ x c, cs.lookup x = some c → cells.lookup x = some c) →
    ∀ x c, (closL cells l cs).lookup x = some c → cells.lookup x = some c
  | [], cs, _, hc, x, c, e => hc x c e
  | (n, k) :: r, cs, h, hc, x, c, e => by
    refine closL_sound (l := r) (cs := if k = .free then (n, (cells.lookup n).getD 0) :: cs else cs) (fun y hy => h y (List.mem_cons_of_mem _ hy)) ?_ x c e
    intro z d q
    by_cases hk : k = .free
    · rw [if_pos hk, List.lookup_cons] at q
      cases hz : z == n with
      | true =>
        rw [hz] at q
        have ez : z = n := by simpa using hz
        obtain ⟨c', e'⟩ := h (n, k) List.mem_cons_self hk
        have e2 : cells.lookup n = some c' := e'
        rw [e2] at q
        rw [ez, e2]
        exact q
      | false => rw [hz] at q; exact hc z d q
    · rw [if_neg hk] at q; exact hc z d q
theorem closL_keep {cells : List (Str × Addr)} {x : Str} : ∀ {l : List (Str × NameKind)} {cs : List (Str × Addr)}, (∃ c, cs.lookup x = some c) → ∃ c, (closL cells l cs).lookup x = some c
  | [], _, h => h
  | (n, k) :: r, cs, h => by
    refine closL_keep (l := r) (cs := if k = .free then (n, (cells.lookup n).getD 0) :: cs else cs) ?_
    obtain ⟨c, e⟩ := h
    by_cases hk : k = .free
    · rw [if_pos hk, List.lookup_cons]
      cases x == n with
      | true => exact ⟨_, rfl⟩
      | false => exact ⟨c, e⟩
    · rw [if_neg hk]; exact ⟨c, e⟩
theorem closL_full {cells : List (Str × Addr)} {x : Str} : ∀ {l : List (Str × NameKind)} {cs : List (Str × Addr)}, (x, NameKind.free) ∈ l → ∃ c, (closL cells l cs).lookup x = some c
  | (n, k) :: r, cs, h => by
    show ∃ c, (closL cells r (if k = .free then (n, (cells.lookup n).getD 0) :: cs else cs)).lookup x = some c
    rcases List.mem_cons.mp h with e | h
    · cases e
      refine closL_keep ?_
      rw [if_pos rfl, List.lookup_cons, beq_self_eq_true]
      exact ⟨_, rfl⟩
    · exact closL_full h

/-! ## the names of a block -/
theorem lookup_mapK {g : Str → NameKind → NameKind} {x : Str} : ∀ l : List (Str × NameKind), (l.map fun p => (p.1, g p.1 p.2)).lookup x = (l.lookup x).map (g x)
  | [] => rfl
  | (n, k) :: r => by
    rw [List.map_cons, List.lookup_cons, List.lookup_cons]
    cases hx : x == n with
    | true =>
      have e : x = n := by simpa using hx
      rw [e]; rfl
    | false => exact lookup_mapK r
def relK (env : Env) (n : Str) (k : NameKind) : NameKind := if (k == .free && env.scope.kind == .function && env.kindOf n == some .cell) = true then .cell else k
theorem relabel_names (sc : Scope) (env : Env) : (relabel sc env).names = sc.names.map fun p => (p.1, relK env p.1 p.2) := by
  unfold relabel relK
  refine List.map_congr_left fun p _ => ?_
  obtain ⟨n, k⟩ := p
  dsimp only
  split <;> rfl
theorem relabel_lookup (sc : Scope) (env : Env) (x : Str) : (relabel sc env).names.lookup x = (sc.names.lookup x).map (relK env x) := by
  rw [relabel_names]; exact lookup_mapK _
theorem relK_free {env : Env} {n : Str} : relK env n .free = .cell ∨ relK env n .free = .free := by
  unfold relK; split
  · exact .inl rfl
  · exact .inr rfl
theorem relK_ne {env : Env} {n : Str} {k : NameKind} (h : k ≠ .free) : relK env n k = k := by
  unfold relK
  have e : (k == NameKind.free) = false := by simpa using h
  rw [e]; rfl

/-- a block's names are in order: S the enclosing def's scope, N its names, M the block's -/
def lcOk (S sc : Scope) (N M : List Str) : Bool :=
  sc.kind == .function && (sc.names.all fun y => y.2 != .cell) && (sc.names.all fun y => y.2 != .local || sc.names.lookup y.1 == some .local) &&
  (sc.names.all fun y => y.2 != .free || S.names.lookup y.1 == some .cell || S.names.lookup y.1 == some .free) &&
  (sc.names.all fun y => y.2 != .free || sc.names.lookup y.1 == some .free) &&
  decide (N.length ≤ M.length) && decide M.Nodup &&
  ((List.range M.length).all fun i => match M[i]? with
    | none => true
    | some x => match sc.names.lookup x with
      | some .free => N[i]? == some x
      | some .local => decide (N.length ≤ i)
      | _ => true)
structure LcOk (S sc : Scope) (N M : List Str) : Prop where
  kind : sc.kind = .function
  ncell : ∀ y ∈ sc.names, y.2 ≠ .cell
  loc : ∀ y ∈ sc.names, y.2 = .local → sc.names.lookup y.1 = some .local
  fr : ∀ y ∈ sc.names, y.2 = .free → S.names.lookup y.1 = some .cell ∨ S.names.lookup y.1 = some .free
  frl : ∀ y ∈ sc.names, y.2 = .free → sc.names.lookup y.1 = some .free
  le : N.length ≤ M.length
  nd : M.Nodup
  old : ∀ (i : Nat) x, M[i]? = some x → sc.names.lookup x = some .free → N[i]? = some x
  new : ∀ (i : Nat) x, M[i]? = some x → sc.names.lookup x = some .local → N.length ≤ i
theorem lcOk_of {S sc : Scope} {N M : List Str} (h : lcOk S sc N M = true) : LcOk S sc N M := by
  unfold lcOk at h
  simp only [Bool.and_eq_true, List.all_eq_true, decide_eq_true_eq] at h
  obtain ⟨⟨⟨⟨⟨⟨⟨h1, h2⟩, h3⟩, h4⟩, h4'⟩, h5⟩, h6⟩, h7⟩ := h
  have at7 : ∀ (i : Nat) x, M[i]? = some x → (match sc.names.lookup x with | some .free => N[i]? == some x | some .local => decide (N.length ≤ i) | _ => true) = true := fun i x e => by
    have := h7 i (List.mem_range.mpr (List.getElem?_eq_some_iff.mp e).1)
    rw [e] at this
    exact this
  refine ⟨by simpa using h1, fun y hy => by simpa using h2 y hy, fun y hy e => ?_, fun y hy e => ?_, fun y hy e => ?_, h5, h6, fun i x e k => ?_, fun i x e k => ?_⟩
  · have := h3 y hy; rw [e] at this; simpa using this
  · have := h4 y hy; rw [e] at this; simpa using this
  · have := h4' y hy; rw [e] at this; simpa using this
  · have := at7 i x e; rw [k] at this; simpa using this
  · have := at7 i x e; rw [k] at this; simpa using this

/-! ## the block's context -/
def cxLc (X : Cx) (sc : Scope) (C : Addr) (s : Shared) (H : Hp) (fp : List Addr) (M : List Str) : Cx :=
  { X with N := M, s₀ := s, H₀ := H, env := compEnvC sc (closL X.env.cells sc.names []) C X.env, outer := X.stack, ex := fp, fn := fun _ => false, pn := [], xe := fun _ _ => False }
end L2

set_option Elab.async false
set_option linter.all false
set_option maxRecDepth 100000
namespace L2
open PySem PySem.Spec PyProof.Rows
section
variable {X : Cx} {tg : Expr}

/-- the block's state at its entry -/
theorem lc_inv {pins : List (Addr × Obj)} {σ : St} {H : Hp} {s : Shared} {sc : Scope} {C : Addr} {fp : List Addr} {M : List Str} {h4 : Heap} {t4 : Nat} {m : Str → Option Value}
    (L : LcOk X.env.scope sc X.N M) (I : Inv X pins σ H s) (hf : ∀ b ∈ fp, FpOk X pins H b) (hfo : ∀ b ∈ fp, ∃ o, s.heap.get? b = some o)
    (hC : s.heap.objs.size ≤ C) (hk : ∀ b o, s.heap.get? b = some o → h4.get? b = some o) (hn : h4.Ns C m) :
    Inv (cxLc X sc C s H fp M) [] (σ ++ List.replicate (M.length - X.N.length) none) H { s with heap := h4, toks := t4 } := by
  have hcl : ∀ y ∈ sc.names, y.2 = .free → ∃ c, X.env.cells.lookup y.1 = some c := fun y hy e => I.ok.has y.1 (by
    rcases L.fr y hy e with z | z
    · exact .inl z
    · exact .inr z)
  have snd : ∀ x c, (closL X.env.cells sc.names []).lookup x = some c → X.env.cells.lookup x = some c := closL_sound hcl fun _ _ q => by cases q
  have kinds : ∀ x, ((relabel sc X.env).names.lookup x = some .cell ∨ (relabel sc X.env).names.lookup x = some .free) → sc.names.lookup x = some .free := fun x hx => by
    rw [relabel_lookup] at hx
    cases e : sc.names.lookup x with
    | none => rw [e] at hx; rcases hx with z | z <;> cases z
    | some k =>
      by_cases hk : k = .free
      · rw [hk]
      · rw [e] at hx
        have z0 : (some k).map (relK X.env x) = some k := by show some (relK X.env x k) = some k; rw [relK_ne hk]
        rw [z0] at hx
        rcases hx with z | z
        · cases z; exact absurd rfl (L.ncell _ (PySem.mem_of_lookup e))
        · cases z; exact absurd rfl hk
  have ok : (cxLc X sc C s H fp M).Ok := by
    refine ⟨I.ok.mod, ?_, I.ok.glob, I.ok.blt, hC, fun x y c h1 h2 => I.ok.inj x y c (snd x c h1) (snd y c h2), fun x hx => ?_, fun x c h1 _ => ?_, I.ok.hd, I.ok.frames, .inl rfl, fun b hb => ⟨?_, fun x c e => (hf b hb).2.2.2.2.1 x c (snd x c e)⟩,
      I.bs, Nat.le_trans I.ok.bsz I.sz, fun b o e hb => ?_, fun b hb z => ?_, I.stack, I.stkFree⟩
    · show (relabel sc X.env).kind = _
      unfold relabel; exact L.kind
    · exact closL_full (PySem.mem_of_lookup (kinds x hx))
    · cases h1
    · obtain ⟨o, e⟩ := hfo b hb
      exact Nat.ne_of_lt (Nat.lt_of_lt_of_le (Heap.lt_size e) hC)
    · rcases (hf b hb).2.2.2.1 with z | z
      · exact I.ok.noex b o e z
      · exact absurd (Heap.lt_size e) (Nat.not_lt.mpr (Nat.le_trans I.ok.bsz z))
    · rcases List.mem_cons.mp (I.stkSub b z) with q | q
      · exact (hf b hb).2.1 q
      · exact (hf b hb).2.2.1 q
  refine ⟨ok, rfl, I.bare, Un.kept hk, ⟨m, hn, fun i x v e1 e2 e3 => ?_⟩, fun x c e => ?_, I.hok.fresh hC, fun x c e => I.freeC x c (snd x c e), fun p hp => absurd (show p ∈ ([] : List (Addr × Obj)) from hp) (by simp), I.hok.kept hk, ?_⟩
  · have e1' : M[i]? = some x := e1
    have e3' : Vis (relabel sc X.env) x := e3
    have hi : i < σ.length := by
      by_cases hi : i < σ.length
      · exact hi
      · rw [List.getElem?_append_right (by omega), List.getElem?_replicate] at e2
        split at e2 <;> cases e2
    rw [List.getElem?_append_left hi] at e2
    rcases e3' with z | z
    · have z' : sc.names.lookup x = some .local := by
        rw [relabel_lookup] at z
        cases e : sc.names.lookup x with
        | none => rw [e] at z; cases z
        | some k =>
          rw [e] at z
          have z2 : relK X.env x k = .local := Option.some.inj z
          by_cases hk : k = .free
          · rw [hk] at z2
            rcases relK_free (env := X.env) (n := x) with q | q <;> (rw [q] at z2; cases z2)
          · rw [relK_ne hk] at z2; rw [z2]
      have := L.new i x e1' z'
      rw [I.len] at hi
      omega
    · have fr := kinds x z
      have mem := PySem.mem_of_lookup fr
      have hX := L.old i x e1' fr
      obtain ⟨mX, hnX, hl⟩ := I.loc
      have vis : Vis X.env.scope x := .inr (L.fr _ mem rfl)
      obtain ⟨u, r, l⟩ := hl i x v hX e2 vis
      refine ⟨u, r, .inr ⟨z, ?_⟩⟩
      obtain ⟨c', ec'⟩ := closL_full (cells := X.env.cells) (cs := []) mem
      rcases l with ⟨k, _⟩ | ⟨k, c, ec, cell⟩
      · have k' : X.env.scope.names.lookup x = some .local := k
        rcases L.fr _ mem rfl with q | q
        · have q' : X.env.scope.names.lookup x = some .cell := q
          rw [k'] at q'; cases q'
        · have q' : X.env.scope.names.lookup x = some .free := q
          rw [k'] at q'; cases q'
      · have e := snd x c' ec'
        rw [ec] at e; cases e
        exact ⟨_, ec', cell.keeps hk⟩
  · obtain ⟨v, q⟩ := I.cell x c (snd x c e)
    exact ⟨v, q.keeps hk⟩
  · show _ = M.length
    have := L.le
    rw [List.length_append, List.length_replicate, I.len]
    omega

/-- the tests of a block -/
def PIfs (X : Cx) (ifs : List Expr) (t : TT) : Prop :=
  ∀ (pins : List (Addr × Obj)) (s : Shared) (σ : St) (H : Hp) (Q : Bool → Hp → Prop), Inv X pins σ H s → t σ H Q →
    wpAny (model X.prog X.w) X.A (forIn ifs true fun c r => if r = true then do let ok ← isTrue c X.env (eval c X.env); pure (ForInStep.yield ok) else pure (ForInStep.yield r)) (TP X pins σ Q) X.xe s
def tTT : TT := fun _ H Q => Q true H
theorem pifs_nil : PIfs X [] tTT := fun _ _ _ H _ I h => wpAny_tests_nil ⟨H, I, h⟩
theorem pifs_one {c : Expr} {t : TT} (h : PT X c t) : PIfs X [c] t := fun pins s σ H Q I hw => wpAny_tests_one (h pins s σ H Q I hw)
end

section
variable {prog : Program} {w : World} {A : Around} {R : Result → Shared → Prop} {s : Shared}
/-- the loop of a block, its target any -/
theorem compLoop_own {elt target iter : Expr} {ifs : List Expr} {scope : Scope} {pos : Pos} {it acc : Value} {env : Env} (I : Nat → Shared → Prop)
    (turn : ∀ n s, I n s → wpAny (model prog w) A (pyNext it) (fun r s₁ => match r with
      | none => R (.ok .next) s₁
      | some v => wpAny (model prog w) A (letOwnedTupleGo target it v) (fun _ s₀ => wpAny (model prog w) A (assign target env v) (fun _ s₂ =>
          wpAny (model prog w) A (forIn ifs true fun c r => if r = true then do let ok ← isTrue c env (eval c env); pure (ForInStep.yield ok) else pure (ForInStep.yield r)) (fun ok s₃ =>
            if ok = true then wpAny (model prog w) A (eval elt env) (fun x s₄ =>
              wpAny (model prog w) A (call (.builtin "list.append") [acc, x]) (fun _ s₅ => ∃ m, m < n ∧ I m s₅) (fun _ _ => False) s₄) (fun _ _ => False) s₃
            else ∃ m, m < n ∧ I m s₃) (fun _ _ => False) s₂) (fun _ _ => False) s₀) (fun _ _ => False) s₁) (fun _ _ => False) s)
    (n : Nat) (h : I n s) :
    codeAny (model prog w) A (.compLoop (.ListComp elt [⟨target, iter, ifs, 0⟩] scope pos) 0 it acc env) R s := by
  refine codeAny_loop rfl I (fun n s hI => ?_) n h
  show wpAny _ A ((compTurn (.ListComp elt [⟨target, iter, ifs, 0⟩] scope pos) 0 it acc env).onRaise (fun x => do noteFrame x env; theTreesLotGoes x)) _ _ s
  refine wpAny_noted ?_
  rw [compTurn_list]
  refine wpAny_bind (wpAny_standAt (wpAny_bind (wpAny_mono (turn n s hI) (fun r s₁ h₁ => ?_) fun _ _ h' => h'.elim)))
  cases r with
  | none => exact wpAny_pure h₁
  | some v =>
    refine wpAny_bind (wpAny_mono h₁ (fun _ s₀ h₀ => ?_) fun _ _ h' => h'.elim)
    refine wpAny_bind (wpAny_mono h₀ (fun _ s₂ h₂ => wpAny_bind (wpAny_mono h₂ (fun ok s₃ h₃ => ?_) fun _ _ h' => h'.elim)) fun _ _ h' => h'.elim)
    cases ok with
    | false => exact wpAny_pure ⟨rfl, h₃⟩
    | true =>
      exact wpAny_bind (wpAny_bind (wpAny_mono h₃ (fun x s₄ h₄ => wpAny_bind (wpAny_mono h₄ (fun _ s₅ h₅ => wpAny_pure (wpAny_pure ⟨rfl, h₅⟩)) fun _ _ h' => h'.elim)) fun _ _ h' => h'.elim))
end

section
variable {X : Cx} {tg : Expr}
/-- W: the turn, a measure, what has been gathered, the block's names, the heap -/
def tLcB (J : It) (g : TG) (tc : TT) (te : TE) (k : Nat) (σ : St) (H1 : Hp) (Q : VK) : Prop :=
  ∃ W : Nat → Nat → List V → St → Hp → Prop, (∃ m, W 0 m [] (σ ++ List.replicate k none) H1) ∧ ∀ i m ys σ' H', W i m ys σ' H' →
    (J.stop i H' ∧ ∀ D, H' D = none → Q (.ref D) (upd H' D (.lst ys))) ∨
    (J.go i H' ∧ ys.length < sizeLine ∧ ∀ x H2, J.yld i H' x H2 → g x σ' H2 fun σ2 H3 => tc σ2 H3 fun b H4 =>
      if b = true then te σ2 H4 fun y H5 => ∃ m', m' < m ∧ W (i + 1) m' (ys ++ [y]) σ2 H5 else ∃ m', m' < m ∧ W (i + 1) m' ys σ2 H4)
def tLc (wi : TI) (g : TG) (tc : TT) (te : TE) (k : Nat) : TE := fun σ H Q => wi σ H fun J H1 => tLcB J g tc te k σ H1 Q

theorem lc_block {pins : List (Addr × Obj)} {σ : St} {H : Hp} {s : Shared} {elt iter : Expr} {ifs : List Expr} {sc : Scope} {pos : Pos} {it : Addr} {fp : List Addr} {tn : Nat → Heap → Prop} {J : It} {g : TG} {tc : TT} {te : TE} {M : List Str} {Q : VK}
    {RR : Value → Addr → Result → Shared → Prop} {E : Value → Shared → Prop}
    (L : LcOk X.env.scope sc X.N M) (hcalm : X.calm = true) (I : Inv X pins σ H s) (T : Turn X.prog X.w X.K tg J fp it tn) (st : tn 0 s.heap) (hf : ∀ b ∈ fp, FpOk X pins H b)
    (hg : ∀ C s H fp, PG (cxLc X sc C s H fp M) tg g) (hc : ∀ C s H fp, PIfs (cxLc X sc C s H fp M) ifs tc) (he : ∀ C s H fp, PE (cxLc X sc C s H fp M) elt te)
    (hw : tLcB J g tc te (M.length - X.N.length) σ H Q)
    (hRR : ∀ D C s' m H', s.heap.objs.size ≤ C → Inv X pins σ H' s' → H' C = none → s'.heap.Ns C m → Q (.ref D) H' → RR (.ref D) C (.ok .next) s') :
    wpAny (model X.prog X.w) X.A (newList []) (fun acc s3 => wpAny (model X.prog X.w) X.A (newFunctionEnv sc X.env.globals (closL X.env.cells sc.names []) [] X.env.qual none .none (some X.env)) (fun cenv s4 =>
      codeAny (model X.prog X.w) X.A (.compStart (.ListComp elt [⟨tg, iter, ifs, 0⟩] sc pos) 0 (.ref it) acc { cenv with scope := relabel sc X.env }) (RR acc cenv.locals) s4) E s3) E s := by
  refine wpAny_newObj_type (wpAny_newFunctionEnv L.ncell (by intro y hy; simp at hy) (fun h₁ hns hsb => ?_) L.kind)
  dsimp only at hns hsb ⊢
  generalize hH2 : s.heap.push { cls := .type "list", dict := none, data := .seq ([] : List Value).toArray } = G2 at hns hsb ⊢
  have hC : G2.objs.size = s.heap.objs.size + 1 := by rw [← hH2, Heap.size_push]
  have hfo : ∀ b ∈ fp, ∃ o, s.heap.get? b = some o := fun b hb => let ⟨o, e, _⟩ := T.obj 0 _ st b hb; ⟨o, e⟩
  have old : ∀ b o, s.heap.get? b = some o → h₁.get? b = some o := fun b o e =>
    hsb.extBut b o (Nat.ne_of_lt (Nat.lt_of_lt_of_le (Heap.lt_size e) (by omega))) (Heap.get?_push_of_some _ (hH2 ▸ Heap.get?_push_of_some _ e))
  have hacc : h₁.PlainList s.heap.objs.size ([] : List Value).toArray := ⟨_, hsb.extBut _ _ (Nat.ne_of_lt (by omega)) (Heap.get?_push_of_some _ (hH2 ▸ Heap.get?_push_size _ rfl))⟩
  have hCle : s.heap.objs.size ≤ G2.objs.size := by omega
  generalize hCC : G2.objs.size = C at hns hsb hC hCle ⊢
  generalize hDD : s.heap.objs.size = D at hacc hC hCle ⊢
  have I0 : Inv (cxLc X sc C s H fp M) [] (σ ++ List.replicate (M.length - X.N.length) none) H { s with heap := h₁, toks := s.toks + ([] : List (Str × Value)).length } := lc_inv L I hf hfo (by omega) old hns
  have hDC : D ≠ C := by omega
  have hDfs : D ∉ frs X.stack := fun hb => by
    obtain ⟨_, o, e, _⟩ := I.stack.mem hb
    have z : D < s.heap.objs.size := Heap.lt_size e
    rw [hDD] at z
    exact absurd z (Nat.lt_irrefl _)
  have hDfp : ∀ b ∈ fp, b ≠ D := fun b hb => by
    obtain ⟨o, e⟩ := hfo b hb
    have z : b < s.heap.objs.size := Heap.lt_size e
    rw [hDD] at z
    exact Nat.ne_of_lt z
  have hcells : ∀ x c, (cxLc X sc C s H fp M).env.cells.lookup x = some c → c ≠ D := fun x c e => by
    have hcl : ∀ y ∈ sc.names, y.2 = .free → ∃ c, X.env.cells.lookup y.1 = some c := fun y hy e => I.ok.has y.1 (by
      rcases L.fr y hy e with z | z
      · exact .inl z
      · exact .inr z)
    obtain ⟨v, q⟩ := I.cell x c (closL_sound hcl (fun _ _ q => by cases q) x c e)
    have z : c < s.heap.objs.size := q.lt
    rw [hDD] at z
    exact Nat.ne_of_lt z
  -- the iterator's own objects, in the block
  have stat : ∀ {o : Obj} {H' : Hp}, (∀ b ∈ fp, H' b = none) → ∀ b ∈ fp, FpOk (cxLc X sc C s H fp M) [(D, o)] H' b := fun {o H'} hn b hb => by
    refine ⟨hn b hb, (I0.ok.exf b hb).1, I0.ok.exfs b hb, .inl hb, (I0.ok.exf b hb).2, fun p hp => ?_⟩
    have e : p = (D, o) := by simpa using (show p ∈ ([] : List (Addr × Obj)) ++ [(D, o)] from hp)
    rw [e]; exact (hDfp b hb).symm
  obtain ⟨W, ⟨m0, w0⟩, hW⟩ := hw
  have loop : ∀ s₂ : Shared, s₂ = { s with heap := h₁, toks := s.toks + ([] : List (Str × Value)).length } →
      codeAny (model X.prog X.w) X.A (.compLoop (.ListComp elt [⟨tg, iter, ifs, 0⟩] sc pos) 0 (.ref it) (.ref D) (compEnvC sc (closL X.env.cells sc.names []) C X.env)) (RR (.ref D) C) s₂ := by
    rintro s₂ rfl
    refine compLoop_own (fun n s' => ∃ i ys σ' H' its, Inv (cxLc X sc C s H fp M) [] σ' H' s' ∧ tn i s'.heap ∧ (∀ b ∈ fp, H' b = none) ∧ s'.heap.PlainList D (List.toArray its) ∧ H' D = none ∧ Vals ys its ∧ ys.length ≤ sizeLine ∧ W i n ys σ' H') ?_ m0
      ⟨0, [], _, H, [], I0, T.keep 0 _ _ st fun b _ o e => old b o e, fun b hb => (hf b hb).1, hacc, I.hok.fresh (by omega), .nil, Nat.zero_le _, w0⟩
    rintro n s' ⟨i, ys, σ', H', its, I', st', fr', pl', nD, rv, hz, w'⟩
    obtain ⟨kk, eD⟩ := id pl'
    have ID : Inv (cxLc X sc C s H fp M) [(D, { cls := .type "list", data := .seq its.toArray kk })] σ' H' s' := I'.pins_of fun p hp => by
      have e : p = (D, { cls := .type "list", data := .seq its.toArray kk }) := by simpa using hp
      rw [e]
      exact ⟨eD, nD, hDC, hDfs, fun v z => by cases z⟩
    rcases hW i n ys σ' H' w' with ⟨stop, q⟩ | ⟨go, hlt, step⟩
    · refine wpAny_mono (T.done (cxLc X sc C s H fp M) rfl rfl rfl hcalm i _ s' σ' H' (fun _ _ => False) ID (stat fr') st' stop) (fun r s1 ⟨hr, I1⟩ => ?_) fun _ _ f => f
      subst hr
      obtain ⟨m, hn1, _⟩ := I1.loc
      have pD := I1.pin (D, { cls := .type "list", data := .seq its.toArray kk }) (by show _ ∈ ([] : List (Addr × Obj)) ++ _; simp)
      have eC : H' C = none := I1.free
      have hIX : Inv X pins σ (upd H' D (.lst ys)) s1 := by
        refine I.call' (ch := fp) I1.os ⟨I1.base.keep, I1.base.slot, fun b o e n hx => ?_, I1.base.there, fun b xs e => ?_, fun b o u e => ?_, fun b ps e => ?_⟩ (fun b o e => ?_) I1.bare fun b hb => ⟨(hf b hb).2.2.2.1, (hf b hb).2.1, (hf b hb).2.2.2.2.1, (hf b hb).2.2.2.2.2⟩
        · have : b ≠ D := by
            have z : b < s.heap.objs.size := Heap.lt_size (show s.heap.get? b = some o from e)
            rw [hDD] at z
            exact Nat.ne_of_lt z
          rw [upd_ne this]
          exact I1.base.free b o e n hx
        · have z := I1.base.tups b xs e
          rw [upd_ne (ne_of_none z nD)]; exact z
        · have z := I1.base.frzs b o u e
          rw [upd_ne (ne_of_none z nD)]; exact z
        · obtain ⟨more, z⟩ := I1.base.tbls b ps e
          exact ⟨more, by rw [upd_ne (ne_of_none z nD)]; exact z⟩
        · by_cases hb : b = D
          · subst hb
            rw [upd_same] at e; cases e
            exact ⟨hz, its, kk, rv, pD.1⟩
          · rw [upd_ne hb] at e
            exact (I1.hok b o e).stay (fun _ _ _ q => q) (fun c q => by rw [upd_ne (ne_of_none q nD)]; exact q) fun c xs q => by rw [upd_ne (ne_of_none q nD)]; exact q
      exact hRR D C s1 m _ (by omega) hIX (by rw [upd_ne hDC.symm]; exact eC) hn1 (q D nD)
    · refine wpAny_mono (T.item (cxLc X sc C s H fp M) rfl rfl rfl hcalm i _ s' σ' H' (fun _ _ => False) ID (stat fr') st' go) (fun r s1 ⟨u, hr, h4⟩ => ?_) fun _ _ f => f
      subst hr
      refine wpAny_mono h4 (fun _ s2 ⟨x, H2, I2, r2, y2, st2, fr2⟩ => ?_) fun _ _ f => f
      have I2' := I2.pinned (stat fr2) (T.obj _ _ st2)
      refine wpAny_mono (hg C s H fp _ s2 σ' H2 x u _ I2' r2 (step x H2 y2)) (fun _ s3 ⟨σ3, H3, I3, q3⟩ => ?_) fun _ _ f => f
      refine wpAny_mono (hc C s H fp _ s3 σ3 H3 _ I3 q3) (fun ok s4 ⟨H4, I4, q4⟩ => ?_) fun _ _ f => f
      -- what the pins say
      have pinD : ∀ {σ5 : St} {H5 : Hp} {s5 : Shared}, Inv (cxLc X sc C s H fp M) ([(D, { cls := .type "list", data := .seq its.toArray kk })] ++ pinsAt fp s2.heap) σ5 H5 s5 →
          s5.heap.get? D = some { cls := .type "list", data := .seq its.toArray kk } ∧ H5 D = none := fun {σ5 H5 s5} I5 => by
        have z := I5.pin (D, { cls := .type "list", data := .seq its.toArray kk }) (by show _ ∈ ([] : List (Addr × Obj)) ++ _; simp)
        exact ⟨z.1, z.2.1⟩
      have pinF : ∀ {σ5 : St} {H5 : Hp} {s5 : Shared}, Inv (cxLc X sc C s H fp M) ([(D, { cls := .type "list", data := .seq its.toArray kk })] ++ pinsAt fp s2.heap) σ5 H5 s5 →
          tn (i + 1) s5.heap ∧ ∀ b ∈ fp, H5 b = none := fun {σ5 H5 s5} I5 => by
        refine ⟨T.keep _ _ _ st2 fun b hb o e => (I5.pin (b, o) (List.mem_append_right _ (List.mem_append_right _ (mem_pinsAt hb e)))).1, fun b hb => ?_⟩
        obtain ⟨o, e, d⟩ := T.obj _ _ st2 b hb
        exact (I5.pin (b, o) (List.mem_append_right _ (List.mem_append_right _ (mem_pinsAt hb e)))).2.1
      cases ok with
      | false =>
        rw [if_neg Bool.false_ne_true] at q4
        obtain ⟨m', hm, w4⟩ := q4
        rw [if_neg Bool.false_ne_true]
        exact ⟨m', hm, i + 1, ys, σ3, H4, its, I4.pins_of (fun p hp => absurd hp (by simp)), (pinF I4).1, (pinF I4).2, ⟨kk, (pinD I4).1⟩, (pinD I4).2, rv, hz, w4⟩
      | true =>
        rw [if_pos rfl] at q4
        rw [if_pos rfl]
        refine wpAny_mono (he C s H fp _ s4 σ3 H4 _ I4 q4) (fun yv s5 ⟨y, H5, I5, r5, m', hm, w5⟩ => ?_) fun _ _ f => f
        have hsz : its.toArray.size ≤ sizeLine := by rw [List.size_toArray, ← rv.length]; exact hz
        refine wpAny_list_append_plain (hsz := hsz) ⟨kk, (pinD I5).1⟩ fun h6 hpl hs6 => ?_
        have I6 : Inv (cxLc X sc C s H fp M) [] σ3 H5 { s5 with heap := h6, toks := s5.toks } := (I5.pins_of (pins' := []) (fun p hp => absurd hp (by simp))).turned (it := D) (fun b o hb e => (hs6.2 b hb).trans e) (pinD I5).2 hDC (.inr (by show s.heap.objs.size ≤ D; omega)) hcells
          fun p hp => absurd (show p ∈ ([] : List (Addr × Obj)) ++ [] from hp) (by simp)
        refine ⟨m', hm, i + 1, ys ++ [y], σ3, H5, its ++ [yv], I6, T.keep _ _ _ (pinF I5).1 fun b hb o e => (hs6.2 b (hDfp b hb)).trans e, (pinF I5).2, ?_, (pinD I5).2, rv.append (.cons r5 .nil), ?_, w5⟩
        · have e : (its ++ [yv]).toArray = its.toArray.push yv := by simp
          rw [e]; exact hpl
        · rw [List.length_append, List.length_singleton]; omega
  have st1 : tn 0 h₁ := T.keep 0 _ _ st fun b _ o e => old b o e
  exact codeAny_compStart_list (loop _ rfl) (T.self X.A 0 _ _ _ st1 (loop _ rfl))

theorem lc_clos {pins : List (Addr × Obj)} {σ : St} {H : Hp} {s : Shared} {sc : Scope} {M : List Str} (L : LcOk X.env.scope sc X.N M) (I : Inv X pins σ H s) : closureFor sc X.env = pure (closL X.env.cells sc.names []) :=
  closureFor_all fun y hy e => I.ok.has y.1 (by
    rcases L.fr y hy e with z | z
    · exact .inl z
    · exact .inr z)
/-- the block's frame is let go -/
theorem lc_after {pins : List (Addr × Obj)} {σ : St} {H H0 : Hp} {s0 s' : Shared} {C : Addr} {h' : Heap} (I0 : Inv X pins σ H0 s0) (I : Inv X pins σ H s') (hC : s0.heap.objs.size ≤ C) (nC : H C = none) (hs : Heap.SameBut C s'.heap h') : Inv X pins σ H { s' with heap := h' } := by
  refine I.turned (t' := s'.toks) (it := C) (fun b o hb e => (hs.2 b hb).trans e) nC ?_ (.inr (Nat.le_trans I0.sz hC)) (fun x c e => ?_) fun p hp => ?_
  · exact Nat.ne_of_gt (Nat.lt_of_lt_of_le I0.lt hC)
  · obtain ⟨v, q⟩ := I0.cell x c e
    exact Nat.ne_of_lt (Nat.lt_of_lt_of_le q.lt hC)
  · exact Nat.ne_of_lt (Nat.lt_of_lt_of_le (Heap.lt_size (I0.pin p hp).1) hC)

/-- [elt for tg in iter if ..] -/
theorem pe_lc {elt iter : Expr} {ifs : List Expr} {sc : Scope} {pos : Pos} {wi : TI} {g : TG} {tc : TT} {te : TE} {M : List Str} (hcalm : X.calm = true) (L : LcOk X.env.scope sc X.N M) (hi : PI X tg iter wi)
    (hg : ∀ C s H fp, PG (cxLc X sc C s H fp M) tg g) (hc : ∀ C s H fp, PIfs (cxLc X sc C s H fp M) ifs tc) (he : ∀ C s H fp, PE (cxLc X sc C s H fp M) elt te)
    (hs : ∀ x, foldedSetIterable iter X.env x = pure x := by intro _; rfl) :
    PE X (.ListComp elt [⟨tg, iter, ifs, 0⟩] sc pos) (tLc wi g tc te (M.length - X.N.length)) := by
  intro pins s σ H Q I h
  rw [eval_ListComp]
  refine wpAny_comprehension_free (use := none) rfl hs (lc_clos L I) L.kind L.loc (thn (hi pins s σ H _ I h) fun v s1 h1 => thn h1 fun itv s2 h2 => ?_)
  obtain ⟨it, fp, tn, J, H2, e, I2, T, st2, f2, hw⟩ := h2
  subst e
  refine lc_block (RR := fun acc C => compPost (model X.prog X.w) X.A X.xe none (EP X pins σ Q) acc C) L hcalm I2 T st2 f2 hg hc he hw fun D C s' m H' hC I' nC hn hq => ?_
  exact ⟨m, hn, fun h' hs' => ⟨.ref D, H', lc_after I2 I' hC nC hs', rfl, hq⟩⟩

/-- x = [elt for tg in iter if ..] where the store comes ahead of the block's names -/
theorem ps_lc {elt iter : Expr} {ifs : List Expr} {sc : Scope} {pos spos py : Pos} {wi : TI} {g : TG} {tc : TT} {te : TE} {M : List Str} {i : Nat} {y : Str} (hN : X.N.Nodup) (hy : X.N[i]? = some y) (hyl : X.env.scope.names.lookup y = some .local)
    (hcalm : X.calm = true) (L : LcOk X.env.scope sc X.N M) (hi : PI X tg iter wi)
    (hg : ∀ C s H fp, PG (cxLc X sc C s H fp M) tg g) (hc : ∀ C s H fp, PIfs (cxLc X sc C s H fp M) ifs tc) (he : ∀ C s H fp, PE (cxLc X sc C s H fp M) elt te)
    (hsw : swapsWith (.ListComp elt [⟨tg, iter, ifs, 0⟩] sc pos) (some (.Name y py)) spos.line X.env = pure true := by rfl)
    (hs : ∀ x, foldedSetIterable iter X.env x = pure x := by intro _; rfl) :
    PS X (.Assign [.Name y py] (.ListComp elt [⟨tg, iter, ifs, 0⟩] sc pos) spos) (tAsg (tLc wi g tc te (M.length - X.N.length)) (gName i)) := by
  intro pins s σ H D I h
  rw [exec_Assign_Name_used _ _ _ _ hsw]
  refine wpAny_bind (wpAny_standAt (wpAny_bind ?_))
  show wpAny _ X.A (do let _ ← comprehension (.ListComp elt [⟨tg, iter, ifs, 0⟩] sc pos) sc X.env _ (newList []) false (eval iter X.env) (some (assign (.Name y py) X.env))) _ _ s
  refine wpAny_bind (wpAny_mono (wpAny_comprehension_free (use := some (assign (.Name y py) X.env)) (Q := fun _ s' => SP X pins D .next s') rfl hs (lc_clos L I) L.kind L.loc
    (thn (hi pins s σ H _ I h) fun v s1 h1 => thn h1 fun itv s2 h2 => ?_)) (fun _ s' hq => wpAny_pure (wpAny_pure hq)) fun _ _ e => e)
  obtain ⟨it, fp, tn, J, H2, e, I2, T, st2, f2, hw⟩ := h2
  subst e
  refine lc_block (RR := fun acc C => compPost (model X.prog X.w) X.A X.xe (some (assign (.Name y py) X.env)) (fun _ s' => SP X pins D .next s') acc C) L hcalm I2 T st2 f2 hg hc he hw fun a C s' m H' hC I' nC hn hq => ?_
  show wpAny _ X.A (assign (.Name y py) X.env (.ref a)) _ _ _
  have cneq : C ≠ X.env.locals := Nat.ne_of_gt (Nat.lt_of_lt_of_le I2.lt hC)
  refine wpAny_assign_Name (store_ok2 I' hN hy (.inl hyl) (v := .ref a) rfl (fun s'' I'' ⟨b, sb, hb⟩ => ?_) (.inr hyl))
  have hbC : C ≠ b := by
    rcases hb with z | z
    · rw [z]; exact cneq
    · obtain ⟨v, q⟩ := I2.cell y b z
      exact Nat.ne_of_gt (Nat.lt_of_lt_of_le q.lt hC)
  refine ⟨m, hn.sameBut sb hbC, fun h' hs' => ⟨σ.set i (some (.ref a)), H', ?_, hq⟩⟩
  refine I''.turned (t' := s''.toks) (it := C) (fun b o hb e => (hs'.2 b hb).trans e) nC cneq (.inr (Nat.le_trans I2.sz hC)) (fun x c e => ?_) fun p hp => ?_
  · obtain ⟨v, q⟩ := I2.cell x c e
    exact Nat.ne_of_lt (Nat.lt_of_lt_of_le q.lt hC)
  · exact Nat.ne_of_lt (Nat.lt_of_lt_of_le (Heap.lt_size (I2.pin p hp).1) hC)
end
end L2

set_option Elab.async false
set_option linter.all false
set_option maxRecDepth 100000
namespace L2
open PySem PySem.Spec PyProof.Rows
section
variable {X : Cx}

/-! ## any, all, sum -/
theorem bools_of {bs : List Bool} : ∀ {us : List Value}, Vals (bs.map V.bl) us → LSm.BoolsAre us bs := by
  induction bs with
  | nil => intro us r; cases r; exact .nil
  | cons b bs ih =>
    intro us r
    rw [List.map_cons] at r
    cases r with
    | cons r1 r2 =>
      cases r1
      exact .cons b (ih r2)
section
variable {prog : Program} {w : World} {A : Around} {E : Value → Shared → Prop} {s : Shared} {l : Addr} {vs : List Value} {bs : List Bool} {Q : Value → Shared → Prop}
theorem any_own (hh : A.handled = none) (hl : s.heap.IsList l vs.toArray) (hb : LSm.BoolsAre vs bs)
    (h : ∀ h' tk, (∀ b x, s.heap.get? b = some x → h'.get? b = some x) → Q (.bool (bs.any id)) { s with heap := h', toks := tk }) :
    wpAny (model prog w) A (call (.builtin "any") [.ref l]) Q E s := by
  have hlt : l < s.heap.objs.size := by obtain ⟨_, e, _⟩ := hl; exact Heap.lt_size e
  refine call_any_walk (wpAny_pyIter_list hl ⟨s.heap.objs.size, [s.heap.objs.size, l], [s.heap.objs.size], vs.toArray.size, _, _, fun i => (bs[i]?).getD false, rfl,
    Walks.list (A := A.in1) hh _ l (Nat.ne_of_lt hlt) vs.toArray, ⟨⟨_, Heap.get?_push_size _ rfl, rfl, rfl⟩, hl.push _⟩, fun i v s' Q' E' hP hQ => ?_, fun h' tk hk => ?_⟩)
  · obtain ⟨b, e, rfl⟩ := hb.get i v (by simpa using hP)
    simp only [e, Option.getD_some] at hQ
    exact wpAny_truthy_bool hQ
  · have e : ((List.range vs.toArray.size).any fun i => (bs[i]?).getD false) = bs.any id := by
      rw [List.size_toArray, hb.length]; exact LSm.range_any bs
    rw [e]
    exact h h' tk (LSm.kept_iter hk)
theorem all_own (hh : A.handled = none) (hl : s.heap.IsList l vs.toArray) (hb : LSm.BoolsAre vs bs)
    (h : ∀ h' tk, (∀ b x, s.heap.get? b = some x → h'.get? b = some x) → Q (.bool (bs.all id)) { s with heap := h', toks := tk }) :
    wpAny (model prog w) A (call (.builtin "all") [.ref l]) Q E s := by
  have hlt : l < s.heap.objs.size := by obtain ⟨_, e, _⟩ := hl; exact Heap.lt_size e
  refine call_all_walk (wpAny_pyIter_list hl ⟨s.heap.objs.size, [s.heap.objs.size, l], [s.heap.objs.size], vs.toArray.size, _, _, fun i => (bs[i]?).getD true, rfl,
    Walks.list (A := A.in1) hh _ l (Nat.ne_of_lt hlt) vs.toArray, ⟨⟨_, Heap.get?_push_size _ rfl, rfl, rfl⟩, hl.push _⟩, fun i v s' Q' E' hP hQ => ?_, fun h' tk hk => ?_⟩)
  · obtain ⟨b, e, rfl⟩ := hb.get i v (by simpa using hP)
    simp only [e, Option.getD_some] at hQ
    exact wpAny_truthy_bool hQ
  · have e : ((List.range vs.toArray.size).all fun i => (bs[i]?).getD true) = bs.all id := by
      rw [List.size_toArray, hb.length]; exact LSm.range_all bs
    rw [e]
    exact h h' tk (LSm.kept_iter hk)
theorem sum_own {ns : List Int} (hh : A.handled = none) (hl : s.heap.IsList l vs.toArray) (hi : IntsAre vs ns)
    (h : ∀ h' tk t', (∀ b x, s.heap.get? b = some x → h'.get? b = some x) → Q (.int ns.sum t') { s with heap := h', toks := tk }) :
    wpAny (model prog w) A (call (.builtin "sum") [.ref l]) Q E s := by
  obtain ⟨xs, hx⟩ := hi.allInts.items
  have hl' : s.heap.IsList l (intItems xs) := hx ▸ hl
  refine sum_intListG hh hl' fun h' tk t' hk => ?_
  have e1 : ns = xs.toList.map (·.1) := by
    rw [← nums_intItems, ← hx]
    exact (show numsOf vs.toArray.toList = ns from hi.numsOf).symm
  have e2 : preSum (numAt xs) xs.size = ns.sum := by rw [preSum_eq, List.take_of_length_le (by simp), e1]
  rw [e2]
  exact h h' tk t' hk
end
def rAny (K : PySem.W.Frag) : List V → Hp → VK → Prop := fun xs H Q => ∃ (p : Addr) (bs : List Bool), xs = [.ref p] ∧ SqL K H p (bs.map V.bl) ∧ Q (.bl (bs.any id)) H
def rAll (K : PySem.W.Frag) : List V → Hp → VK → Prop := fun xs H Q => ∃ (p : Addr) (bs : List Bool), xs = [.ref p] ∧ SqL K H p (bs.map V.bl) ∧ Q (.bl (bs.all id)) H
def rSum (K : PySem.W.Frag) : List V → Hp → VK → Prop := fun xs H Q => ∃ (p : Addr) (ns : List Int), xs = [.ref p] ∧ SqL K H p (ns.map V.int) ∧ Q (.int ns.sum) H
theorem call_any (hc : X.calm = true) : CallR X (.builtin "any") (rAny X.K) := by
  intro pins s σ H xs us Q I r h
  obtain ⟨p, bs, rfl, hq, q⟩ := h
  obtain ⟨u, rfl, ru⟩ := r.one
  cases ru
  obtain ⟨its, rv, pl, hz⟩ := I.list hq
  exact any_own (I.ok.hd hc) pl.isList (bools_of rv) fun h' tk hk => ⟨.bl _, H, I.kept hk, rfl, q⟩
theorem call_all (hc : X.calm = true) : CallR X (.builtin "all") (rAll X.K) := by
  intro pins s σ H xs us Q I r h
  obtain ⟨p, bs, rfl, hq, q⟩ := h
  obtain ⟨u, rfl, ru⟩ := r.one
  cases ru
  obtain ⟨its, rv, pl, hz⟩ := I.list hq
  exact all_own (I.ok.hd hc) pl.isList (bools_of rv) fun h' tk hk => ⟨.bl _, H, I.kept hk, rfl, q⟩
theorem call_sum (hc : X.calm = true) : CallR X (.builtin "sum") (rSum X.K) := by
  intro pins s σ H xs us Q I r h
  obtain ⟨p, ns, rfl, hq, q⟩ := h
  obtain ⟨u, rfl, ru⟩ := r.one
  cases ru
  obtain ⟨its, rv, pl, hz⟩ := I.list hq
  exact sum_own (I.ok.hd hc) pl.isList (intsAre_of rv) fun h' tk t' hk => ⟨.int _, H, I.kept hk, ⟨t', rfl⟩, q⟩

/-! ## range(n), list(range(n)) -/
def rRange1 : List V → Hp → VK → Prop := fun xs H Q => ∃ j : Int, xs = [.int j] ∧ ∀ p, H p = none → Q (.ref p) (upd H p (.rng 0 j))
theorem call_range1 : CallR X (.type "range") rRange1 := by
  intro pins s σ H xs us Q I r h
  obtain ⟨j, rfl, q⟩ := h
  obtain ⟨u, rfl, ru⟩ := r.one
  obtain ⟨t, rfl⟩ := ru
  refine call_range_1 ⟨.ref s.heap.objs.size, _, I.laid (o := .rng 0 j) (fun b u e => Heap.get?_push_of_some _ e) (Nat.le_refl _) ?_, rfl, q _ (I.hok.fresh (Nat.le_refl _))⟩
  exact ⟨_, _, _, Heap.get?_push_size _ rfl⟩
/-- 0, 1, .. as values -/
def upto (n : Nat) : List V := (List.range n).map fun (i : Nat) => V.int (i : Int)
theorem upto_length (n : Nat) : (upto n).length = n := by unfold upto; rw [List.length_map, List.length_range]
def rListRng : List V → Hp → VK → Prop := fun xs H Q => ∃ (p : Addr) (j : Int), xs = [.ref p] ∧ H p = some (.rng 0 j) ∧ 0 ≤ j ∧ j ≤ 1000 ∧ ∀ l, H l = none → Q (.ref l) (upd H l (.lst (upto j.toNat)))
theorem vals_items {acc : Array Value} {n : Nat} (h : ItemsOf (fun i v => ∃ t, v = Value.int (0 + i * 1) t) acc n) : Vals (upto n) acc.toList := by
  have key : ∀ (k : Nat) (l : List Value) (o : Nat), l.length = k → (∀ (i : Nat) v, l[i]? = some v → ∃ t, v = Value.int (((o + i : Nat)) : Int) t) → Vals ((List.range k).map fun (i : Nat) => V.int ((o + i : Nat) : Int)) l := by
    intro k
    induction k with
    | zero => intro l o hl _; rw [List.length_eq_zero_iff.mp hl]; exact .nil
    | succ k ih =>
      intro l o hl hi
      match l, hl with
      | v :: r, hl =>
        rw [List.range_succ_eq_map, List.map_cons, List.map_map]
        refine .cons ?_ ?_
        · obtain ⟨t, e⟩ := hi 0 v rfl
          exact ⟨t, e⟩
        · have := ih r (o + 1) (by simpa using hl) fun i u e => by
            obtain ⟨t, q⟩ := hi (i + 1) u (by simpa using e)
            exact ⟨t, by rw [q]; congr 1; omega⟩
          have e : ((List.range k).map fun (i : Nat) => V.int ((o + 1 + i : Nat) : Int)) = (List.range k).map ((fun (i : Nat) => V.int ((o + i : Nat) : Int)) ∘ Nat.succ) := by
            refine List.map_congr_left fun i _ => ?_
            show V.int _ = V.int _
            congr 1
            simp only [Nat.succ_eq_add_one]
            omega
          rw [← e]; exact this
  have := key n acc.toList 0 (by rw [Array.length_toList]; exact h.1) fun i v e => by
    obtain ⟨t, q⟩ := h.2 i v (by simpa using e)
    exact ⟨t, by rw [q]; congr 1; omega⟩
  unfold upto
  have e : ((List.range n).map fun (i : Nat) => V.int ((0 + i : Nat) : Int)) = (List.range n).map fun (i : Nat) => V.int (i : Int) := List.map_congr_left fun i _ => by rw [Nat.zero_add]
  rw [← e]; exact this
theorem call_list_rng (hc : X.calm = true) : CallR X (.type "list") rListRng := by
  intro pins s σ H xs us Q I r h
  obtain ⟨p, j, rfl, hp, j0, j1, q⟩ := h
  obtain ⟨u, rfl, ru⟩ := r.one
  cases ru
  obtain ⟨t, u, v, e⟩ := (show ObjOk X.prog X.w H s.heap p (.rng 0 j) from I.hok p _ hp)
  have hn : Builtin.Range.rangeSize 0 j 1 = (j.toNat : Int) := by rw [rangeSize_one]; split <;> omega
  refine call_list_range (n := j.toNat) (I.ok.hd hc) (show IsRange s.heap p 0 j 1 t u v from e) (small_one (by omega) (by omega) (by omega) (by omega)) hn (by omega) fun h' tk acc c hk hl ha => ?_
  have hf : H s.heap.objs.size = none := I.hok.fresh (Nat.le_refl _)
  have rv := vals_items ha
  refine ⟨.ref s.heap.objs.size, _, I.laid (o := .lst (upto j.toNat)) hk (Nat.le_refl _) ?_, rfl, q _ hf⟩
  refine ⟨by rw [upto_length]; exact Nat.le_of_lt (small1000 (by omega)), acc.toList, c, rv, ?_⟩
  rw [hl, Array.toArray_toList]

/-! ## isinstance -/
def isiB (t c : String) : Bool := t == c || (t == "bool" && c == "int")
def rIsi (K : PySem.W.Frag) : List V → Hp → VK → Prop := fun xs H Q => ∃ x t c k, xs = [x, .ty c] ∧ TyOf K H x (.type t) ∧ (c = "int" ∨ c = "bool" ∨ c = "list") ∧ isiB t c = k ∧ Q (.bl k) H
theorem call_isi : CallR X (.builtin "isinstance") (rIsi X.K) := by
  intro pins s σ H xs us Q I r h
  obtain ⟨x, t, c, k0, rfl, ty, hc, ek, q⟩ := h
  obtain ⟨u, v, rfl, ru, rv⟩ := r.two
  cases rv
  rw [← ek] at q
  have fin : ∀ {k : Bool}, isiB t c = k → EP X pins σ Q (.bool k) s := fun e => ⟨.bl _, H, I, rfl, e ▸ q⟩
  have fin' : ∀ {k : Bool} {tk : Nat}, isiB t c = k → EP X pins σ Q (.bool k) { s with toks := tk } := fun e => ⟨.bl _, H, I.tok _, rfl, e ▸ q⟩
  cases ty with
  | int i =>
    obtain ⟨tk, rfl⟩ := ru
    rcases hc with rfl | rfl | rfl
    · exact IsiPair.int_int (fin rfl)
    · exact IsiPair.int_bool (fin' rfl)
    · exact IsiPair.int_list (fin' rfl)
  | bl b =>
    cases ru
    rcases hc with rfl | rfl | rfl
    · exact IsiPair.bool_int (fin rfl)
    · exact IsiPair.bool_bool (fin rfl)
    · exact IsiPair.bool_list (fin' rfl)
  | @lst a ys e =>
    cases ru
    obtain ⟨_, _, n, _, h1⟩ := (show ObjOk X.prog X.w H s.heap a (.lst ys) from I.hok a _ e)
    rcases hc with rfl | rfl | rfl
    · exact IsiPair.list_int h1 rfl (fin' rfl)
    · exact IsiPair.list_bool h1 rfl (fin' rfl)
    · exact IsiPair.list_list h1 rfl (fin rfl)
  | @frz a o ys e =>
    cases ru
    obtain ⟨_, _, _, n, _, h1⟩ := (show ObjOk X.prog X.w H s.heap a (.frz o (.lst ys)) from I.hok a _ e)
    rcases hc with rfl | rfl | rfl
    · exact IsiPair.list_int h1 rfl (fin' rfl)
    · exact IsiPair.list_bool h1 rfl (fin' rfl)
    · exact IsiPair.list_list h1 rfl (fin rfl)
  | non =>
    cases ru
    rcases hc with rfl | rfl | rfl
    · exact IsiPair.NoneType_int (fin' rfl)
    · exact IsiPair.NoneType_bool (fin' rfl)
    · exact IsiPair.NoneType_list (fin' rfl)
  | str z =>
    obtain ⟨tk, rfl⟩ := ru
    rcases hc with rfl | rfl | rfl
    · exact IsiPair.str_int (fin' rfl)
    · exact IsiPair.str_bool (fin' rfl)
    · exact IsiPair.str_list (fin' rfl)
  | flt z =>
    obtain ⟨tk, rfl⟩ := ru
    rcases hc with rfl | rfl | rfl
    · exact IsiPair.float_int (fin' rfl)
    · exact IsiPair.float_bool (fin' rfl)
    · exact IsiPair.float_list (fin' rfl)
  | @tup a ys e =>
    cases ru
    obtain ⟨_, _, _, pp⟩ := (show ObjOk X.prog X.w H s.heap a (.tup ys) from I.hok a _ e)
    obtain ⟨o, h1, h2, _⟩ := pp
    rcases hc with rfl | rfl | rfl
    · exact IsiPair.tuple_int h1 h2 (fin' rfl)
    · exact IsiPair.tuple_bool h1 h2 (fin' rfl)
    · exact IsiPair.tuple_list h1 h2 (fin' rfl)
  | @dK a kvs e =>
    cases ru
    obtain ⟨_, _, vs, _, pp⟩ := (show ObjOk X.prog X.w H s.heap a (.dK kvs) from I.hok a _ e)
    obtain ⟨o, es, ep, h1, h2, _⟩ := pp
    rcases hc with rfl | rfl | rfl
    · exact IsiPair.dict_int h1 h2.1 (fin' rfl)
    · exact IsiPair.dict_bool h1 h2.1 (fin' rfl)
    · exact IsiPair.dict_list h1 h2.1 (fin' rfl)
  | @dT a kvs e =>
    cases ru
    obtain ⟨_, _, xs, _, o, es, ep, h1, h2, _⟩ := (show ObjOk X.prog X.w H s.heap a (.dT kvs) from I.hok a _ e)
    rcases hc with rfl | rfl | rfl
    · exact IsiPair.dict_int h1 h2.1 (fin' rfl)
    · exact IsiPair.dict_bool h1 h2.1 (fin' rfl)
    · exact IsiPair.dict_list h1 h2.1 (fin' rfl)

/-! ## lists of ints compared -/
def rNeL (K : PySem.W.Frag) : R2 := fun x y H Q => ∃ (p q : Addr) (ns ms : List Int), x = .ref p ∧ y = .ref q ∧ SqL K H p (ns.map V.int) ∧ SqL K H q (ms.map V.int) ∧ Q (.bl (!decide (ns = ms))) H
def rEqL (K : PySem.W.Frag) : R2 := fun x y H Q => ∃ (p q : Addr) (ns ms : List Int), x = .ref p ∧ y = .ref q ∧ SqL K H p (ns.map V.int) ∧ SqL K H q (ms.map V.int) ∧ Q (.bl (decide (ns = ms))) H
theorem all_same {ns ms : List Int} (h : ns.length = ms.length) : ((List.range ns.length).all fun j => ns.getD j 0 == ms.getD j 0) = decide (ns = ms) := by
  rw [Bool.eq_iff_iff, List.all_eq_true, decide_eq_true_eq]
  constructor
  · intro q
    refine List.ext_getElem h fun i h1 h2 => ?_
    have := q i (List.mem_range.mpr h1)
    simp only [List.getD_eq_getElem?_getD, List.getElem?_eq_getElem h1, List.getElem?_eq_getElem h2, Option.getD_some, beq_iff_eq] at this
    exact this
  · intro q i _
    rw [q]; simp
theorem get_int {ns : List Int} {its : List Value} (r : Vals (ns.map V.int) its) {j : Nat} (h : j < its.toArray.size) : ∃ t, its.toArray[j] = Value.int (ns.getD j 0) t := by
  have hj : j < its.length := by simpa using h
  have hn : j < ns.length := by have := r.length; rw [List.length_map] at this; omega
  obtain ⟨u, e, q⟩ := r.get (i := j) (x := .int ns[j]) (by rw [List.getElem?_map, List.getElem?_eq_getElem hn]; rfl)
  obtain ⟨t, rfl⟩ := q
  refine ⟨t, ?_⟩
  have e2 : its[j]? = some its[j] := List.getElem?_eq_getElem hj
  rw [e2] at e
  have e3 : its[j] = Value.int ns[j] t := Option.some.inj e
  simp only [List.getElem_toArray, e3, List.getD_eq_getElem?_getD, List.getElem?_eq_getElem hn, Option.getD_some]
theorem op_neL (hu : X.A.units < cLine) : OpR X (compareOp .NotEq) (rNeL X.K) := by
  intro pins s σ H x y v u Q I rx ry h
  obtain ⟨p, q, ns, ms, rfl, rfl, h1, h2, hq⟩ := h
  cases rx
  cases ry
  obtain ⟨its, r1, p1, _⟩ := I.list h1
  obtain ⟨its2, r2, p2, _⟩ := I.list h2
  have l1 := r1.length
  have l2 := r2.length
  rw [List.length_map] at l1 l2
  by_cases hl : ns.length = ms.length
  · have R := SeqAt.RcNeAt.lists (A := X.A) (s := s) (e := fun j => ns.getD j 0 == ms.getD j 0) p1.isList p2.isList (by rw [List.size_toArray, List.size_toArray, ← l1, ← l2, hl]) hu fun j a b => by
      obtain ⟨t, e⟩ := get_int r1 a
      obtain ⟨t', e'⟩ := get_int r2 b
      rw [e, e']
      exact SeqAt.EqAt.int_int _ _ _ _
    refine R X.prog X.w X.xe _ ?_
    rw [List.size_toArray, ← l1, all_same hl]
    exact ⟨.bl _, H, I, rfl, hq⟩
  · have R := SeqAt.RcNeAt.lists_lengths (A := X.A) (s := s) p1.isList p2.isList (by rw [List.size_toArray, List.size_toArray, ← l1, ← l2]; simpa using hl) hu
    refine R X.prog X.w X.xe _ ⟨.bl true, H, I, rfl, ?_⟩
    have e : decide (ns = ms) = false := decide_eq_false fun z => hl (by rw [z])
    rw [e] at hq
    exact hq
/-! ## xs[::-1] -/
def tRev (K : PySem.W.Frag) (te : TE) : TE := fun σ H Q => te σ H fun x H1 => ∃ a xs, x = .ref a ∧ SqL K H1 a xs ∧ ∀ p, H1 p = none → Q (.ref p) (upd H1 p (.lst xs.reverse))
/-! ## enumerate -/
/-- the pairs of a list's places and items -/
def Ite (K : PySem.W.Frag) (a : Addr) : It :=
  ⟨fun i H => ∃ xs x, SqL K H a xs ∧ xs[i]? = some x, fun i H y H' => ∃ p x, H p = none ∧ y = .ref p ∧ H' = upd H p (.tup [.int (i : Nat), x]) ∧ ∀ xs, SqL K H a xs → xs[i]? = some x, fun i H => ∃ xs, SqL K H a xs ∧ xs.length ≤ i⟩
def iEnum (K : PySem.W.Frag) (ta : TA) : TI := fun σ H R => ta σ H fun vs H1 => ∃ a xs, vs = [.ref a] ∧ SqL K H1 a xs ∧ R (Ite K a) H1
end
end L2

set_option Elab.async false
set_option linter.all false
set_option maxRecDepth 100000
namespace Wv
open PySem
/-! ## groups as ints, as the text reckons them -/
def hasB (g m : Int) : Bool := decide (Builtin.bitAnd (g / 2 ^ m.toNat) 1 = 1)
def withinB (s l : Int) : Bool := decide (Builtin.bitAnd s l = s)
def carrB (gs : List Int) (g : Int) : Bool := gs.any fun o => withinB o g
/-- 0, 1, .. below n -/
def up (n : Nat) : List Int := (List.range n).map fun (i : Nat) => (i : Int)
theorem mem_up {n : Nat} {x : Int} : x ∈ up n ↔ 0 ≤ x ∧ x < n := by
  unfold up
  rw [List.mem_map]
  constructor
  · rintro ⟨i, hi, rfl⟩
    have := List.mem_range.mp hi
    omega
  · rintro ⟨h0, h1⟩
    exact ⟨x.toNat, List.mem_range.mpr (by omega), by omega⟩
theorem up_length (n : Nat) : (up n).length = n := by unfold up; rw [List.length_map, List.length_range]
theorem up_get {n i : Nat} (h : i < n) : (up n)[i]? = some (i : Int) := by
  unfold up
  rw [List.getElem?_map, List.getElem?_range h]
  rfl
theorem up_succ (n : Nat) : up (n + 1) = up n ++ [(n : Int)] := by
  unfold up
  rw [List.range_succ, List.map_append]
  rfl
def tabOf (n : Nat) (gs : List Int) : List Bool := (up (2 ^ n)).map (carrB gs)
theorem tabOf_length (n : Nat) (gs : List Int) : (tabOf n gs).length = 2 ^ n := by unfold tabOf; rw [List.length_map, up_length]
def at_ (tb : List Bool) (g : Int) : Bool := tb.getD g.toNat false
theorem at_tab {n : Nat} {gs : List Int} {g : Int} (h0 : 0 ≤ g) (h1 : g < ((2 ^ n : Nat) : Int)) : at_ (tabOf n gs) g = carrB gs g := by
  unfold at_ tabOf
  have hi : g.toNat < 2 ^ n := by omega
  rw [List.getD_eq_getElem?_getD, List.getElem?_map, up_get hi]
  have e : ((g.toNat : Nat) : Int) = g := by omega
  rw [e]
  rfl
/-- members in a group, out of it -/
def ins (n : Nat) (g : Int) : List Int := (up n).filter (hasB g)
def outs (n : Nat) (g : Int) : List Int := (up n).filter fun m => !hasB g m
def leastBy (f : Int → Int → Int) (n : Nat) (tb : List Bool) : List Int := (up (2 ^ n)).filter fun g => at_ tb g && !((ins n g).map fun m => at_ tb (f g m)).any id
def greatBy (f : Int → Int → Int) (n : Nat) (tb : List Bool) : List Int := (up (2 ^ n)).filter fun g => !at_ tb g && ((outs n g).map fun m => at_ tb (f g m)).all id

theorem bits_in : ∀ g : Fin 32, ∀ m : Fin 5, hasB (g.val : Int) (m.val : Int) = true → ((g.val : Int) - 1 * 2 ^ ((m.val : Int)).toNat = Builtin.bitXor g.val (1 * 2 ^ ((m.val : Int)).toNat) ∧ 0 ≤ (g.val : Int) - 1 * 2 ^ ((m.val : Int)).toNat) := by decide +kernel
theorem pow5 : ∀ n : Fin 6, 2 ^ n.val ≤ 32 := by decide
theorem two_le {n : Nat} (h : n ≤ 5) : 2 ^ n ≤ 32 := pow5 ⟨n, by omega⟩
section
variable {n : Nat} {g m : Int}
theorem sub_ok (hn : n ≤ 5) (hg : g ∈ up (2 ^ n)) (hm : m ∈ ins n g) : g - 1 * 2 ^ m.toNat = Builtin.bitXor g (1 * 2 ^ m.toNat) ∧ 0 ≤ g - 1 * 2 ^ m.toNat ∧ g - 1 * 2 ^ m.toNat < ((2 ^ n : Nat) : Int) := by
  have h5 := two_le hn
  obtain ⟨g0, g1⟩ := mem_up.mp hg
  unfold ins at hm
  rw [List.mem_filter] at hm
  obtain ⟨m0, m1⟩ := mem_up.mp hm.1
  have e1 : ((g.toNat : Nat) : Int) = g := by omega
  have e2 : ((m.toNat : Nat) : Int) = m := by omega
  have q := bits_in ⟨g.toNat, by omega⟩ ⟨m.toNat, by omega⟩ (by simp only [e1, e2]; exact hm.2)
  simp only [e1, e2] at q
  refine ⟨q.1, q.2, ?_⟩
  have : (0 : Int) < 2 ^ m.toNat := Int.pow_pos (by decide)
  omega
end
/-! ## weights -/
def wtOf (ws : List Int) (g : Int) : Int := ((up ws.length).filter (hasB g) |>.map fun k => ws.getD k.toNat 0).sum
theorem within_self {n : Nat} (hn : n ≤ 5) {g : Int} (hg : g ∈ up (2 ^ n)) : withinB g g = true := by
  unfold withinB
  rw [PyProof.Rows.bitAnd_self]
  simp
/-- a table that grows with the groups -/
def Mono (n : Nat) (tb : List Bool) : Prop := ∀ o g, o ∈ up (2 ^ n) → g ∈ up (2 ^ n) → withinB o g = true → at_ tb o = true → at_ tb g = true
end Wv

set_option Elab.async false
set_option linter.all false
set_option maxRecDepth 100000
namespace L2
open PySem PySem.Spec PyProof.Rows
theorem same_new {H : Hp} {p : Addr} (h : H p = none) (o : HO) : Same H (upd H p o) := fun b u q => by rw [upd_ne (ne_of_none q h)]; exact q
theorem take_one_more {α : Type} {xs : List α} {i : Nat} {x : α} (h : xs[i]? = some x) : xs.take (i + 1) = xs.take i ++ [x] := by
  rw [List.take_add_one, h]; rfl
theorem set_tail {σ : St} {t : Option V} {x : V} {n : Nat} (hn : σ.length = n) : (σ ++ [t]).set n (some x) = σ ++ [some x] := by
  subst hn
  rw [List.set_append_right _ _ (Nat.le_refl _), Nat.sub_self]
  rfl
section
variable {K : PySem.W.Frag} {a : Addr} {xs : List V} {σ : St} {H1 : Hp} {n : Nat} {tc : TT} {te : TE} {Q : VK}
/-- a comprehension over a list, one name: p what is tested, f what is gathered -/
theorem lcB_list (hn : σ.length = n) (hq : SqL K H1 a xs) (hz : xs.length ≤ 1000) (p : V → Bool) (f : V → V)
    (hp : ∀ x ∈ xs, ∀ H', Same H1 H' → ∀ R : Bool → Hp → Prop, (∀ H'', Same H' H'' → R (p x) H'') → tc (σ ++ [some x]) H' R)
    (hf : ∀ x ∈ xs, p x = true → ∀ H', Same H1 H' → ∀ R : VK, (∀ H'', Same H' H'' → R (f x) H'') → te (σ ++ [some x]) H' R)
    (hQ : ∀ H' D, Same H1 H' → H' D = none → Q (.ref D) (upd H' D (.lst ((xs.filter p).map f)))) : tLcB (Itl K a) (gName n) tc te 1 σ H1 Q := by
  refine ⟨fun i m ys σ' H' => m = xs.length - i ∧ i ≤ xs.length ∧ ys = ((xs.take i).filter p).map f ∧ (∃ t, σ' = σ ++ [t]) ∧ Same H1 H', ⟨xs.length, by simp, Nat.zero_le _, by simp, ⟨none, rfl⟩, Same.refl _⟩, ?_⟩
  rintro i m ys σ' H' ⟨rfl, hi, rfl, ⟨t, rfl⟩, hs⟩
  have q' := hs.seq hq
  by_cases hlt : i < xs.length
  · refine .inr ⟨⟨xs, xs[i], q', by simp [hlt]⟩, ?_, fun x H2 y => ?_⟩
    · rw [List.length_map]
      have z1 : ((xs.take i).filter p).length ≤ (xs.take i).length := List.length_filter_le _ _
      rw [List.length_take] at z1
      exact small1000 (by omega)
    obtain ⟨e, y⟩ := y
    subst e
    have hx := y xs q'
    have hmem := List.mem_of_getElem? hx
    show tc ((σ ++ [t]).set n (some x)) _ _
    rw [set_tail hn]
    refine hp x hmem _ hs _ fun H4 h4 => ?_
    have et := take_one_more hx
    cases hb : p x with
    | true =>
      rw [if_pos rfl]
      refine hf x hmem hb _ (hs.trans h4) _ fun H5 h5 => ⟨xs.length - (i + 1), by omega, rfl, hlt, ?_, ⟨_, rfl⟩, hs.trans (h4.trans h5)⟩
      rw [et, List.filter_append, List.map_append, List.filter_cons, hb]
      rfl
    | false =>
      rw [if_neg Bool.false_ne_true]
      refine ⟨xs.length - (i + 1), by omega, rfl, hlt, ?_, ⟨_, rfl⟩, hs.trans h4⟩
      rw [et, List.filter_append, List.map_append, List.filter_cons, hb]
      exact (List.append_nil _).symm
  · have e : i = xs.length := by omega
    subst e
    refine .inl ⟨⟨xs, q', Nat.le_refl _⟩, fun D hD => ?_⟩
    rw [List.take_length]
    exact hQ _ D hs hD
/-- .. over range(k) -/
theorem lcB_range {k : Nat} (hn : σ.length = n) (hz : k ≤ 1000) (p : Int → Bool) (f : Int → V)
    (hp : ∀ x : Int, 0 ≤ x → x < k → ∀ H', Same H1 H' → ∀ R : Bool → Hp → Prop, (∀ H'', Same H' H'' → R (p x) H'') → tc (σ ++ [some (.int x)]) H' R)
    (hf : ∀ x : Int, 0 ≤ x → x < k → p x = true → ∀ H', Same H1 H' → ∀ R : VK, (∀ H'', Same H' H'' → R (f x) H'') → te (σ ++ [some (.int x)]) H' R)
    (hQ : ∀ H' D, Same H1 H' → H' D = none → Q (.ref D) (upd H' D (.lst (((Wv.up k).filter p).map f)))) : tLcB (Itr 0 k) (gName n) tc te 1 σ H1 Q := by
  refine ⟨fun i m ys σ' H' => m = k - i ∧ i ≤ k ∧ ys = ((Wv.up i).filter p).map f ∧ (∃ t, σ' = σ ++ [t]) ∧ Same H1 H', ⟨k, by simp, Nat.zero_le _, rfl, ⟨none, rfl⟩, Same.refl _⟩, ?_⟩
  rintro i m ys σ' H' ⟨rfl, hi, rfl, ⟨t, rfl⟩, hs⟩
  by_cases hlt : i < k
  · refine .inr ⟨hlt, ?_, fun x H2 y => ?_⟩
    · rw [List.length_map]
      have z1 : ((Wv.up i).filter p).length ≤ (Wv.up i).length := List.length_filter_le _ _
      rw [Wv.up_length] at z1
      exact small1000 (by omega)
    obtain ⟨e, y⟩ := y
    have y' : x = .int (i : Int) := by rw [y]; congr 1; omega
    subst e y'
    show tc ((σ ++ [t]).set n (some (.int (i : Int)))) _ _
    rw [set_tail hn]
    refine hp i (by omega) (by omega) _ hs _ fun H4 h4 => ?_
    have et := Wv.up_succ i
    cases hb : p (i : Int) with
    | true =>
      rw [if_pos rfl]
      refine hf i (by omega) (by omega) hb _ (hs.trans h4) _ fun H5 h5 => ⟨k - (i + 1), by omega, rfl, hlt, ?_, ⟨_, rfl⟩, hs.trans (h4.trans h5)⟩
      rw [et, List.filter_append, List.map_append, List.filter_cons, hb]
      rfl
    | false =>
      rw [if_neg Bool.false_ne_true]
      refine ⟨k - (i + 1), by omega, rfl, hlt, ?_, ⟨_, rfl⟩, hs.trans h4⟩
      rw [et, List.filter_append, List.map_append, List.filter_cons, hb]
      exact (List.append_nil _).symm
  · have e : i = k := by omega
    subst e
    exact .inl ⟨Nat.le_refl _, fun D hD => hQ _ D hs hD⟩
/-- places and items -/
def pairs (xs : List V) : List (Nat × V) := (List.range xs.length).zip xs
end
theorem isi_ii : isiB "int" "int" = true := by decide
theorem isi_ib : isiB "int" "bool" = false := by decide
theorem isi_ll : isiB "list" "list" = true := by decide
/-! ## promises in short -/
def sp1 (pre : Int → Prop) (f : Int → V) : Sp := fun vs H Q _ => ∃ x, vs = [.int x] ∧ pre x ∧ ∀ H', Same H H' → Q (f x) H'
def sp2 (pre : Int → Int → Prop) (f : Int → Int → V) : Sp := fun vs H Q _ => ∃ x y, vs = [.int x, .int y] ∧ pre x y ∧ ∀ H', Same H H' → Q (f x y) H'
theorem ite_t {c : Bool} {A B : Prop} (h : c = true) (x : A) : if c = true then A else B := by rw [if_pos h]; exact x
theorem ite_f {c : Bool} {A B : Prop} (h : c = false) (x : B) : if c = true then A else B := by rw [if_neg (by rw [h]; exact Bool.false_ne_true)]; exact x
theorem ite_b {c : Bool} {A B : Prop} (h1 : c = true → A) (h2 : c = false → B) : if c = true then A else B := by
  cases c with
  | true => exact ite_t rfl (h1 rfl)
  | false => exact ite_f rfl (h2 rfl)
end L2

set_option Elab.async false
set_option linter.all false
set_option maxRecDepth 100000
namespace L2
open PySem PySem.Spec PyProof.Rows
theorem same_upd {H H' : Hp} {p : Addr} {o : HO} (h : Same H H') (n : H p = none) : Same H (upd H' p o) := fun b u q => by rw [upd_ne (ne_of_none q n)]; exact h b u q
section
variable {K : PySem.W.Frag} {σ : St} {H1 : Hp} {n : Nat} {tc : TT} {te : TE} {Q : VK}
/-- a comprehension over range(k) without a test, whose items are ints of which P is known -/
theorem lcB_rangeP {k : Nat} (hn : σ.length = n) (hz : k ≤ 1000) (P : Int → Prop)
    (hf : ∀ x : Int, 0 ≤ x → x < k → ∀ H', Same H1 H' → ∀ R : VK, (∀ v H'', P v → Same H' H'' → R (.int v) H'') → te (σ ++ [some (.int x)]) H' R)
    (hQ : ∀ (ws : List Int) H' D, ws.length = k → (∀ v ∈ ws, P v) → Same H1 H' → H' D = none → Q (.ref D) (upd H' D (.lst (ws.map V.int)))) : tLcB (Itr 0 k) (gName n) tTT te 1 σ H1 Q := by
  refine ⟨fun i m ys σ' H' => m = k - i ∧ i ≤ k ∧ (∃ ws : List Int, ws.length = i ∧ (∀ v ∈ ws, P v) ∧ ys = ws.map V.int) ∧ (∃ t, σ' = σ ++ [t]) ∧ Same H1 H', ⟨k, by simp, Nat.zero_le _, ⟨[], rfl, (fun v hv => by cases hv), rfl⟩, ⟨none, rfl⟩, Same.refl _⟩, ?_⟩
  rintro i m ys σ' H' ⟨rfl, hi, ⟨ws, wl, wp, rfl⟩, ⟨t, rfl⟩, hs⟩
  by_cases hlt : i < k
  · refine .inr ⟨hlt, ?_, fun x H2 y => ?_⟩
    · rw [List.length_map, wl]
      exact small1000 (by omega)
    obtain ⟨e, y⟩ := y
    have y' : x = .int (i : Int) := by rw [y]; congr 1; omega
    subst e y'
    dsimp only [gName, tTT]
    rw [if_pos rfl, set_tail hn]
    refine hf i (by omega) (by omega) _ hs _ fun v H5 pv h5 => ⟨k - (i + 1), by omega, rfl, hlt, ⟨ws ++ [v], by rw [List.length_append, wl]; rfl, fun u hu => ?_, ?_⟩, ⟨_, rfl⟩, hs.trans h5⟩
    · rcases List.mem_append.mp hu with z | z
      · exact wp u z
      · have z' : u = v := by simpa using z
        rw [z']; exact pv
    · rw [List.map_append]; rfl
  · have e : i = k := by omega
    subst e
    exact .inl ⟨Nat.le_refl _, fun D hD => hQ ws _ D wl wp hs hD⟩
end
end L2

set_option Elab.async false
set_option linter.all false
set_option maxRecDepth 100000
namespace L2
open PySem PySem.Spec PyProof.Rows
theorem qbl {Q : VK} {H : Hp} {b b' : Bool} (h : b = b') (q : Q (.bl b) H) : Q (.bl b') H := h ▸ q
/-! ## the same rules with the written part K named (a block's context bears it under its own name) -/
section
variable {X : Cx}
theorem ix_listK (K : PySem.W.Frag) (h : X.K = K := by rfl) : IxR X (rIxL K) := by subst h; exact ix_list
theorem ix_tupK (K : PySem.W.Frag) (h : X.K = K := by rfl) : IxR X (rIxT K) := by subst h; exact ix_tup
theorem call_anyK (K : PySem.W.Frag) (hc : X.calm = true) (h : X.K = K := by rfl) : CallR X (.builtin "any") (rAny K) := by subst h; exact call_any hc
theorem call_allK (K : PySem.W.Frag) (hc : X.calm = true) (h : X.K = K := by rfl) : CallR X (.builtin "all") (rAll K) := by subst h; exact call_all hc
theorem call_sumK (K : PySem.W.Frag) (hc : X.calm = true) (h : X.K = K := by rfl) : CallR X (.builtin "sum") (rSum K) := by subst h; exact call_sum hc
theorem call_isiK (K : PySem.W.Frag) (h : X.K = K := by rfl) : CallR X (.builtin "isinstance") (rIsi K) := by subst h; exact call_isi
def rLen (K : PySem.W.Frag) : List V → Hp → VK → Prop := fun xs H Q => ∃ p ys, xs = [.ref p] ∧ (SqL K H p ys ∨ SqT K H p ys) ∧ Q (.int ys.length) H
theorem call_lenK (K : PySem.W.Frag) (h : X.K = K := by rfl) : CallR X (.builtin "len") (rLen K) := by subst h; exact call_len_seq
def rListOf (K : PySem.W.Frag) : List V → Hp → VK → Prop := fun xs H Q => ∃ p ys, xs = [.ref p] ∧ (SqL K H p ys ∨ SqT K H p ys) ∧ ∀ l, H l = none → Q (.ref l) (upd H l (.lst ys))
def rTupOf (K : PySem.W.Frag) : List V → Hp → VK → Prop := fun xs H Q => ∃ p ys, xs = [.ref p] ∧ ((SqL K H p ys ∧ ∀ l, H l = none → Q (.ref l) (upd H l (.tup ys))) ∨ (SqT K H p ys ∧ Q (.ref p) H))
theorem call_tuple_ofK (K : PySem.W.Frag) (h : X.K = K := by rfl) : CallR X (.type "tuple") (rTupOf K) := by subst h; exact call_tuple_of
theorem op_neLK (K : PySem.W.Frag) (hu : X.A.units < cLine) (h : X.K = K := by rfl) : OpR X (compareOp .NotEq) (rNeL K) := by subst h; exact op_neL hu
theorem sl_listK (K : PySem.W.Frag) (h : X.K = K := by rfl) : SlR X (rSlL K) := by subst h; exact sl_list
theorem pe_fldK (K : PySem.W.Frag) {e : Expr} {ta : TE} {f : Str} {pos : Pos} (he : PE X e ta) (hb : attributeBase e f X.env (eval e X.env) = eval e X.env) (h : X.K = K := by rfl) : PE X (.Attribute e f pos) (tFld K ta f) := by subst h; exact pe_fld he hb
theorem pi_listK (K : PySem.W.Frag) {tg l : Expr} {tl : TE} (hl : PE X l tl) (h : X.K = K := by rfl) : PI X tg l (iList K tl) := by subst h; exact pi_list hl
end
end L2

set_option Elab.async false
set_option linter.all false
set_option maxRecDepth 100000
namespace L2
open PySem PySem.Spec PyProof.Rows
/-! ## an exception in flight -/
/-- the exception at e, its newest entry at T, fl the entry's mark; nothing hangs behind it -/
def Fly (h : Heap) (e T : Addr) (cls fl : Value) : Prop :=
  ∃ oe vs oT ts, h.get? e = some oe ∧ oe.cls = cls ∧ oe.data = .fields vs ∧ vs[1]? = some (.ref T) ∧ vs[2]? = some .none ∧ T ≠ e ∧ h.get? T = some oT ∧ oT.data = .fields ts ∧ ts[3]? = some fl
/-- what stays: all but the records at ex and the slots of the frames at fs -/
structure KeptX (fs ex : List Addr) (h h' : Heap) : Prop where
  keep : ∀ b o, b ∉ fs → b ∉ ex → h.get? b = some o → h'.get? b = some o
  slot : ∀ b o, b ∈ fs → b ∉ ex → h.get? b = some o → ∃ sl, h'.get? b = some { o with slots := sl }
theorem KeptX.any {fs ex : List Addr} {h h' : Heap} (k : KeptX fs ex h h') {b : Addr} {o : Obj} (hx : b ∉ ex) (e : h.get? b = some o) : ∃ sl, h'.get? b = some { o with slots := sl } := by
  by_cases hb : b ∈ fs
  · exact k.slot b o hb hx e
  · exact ⟨o.slots, k.keep b o hb hx e⟩
/-- frames are no records -/
theorem frame_no {h base : Heap} {l : List Env} (hl : h.FunFrames base l) {b : Addr} {o : Obj} {vs : Array Value} (e : h.get? b = some o) (d : o.data = .fields vs) : b ∉ frs l := fun hm => by
  obtain ⟨_, o', ho, hn⟩ := hl.mem hm
  rw [e] at ho; cases ho
  exact hn vs d
section
variable {M : Model} {A : Around} {E : Value → Shared → Prop} {s : Shared}
theorem entry_own {base : Heap} {env : Env} {outer : List Env} {L e : Addr} {oe : Obj} {vs : Array Value} {head : Value} {hadNext : Bool} {Q : Unit → Shared → Prop}
    (hfr : A.frames = some (env :: outer)) (hl : s.heap.FunFrames base (env :: outer)) (hf : env.frame = some L) (he : s.heap.get? e = some oe) (hd : oe.data = .fields vs) (hsz : 1 < vs.size) (h2 : vs[2]? = some .none)
    (h : ∀ h' T, s.heap.get? T = none → Fly h' e T oe.cls (rawInt L) → KeptX (frs (env :: outer)) [e] s.heap h' → Q () { s with heap := h' }) :
    wpAny M A (do let a ← frameOf env; let pl ← entryPlaceOf L hadNext; let b ← EntryCells.newEntry head a .none (rawInt L) .none pl; setField (.ref e) 1 b) Q E s := by
  have hene := frame_no hl he hd
  refine wpAny_bind (wpAny_frameOf_fun hfr hl hf fun h₁ hs₁ => wpAny_bind (wpAny_entryPlaceOf fun pl hpl => ?_))
  unfold EntryCells.newEntry newFields
  refine wpAny_bind (wpAny_newObj_type ?_ (hpl.sizeOk5 _ _ _ _ _))
  have he₁ : h₁.get? e = some oe := (hs₁.2.1 e hene).trans he
  generalize ho : ({ cls := .type "traceback", dict := none, data := .fields ([head, .ref L, .none, rawInt L, .none] ++ (if pl.isEmpty then List.replicate 6 Value.none else pl)).toArray } : Obj) = oT
  have he₂ := Heap.get?_push_of_some (h := h₁) oT he₁
  have hTe : h₁.objs.size ≠ e := Nat.ne_of_gt (Heap.lt_size he₁)
  have hfree : oT.isFreed = false := by rw [← ho]; rfl
  refine wpAny_setField he₂ hd hsz (h _ h₁.objs.size ?_ ?_ ?_)
  · cases q : s.heap.get? h₁.objs.size with
    | none => rfl
    | some o' =>
      obtain ⟨sl, q'⟩ := hs₁.2.2 _ _ q
      exact absurd (Heap.lt_size q') (Nat.lt_irrefl _)
  · have hd₃ := Obj.data_mapFields hd (·.setIfInBounds 1 (Value.ref h₁.objs.size))
    refine ⟨_, _, oT, _, Heap.get?_update_self _ he₂ (Obj.isFreed_of_fields hd₃), Obj.cls_mapFields _ _, hd₃, by simp [hsz], by rw [Array.getElem?_setIfInBounds_ne (by decide)]; exact h2, hTe, ?_, by rw [← ho], by simp⟩
    rw [Heap.get?_update_other _ _ (Ne.symm hTe)]
    exact Heap.get?_push_size h₁ hfree
  · have keep : ∀ b o, b ≠ e → h₁.get? b = some o → ((h₁.push oT).update e (Obj.mapFields (·.setIfInBounds 1 (Value.ref h₁.objs.size)))).get? b = some o := fun b o hb q => by
      rw [Heap.get?_update_other _ _ (Ne.symm hb)]
      exact Heap.get?_push_of_some _ q
    refine ⟨fun b o hb hx q => keep b o (fun z => hx (by simp [z])) ((hs₁.2.1 b hb).trans q), fun b o hb hx q => ?_⟩
    obtain ⟨sl, q'⟩ := hs₁.2.2 b o q
    exact ⟨sl, keep b _ (fun z => hx (by simp [z])) q'⟩
/-- the entry's mark is taken away -/
theorem flight_own {e T : Addr} {cls fl : Value} {Q : Unit → Shared → Prop} (f : Fly s.heap e T cls fl) (h : ∀ h', Fly h' e T cls .none → (∀ b o, b ≠ T → s.heap.get? b = some o → h'.get? b = some o) → Q () { s with heap := h' }) :
    wpAny M A (setFlight (.ref e) none) Q E s := by
  obtain ⟨oe, vs, oT, ts, he, hc, hd, h1, h2, hne, hT, hdT, h3⟩ := f
  unfold setFlight
  refine wpAny_bind (wpAny_field he hd h1 ?_)
  rw [if_pos (show (Value.ref T != Value.none) = true from by simp)]
  have hz : 3 < ts.size := (Array.getElem?_eq_some_iff.mp h3).1
  refine wpAny_setField hT hdT hz (h _ ?_ fun b o hb q => (Heap.get?_update_other _ _ (Ne.symm hb)).trans q)
  have hd₃ := Obj.data_mapFields hdT (·.setIfInBounds 3 ((none : Option Addr).elim Value.none fun f => rawInt f))
  refine ⟨oe, vs, _, _, (Heap.get?_update_other _ _ hne).trans he, hc, hd, h1, h2, hne, Heap.get?_update_self _ hT (Obj.isFreed_of_fields hd₃), hd₃, by simp [hz]⟩
/-- noteFrame at a further frame -/
theorem note_own {base : Heap} {env : Env} {outer : List Env} {L e T : Addr} {cls : Value} {Q : Unit → Shared → Prop} (hfr : A.frames = some (env :: outer)) (hl : s.heap.FunFrames base (env :: outer)) (hf : env.frame = some L) (f : Fly s.heap e T cls .none)
    (h : ∀ h' T', s.heap.get? T' = none → Fly h' e T' cls (rawInt L) → KeptX (frs (env :: outer)) [e, T] s.heap h' → Q () { s with heap := h' }) : wpAny M A (noteFrame (.ref e) env) Q E s := by
  obtain ⟨oe, vs, oT, ts, he, hc, hd, h1, h2, hne, hT, hdT, h3⟩ := f
  unfold noteFrame
  simp only [hf]
  refine wpAny_bind (wpAny_field he hd h1 ?_)
  rw [if_pos (show (Value.ref T != Value.none) = true from by simp)]
  refine wpAny_bind (wpAny_field hT hdT h3 ?_)
  rw [if_neg (show ¬ ((Value.none == rawInt L) = true) from by simp [rawInt])]
  refine wpAny_bind (wpAny_setField hT hdT (Array.getElem?_eq_some_iff.mp h3).1 ?_)
  have other : ∀ b, b ≠ T → (s.heap.update T (Obj.mapFields (·.setIfInBounds 3 Value.none))).get? b = s.heap.get? b := fun b hb => Heap.get?_update_other _ _ (Ne.symm hb)
  have hTf := frame_no hl hT hdT
  have hl2 : (s.heap.update T (Obj.mapFields (·.setIfInBounds 3 Value.none))).FunFrames base (env :: outer) := hl.of_keeps fun b o hb hnf => ⟨o, (other b fun q => by rw [q, hT] at hb; cases hb; exact hnf ts hdT).trans hb, rfl⟩
  subst hc
  refine entry_own (s := { s with heap := s.heap.update T (Obj.mapFields (·.setIfInBounds 3 Value.none)) }) hfr hl2 hf ((other e (Ne.symm hne)).trans he) hd (Array.getElem?_eq_some_iff.mp h1).1 h2 fun h' T' hn' f' k' => h h' T' ?_ f' ?_
  · cases q : s.heap.get? T' with
    | none => rfl
    | some o' =>
      by_cases z : T' = T
      · subst z
        have hd₃ := Obj.data_mapFields hdT (·.setIfInBounds 3 Value.none)
        have := Heap.get?_update_self (Obj.mapFields (·.setIfInBounds 3 Value.none)) hT (Obj.isFreed_of_fields hd₃)
        have hn2 : (s.heap.update T' (Obj.mapFields (·.setIfInBounds 3 Value.none))).get? T' = none := hn'
        rw [hn2] at this; cases this
      · have hn2 : (s.heap.update T (Obj.mapFields (·.setIfInBounds 3 Value.none))).get? T' = none := hn'
        rw [other T' z, q] at hn2; cases hn2
  · refine ⟨fun b o hb hx q => k'.keep b o hb (fun z => hx (by simp at z; simp [z])) ((other b fun z => hx (by simp [z])).trans q), fun b o hb hx q => k'.slot b o hb (fun z => hx (by simp at z; simp [z])) ((other b fun z => hx (by simp [z])).trans q)⟩
/-- an exception just made leaves its frame -/
theorem leave_first {base h0 : Heap} {env : Env} {outer : List Env} {L e : Addr} {cls : Value} {args : List Value} {Q : Unit → Shared → Prop} (hfr : A.frames = some (env :: outer)) (hl : s.heap.FunFrames base (env :: outer)) (hf : env.frame = some L)
    (hx : Heap.MadeExcOf h0 s.heap e cls args) (h : ∀ h' T, s.heap.get? T = none → Fly h' e T cls .none → KeptX (frs (env :: outer)) [e] s.heap h' → Q () { s with heap := h' }) : wpAny M A (leaving env (.ref e)) Q E s := by
  obtain ⟨t, he, _, _⟩ := hx.there
  unfold leaving noteFrame
  simp only [hf]
  refine wpAny_bind (wpAny_bind (wpAny_field he rfl (x := .none) rfl ?_))
  rw [if_neg (by decide)]
  refine entry_own hfr hl hf he rfl (show 1 < 6 by decide) rfl fun h' T hn f k => ?_
  refine flight_own (s := { s with heap := h' }) f fun h2 f2 k2 => h h2 T hn f2 ?_
  exact ⟨fun b o hb hx' q => k2 b o (fun z => by rw [z, hn] at q; cases q) (k.keep b o hb hx' q), fun b o hb hx' q => by
    obtain ⟨sl, q'⟩ := k.slot b o hb hx' q
    exact ⟨sl, k2 b _ (fun z => by rw [z, hn] at q; cases q) q'⟩⟩
/-- .. and each further one -/
theorem leave_next {base : Heap} {env : Env} {outer : List Env} {L e T : Addr} {cls : Value} {Q : Unit → Shared → Prop} (hfr : A.frames = some (env :: outer)) (hl : s.heap.FunFrames base (env :: outer)) (hf : env.frame = some L) (f : Fly s.heap e T cls .none)
    (h : ∀ h' T', s.heap.get? T' = none → Fly h' e T' cls .none → KeptX (frs (env :: outer)) [e, T] s.heap h' → Q () { s with heap := h' }) : wpAny M A (leaving env (.ref e)) Q E s := by
  unfold leaving
  refine wpAny_bind (note_own hfr hl hf f fun h' T' hn f' k => ?_)
  refine flight_own (s := { s with heap := h' }) f' fun h2 f2 k2 => h h2 T' hn f2 ?_
  exact ⟨fun b o hb hx' q => k2 b o (fun z => by rw [z, hn] at q; cases q) (k.keep b o hb hx' q), fun b o hb hx' q => by
    obtain ⟨sl, q'⟩ := k.slot b o hb hx' q
    exact ⟨sl, k2 b _ (fun z => by rw [z, hn] at q; cases q) q'⟩⟩
end
end L2

set_option Elab.async false
set_option linter.all false
set_option maxRecDepth 100000
namespace L2
open PySem PySem.Spec PyProof.Rows
/-! ## an exception behind a call, by the layer's own heap -/
theorem ObjOk.some_at {P : Program} {w : World} {H : Hp} {h : Heap} {a : Addr} {o : HO} (x : ObjOk P w H h a o) : ∃ u, h.get? a = some u := by
  cases o with
  | lst xs => obtain ⟨_, _, _, _, e⟩ := x; exact ⟨_, e⟩
  | tup xs => obtain ⟨_, _, _, u, e, _⟩ := x; exact ⟨u, e⟩
  | dK kvs => obtain ⟨_, _, _, _, u, _, _, e, _⟩ := x; exact ⟨u, e⟩
  | dT kvs => obtain ⟨_, _, _, _, u, _, _, e, _⟩ := x; exact ⟨u, e⟩
  | set S n => obtain ⟨u, _, _, _, e, _⟩ := x; exact ⟨u, e⟩
  | ins C dx fs => obtain ⟨_, _, _, e, _⟩ := x; exact ⟨_, e⟩
  | own y => exact x
  | xd fs => obtain ⟨_, ⟨u, _, _, e, _⟩, _⟩ := x; exact ⟨u, e⟩
  | rng lo hi => obtain ⟨_, _, _, e⟩ := x; exact ⟨_, e⟩
  | frz ob u => obtain ⟨e, _⟩ := x; exact ⟨_, e⟩
  | tbl ps => exact ⟨_, (show h.get? a = some _ from x)⟩
  | met f y => exact ⟨_, (show h.get? a = some _ from x)⟩
  | ext φ => obtain ⟨_, e, _⟩ := x; exact e
theorem HOk.none_of {P : Program} {w : World} {H : Hp} {h : Heap} {a : Addr} (x : HOk P w H h) (n : h.get? a = none) : H a = none := by
  cases q : H a with
  | none => rfl
  | some o =>
    obtain ⟨u, e⟩ := (x a o q).some_at
    rw [n] at e; cases e
def CXe (P : Program) (w : World) : CXT := fun outer H s E e s' => ∃ (ea T : Addr) (cls : Value) (H' : Hp), e = .ref ea ∧ s'.os = s.os ∧ AllBare s'.gens ∧ Fly s'.heap ea T cls .none ∧ H' ea = none ∧ H' T = none ∧
  s.heap.get? ea = none ∧ s.heap.get? T = none ∧ Un (frs outer) [] H H' s.heap s'.heap ∧ HOk P w H' s'.heap ∧ E cls none H'
theorem frames_of {base h h' : Heap} : ∀ {l : List Env}, (∀ b ∈ frs l, ∀ o, h.get? b = some o → ∃ sl, h'.get? b = some { o with slots := sl }) → h.FunFrames base l → h'.FunFrames base l
  | [], _, _ => trivial
  | env :: r, k, hl => by
    obtain ⟨hk, ⟨L, o, hf, hn, ho, hd⟩, hr⟩ := hl
    obtain ⟨sl, e⟩ := k L (by unfold frs; rw [List.filterMap_cons, hf]; exact List.mem_cons_self) o ho
    exact ⟨hk, ⟨L, _, hf, hn, e, hd⟩, frames_of (fun b hb => k b (by unfold frs; rw [List.filterMap_cons, hf]; exact List.mem_cons_of_mem _ hb)) hr⟩
/-- a step of an exception's flight, for what is kept -/
theorem un_kept {P : Program} {w : World} {fs fs' ex : List Addr} {H H' : Hp} {h h1 h2 : Heap} (u : Un fs [] H H' h h1) (ok : HOk P w H' h1) (k : KeptX fs' ex h1 h2) (hx : ∀ b ∈ ex, H' b = none ∧ h.get? b = none) (hf : ∀ b ∈ fs', H' b = none)
    (sub : ∀ b ∈ fs', b ∈ fs ∨ h.get? b = none) : Un fs [] H H' h h2 ∧ HOk P w H' h2 := by
  have nx : ∀ b o, h.get? b = some o → b ∉ ex := fun b o e z => by rw [(hx b z).2] at e; cases e
  refine ⟨⟨fun b o e n hb _ => ?_, fun b o e n hb _ => ?_, u.free, fun b o e _ => ?_, u.tups, u.frzs, u.tbls⟩, fun a o e => ?_⟩
  · refine k.keep b o (fun z => ?_) (nx b o e) (u.keep b o e n hb (by simp))
    rcases sub b z with q | q
    · exact hb q
    · rw [q] at e; cases e
  · obtain ⟨sl, e1⟩ := u.slot b o e n hb (by simp)
    obtain ⟨sl', e2⟩ := k.any (nx b o e) e1
    exact ⟨sl', e2⟩
  · obtain ⟨o', e1⟩ := u.there b o e (by simp)
    obtain ⟨sl, e2⟩ := k.any (nx b o e) e1
    exact ⟨_, e2⟩
  · refine (ok a o e).stay (fun b v hb q => k.keep b v (fun z => ?_) (fun z => ?_) q) (fun _ q => q) fun _ _ q => q
    · rcases hb with rfl | hb
      · rw [hf _ z] at e; cases e
      · rw [hf _ z] at hb; cases hb
    · rcases hb with rfl | hb
      · rw [(hx _ z).1] at e; cases e
      · rw [(hx _ z).1] at hb; cases hb
section
variable {P : Program} {w : World} {K : PySem.W.Frag} {mg : Str → Option Value} {base : Heap} {N : List Str} {qual : Str} {scope : Scope} {f : Addr} {cd : Value} {A : Around} {outer : List Env} {s0 : Shared} {H0 : Hp} {E : XK}
/-- a raise in a def's body -/
theorem raise_leaves {pins : List (Addr × Obj)} {σ : St} {H : Hp} {s : Shared} {h' : Heap} {e : Addr} {cls : Value} {vs : List Value} (I : Inv (cxOf (CXe P w) P w K mg base N qual scope f cd A outer s0 H0 E) pins σ H s)
    (hx : Heap.MadeExcOf s.heap h' e cls vs) (hE : E cls none H) : (cxOf (CXe P w) P w K mg base N qual scope f cd A outer s0 H0 E).xe (.ref e) { s with heap := h' } := by
  have hl : h'.FunFrames base (envOfC qual scope s0.heap.objs.size f cd :: outer) := frames_of (fun b _ o q => ⟨o.slots, hx.keeps b o q⟩) I.stack
  have old : ∀ b o, s0.heap.get? b = some o → ∃ o', s.heap.get? b = some o' := fun b o q => I.base.there b o q (show b ∉ ([] : List Addr) by simp)
  have fresh : ∀ b, s.heap.get? b = none → s0.heap.get? b = none := fun b q => by
    cases z : s0.heap.get? b with
    | none => rfl
    | some o => obtain ⟨o', z'⟩ := old b o z; rw [q] at z'; cases z'
  refine leave_first (s := { s with heap := h' }) (base := base) I.ok.frames hl rfl hx fun h2 T hn fl k => ?_
  have hsT : s.heap.get? T = none := by
    cases z : s.heap.get? T with
    | none => rfl
    | some o =>
      have z2 := hx.keeps T o z
      have hn' : h'.get? T = none := hn
      rw [hn'] at z2; cases z2
  have nE : H e = none := I.hok.none_of hx.new
  have u1 : Un (frs outer) [] H0 H s0.heap h' := by
    have b := I.base
    exact ⟨fun b' o q n hb hz => hx.keeps _ _ (I.base.keep b' o q n hb hz), fun b' o q n hb hz => let ⟨sl, z⟩ := I.base.slot b' o q n hb hz; ⟨sl, hx.keeps _ _ z⟩, I.base.free, fun b' o q hz => let ⟨o', z⟩ := I.base.there b' o q hz; ⟨o', hx.keeps _ _ z⟩, I.base.tups, I.base.frzs, I.base.tbls⟩
  have ok1 : HOk P w H h' := I.hok.kept hx.keeps
  have z := un_kept u1 ok1 k (fun b hb => by
    have e' : b = e := by simpa using hb
    rw [e']; exact ⟨nE, fresh e hx.new⟩) (fun b hb => I.stkFree b hb) (fun b hb => by
    have hb' : b = s0.heap.objs.size ∨ b ∈ frs outer := by
      have := I.stkSub b hb
      exact List.mem_cons.mp this
    rcases hb' with q | q
    · exact .inr (by rw [q]; exact Heap.get?_none_of_le (Nat.le_refl _))
    · exact .inl q)
  exact ⟨e, T, cls, H, rfl, I.os, I.bare, fl, nE, I.hok.none_of hsT, fresh e hx.new, fresh T hsT, z.1, z.2, hE⟩
/-- an exception of a callee goes on to the caller's callers -/
theorem passes_on : Passes (CXe P w) (cxOf (CXe P w) P w K mg base N qual scope f cd A outer s0 H0 E) E := by
  intro pins σ H s e s' I h
  obtain ⟨ea, T, cls, H', rfl, os, bare, fl, n1, n2, m1, m2, un, hok, hE⟩ := h
  have un' : Un (frs (envOfC qual scope s0.heap.objs.size f cd :: outer)) [] H H' s.heap s'.heap := un
  have hl : s'.heap.FunFrames base (envOfC qual scope s0.heap.objs.size f cd :: outer) := frames_of (fun b hb o q => un'.slot b o q (I.stkFree b hb) hb (by simp)) I.stack
  have old : ∀ b o, s0.heap.get? b = some o → ∃ o', s.heap.get? b = some o' := fun b o q => I.base.there b o q (show b ∉ ([] : List Addr) by simp)
  have fresh : ∀ b, s.heap.get? b = none → s0.heap.get? b = none := fun b q => by
    cases z : s0.heap.get? b with
    | none => rfl
    | some o => obtain ⟨o', z'⟩ := old b o z; rw [q] at z'; cases z'
  have sub : ∀ b ∈ frs (envOfC qual scope s0.heap.objs.size f cd :: outer), b ∈ frs outer ∨ s0.heap.get? b = none := fun b hb => by
    rcases List.mem_cons.mp (show b ∈ s0.heap.objs.size :: frs outer from I.stkSub b hb) with q | q
    · exact .inr (by rw [q]; exact Heap.get?_none_of_le (Nat.le_refl _))
    · exact .inl q
  have frH : ∀ b ∈ frs (envOfC qual scope s0.heap.objs.size f cd :: outer), H' b = none := fun b hb => by
    obtain ⟨_, o, q, _⟩ := I.stack.mem hb
    exact un'.free b o q (I.stkFree b hb) (by simp)
  have u1 : Un (frs outer) [] H0 H' s0.heap s'.heap := by
    have nl : ∀ b o, s0.heap.get? b = some o → b ∉ frs outer → b ∉ frs (envOfC qual scope s0.heap.objs.size f cd :: outer) := fun b o q hb z => by
      rcases sub b z with y | y
      · exact hb y
      · rw [y] at q; cases q
    refine ⟨fun b o q n hb hz => un'.keep b o (I.base.keep b o q n hb hz) (I.base.free b o q n hz) (nl b o q hb) hz, fun b o q n hb hz => ?_, fun b o q n hz => ?_, fun b o q hz => ?_, fun b xs q => un'.tups b xs (I.base.tups b xs q), fun b o u q => un'.frzs b o u (I.base.frzs b o u q), fun b ps q => ?_⟩
    · obtain ⟨sl, z⟩ := I.base.slot b o q n hb hz
      obtain ⟨sl', z'⟩ := un'.any z (I.base.free b o q n hz) hz
      exact ⟨sl', z'⟩
    · obtain ⟨o', z⟩ := I.base.there b o q hz
      exact un'.free b o' z (I.base.free b o q n hz) hz
    · obtain ⟨o', z⟩ := I.base.there b o q hz
      exact un'.there b o' z hz
    · obtain ⟨m1', z1⟩ := I.base.tbls b ps q
      obtain ⟨m2', z2⟩ := un'.tbls b _ z1
      exact ⟨m1' ++ m2', by rw [z2, Array.append_assoc]⟩
  refine leave_next (base := base) I.ok.frames hl rfl fl fun h2 T' hn fl' k => ?_
  have z := un_kept u1 hok k (fun b hb => by
    rcases List.mem_cons.mp hb with q | q
    · rw [q]; exact ⟨n1, fresh ea m1⟩
    · have q' : b = T := by simpa using q
      rw [q']; exact ⟨n2, fresh T m2⟩) frH sub
  have nT' : s0.heap.get? T' = none := by
    cases y : s0.heap.get? T' with
    | none => rfl
    | some o =>
      obtain ⟨o', y'⟩ := u1.there T' o y (by simp)
      rw [hn] at y'; cases y'
  exact ⟨ea, T', cls, H', rfl, os.trans I.os, bare, fl', n1, hok.none_of hn, fresh ea m1, nT', z.1, z.2, hE⟩
/-- THE RULE for a def that may raise -/
theorem Fun.okX {x qual : Str} {st : Stmt} {f : Addr} {fd : FuncData} {N ps : List Str} {k : Nat} {sp : Sp} (F : Fun K x qual st f fd) (S : FnScope N ps (defScope st)) (len : ∀ vs H Q E, sp vs H Q E → vs.length = ps.length)
    (hbody : ∀ (cdv : Value) (A : Around) (outer : List Env) (s : Shared) (H : Hp) (vs : List V) (Q : VK) (E : XK), Room k (A.deeper (envOfC qual (defScope st) s.heap.objs.size f cdv)) → sp vs H Q E →
      ∃ t, PSs (cxOf (CXe P w) P w K mg base N qual (defScope st) f cdv A outer s H E) (defBody st) t ∧ t { nx := fun _ H' => Q .non H', rt := Q } (start N vs) H) : FnOk P w K mg base (CXe P w) (k + 1) f fd ps sp := by
  obtain ⟨oc, od, kV, doc, pm, an, cdv, ct, osl, rfl, lk, hcd⟩ := F.ex
  exact fn_of lk hcd S len fun A outer s H vs Q E hr hsp => hbody cdv A outer s H vs Q E hr hsp
end
/-! ## raise X('..') of an own class under ValueError -/
abbrev bmV : List Value := [.type "ValueError", .type "Exception", .type "BaseException", .type "object"]
section
open PySem.W
theorem own_here {K : Frag} {h : Heap} {mg : Str → Option Value} {x : Str} {C : Addr} {bmB : List Value} {newId : String} (X : K.In h) (b : mg x = some (.ref C)) (q : excIn K C bmB newId = true) : OwnCls x C bmB newId mg h := by
  refine ⟨b, ?_⟩
  unfold excIn at q
  split at q
  · rename_i e1 e2 e3 lk
    split at q
    · rename_i C2 tl j0 j1 j2 j3 nn j5 em es
      simp only [Bool.and_eq_true, beq_iff_eq, Bool.not_eq_true'] at q
      obtain ⟨⟨⟨⟨⟨rfl, rfl⟩, g1⟩, g2⟩, g3⟩, g4⟩ := q
      obtain ⟨y1, y2, y3, y4, y5, y6, y7, y8, y9, y10, y11⟩ := e2
      dsimp only at em g1 g3 g4
      subst em g1
      have z : e3 = #[j0, j1, j2, j3, some (.builtin nn), j5] := by
        obtain ⟨l⟩ := e3
        simp only at es
        rw [es]
      subst z
      exact ⟨_, _, _, _, _, _, _, _, _, _, _, _, _, _, _, _, _, X _ _ lk, .of_isNs (isNs_of_in X g3), nsMap_none_of_in X g3 g4, tail_of_in X g2⟩
    · cases q
  · cases q
end
section
variable {X : Cx}
def tRaise (EX : Hp → Prop) (ta : TA) : TS := fun _ σ H => ta σ H fun vs H1 => vs.length ≤ sizeLine ∧ EX H1
theorem ps_raise {x : Str} {C : Addr} {np cpos pos : Pos} {e : Expr} {ta : TA} {EX : Hp → Prop} (hc : X.calm = true) (hg : Gl X x) (hm : X.mg x = some (.ref C)) (q : PySem.W.excIn X.K C bmV "ValueError.__new__" = true) (ha : PA X [e] ta)
    (hx : ∀ pins σ H s h' ea vs, Inv X pins σ H s → Heap.MadeExcOf s.heap h' ea (.ref C) vs → EX H → X.xe (.ref ea) { s with heap := h' })
    (he : starEach [e] X.env = [(false, eval e X.env)] := by rfl) (hd : (x == ("__debug__" : Str)) = false := by decide) :
    PS X (.Raise (some (.Call (.Name x np) [e] [] cpos)) none pos) (tRaise EX ta) := by
  intro pins s σ H D I h
  have O : OwnCls x C bmV "ValueError.__new__" X.mg X.base := own_here I.mod.kin hm q
  obtain ⟨tl, N, nm, q1, bs, hdct, sn, sub, ab, col, dd, k0, k1, k2, k3, k5, mN, hC, hN, hni, T⟩ := O.obj
  refine wpAny_Raise_call_subT (C := C) (nm := nm) (q := q1) (N := N) (bs := bs) (bm := tl) (hdct := hdct) (sn := sn) (sub := sub) (ab := ab) (col := col) (dd := dd) (k0 := k0) (k1 := k1) (k2 := k2) (k3 := k3) (k5 := k5)
    PySem.F.excBase_ValueError (mN := mN) (T.hasType PySem.F.excBase_ValueError.hasBase) (I.ok.hd hc) (by rw [he]; rfl) hni (ld_glob I hg hm ⟨rfl, ?_⟩ hd)
  have hA := ha cpos pins s σ H _ I h
  rw [he] at hA ⊢
  refine Calls.evalArgs_plain (wpAny_mono hA (fun us s2 ⟨vs, H2, I2, r2, z, ex⟩ => ?_) fun _ _ y => y)
  exact ⟨rfl, by rw [← r2.length]; exact z, I2.bk _ _ hC, hN.keeps I2.bk, T.keeps I2.bk, fun h' ea hm' => hx pins σ H2 s2 h' ea us I2 hm' ex⟩
end
end L2

set_option Elab.async false
set_option linter.all false
set_option maxRecDepth 100000
namespace L2
open PySem PySem.Spec PyProof.Rows PySem.W
/-- what of the text an own exception class bears -/
structure XCls (K : Frag) (C : Addr) : Prop where
  ex : excIn K C bmV "ValueError.__new__" = true
  ga : findIn K (.ref C) "__getattribute__" = some (some (.builtin "BaseException.__getattribute__"))
  gn : findIn K (.ref C) "__getattr__" = some none
  cl : findIn K (.ref C) "__class__" = some (some (.builtin "object.__class__"))
  mb : mroIn K C (.type "BaseException") = some true
  mo : mroIn K C (.type "object") = some true
/-- an exception stands at e, nothing behind it -/
def ExcAt (e C : Addr) : Heap → Prop := fun h => ∃ oe vs, h.get? e = some oe ∧ oe.cls = .ref C ∧ oe.data = .fields vs ∧ vs[2]? = some .none
section
variable {prog : Program} {w : World} {A : Around} {E : Value → Shared → Prop} {h : Heap} {g : Array GenState} {d : Drawn} {t : Nat} {os : OsState} {a C : Addr} {o : Obj} {K : Frag}
theorem xc_get {R : Result → Shared → Prop} (X : K.In h) (x : XCls K C) (hx : h.get? a = some o) (hc : o.cls = .ref C) (hq : R (.ok (.ret (.ref C))) ⟨h, g, d, t, os⟩) :
    codeAny (model prog w) A (.call (.builtin "getset_descriptor.__get__") ⟨[.builtin "object.__class__", .ref a, .ref C], []⟩) R ⟨h, g, d, t, os⟩ := by
  have hT5 : (⟨h, g, d, t, os⟩ : Shared).TypeIs (.builtin "object.__class__") "getset_descriptor" := F.typeOf_object_class
  have LB : Looks (model prog w) h (isSubtype (.ref C) (.type (".".intercalate ("object.__class__".cutAt '.').dropLast))) true := by
    rw [F.owner_object_class]; exact looks_subIn X x.mo
  refine codeAny_call_builtin F.slot_gs_get.plain F.entry_gs_get (F.slot_gs_get.check _ _ _ _ _ _ _ _ hT5 (F.args_gs_get _ _ _) ?_)
  repeat (any_goals (first | assumption | (with_reducible refine wpAny_loadPart_at hx ?_; rw [hc]) | with_reducible refine LB.at ?_ | wp_step))
  refine ⟨Code.quiet_builtin _ (by decide +kernel), codeAny_builtin F.entry_object_class ?_⟩
  unfold Builtin.«object.__class__»
  repeat (any_goals (first | assumption | (with_reducible refine wpAny_loadPart_at hx ?_; rw [hc]) | wp_step))
theorem xc_entry {tk : Tok} {Q : Fin → Shared → Prop} (X : K.In h) (x : XCls K C) (hx : h.get? a = some o) (hc : o.cls = .ref C) (hq : Q (.done (.ret (.ref C))) ⟨h, g, d, t, os⟩) :
    wpAny (model prog w) A (Builtin.«object.__getattribute__» ⟨[.ref a, .str "__class__" tk], []⟩) Q E ⟨h, g, d, t, os⟩ := by
  have hT5 : (⟨h, g, d, t, os⟩ : Shared).TypeIs (.builtin "object.__class__") "getset_descriptor" := F.typeOf_object_class
  have f5 := F.typeOf_object_class
  have f6 := F.slot_gs_get.lookup
  have f7 := F.slot_gs_set.lookup
  have L1 : Looks (model prog w) h (typeLookup (.ref C) "__class__") (some (.builtin "object.__class__")) := looks_findIn X x.cl
  repeat (any_goals (first | assumption | (with_reducible refine wpAny_loadPart_at hx ?_; rw [hc]) | with_reducible refine L1.at ?_ | wp_step))
  refine xc_get X x hx hc ?_
  repeat (any_goals (first | assumption | wp_step))
theorem xc_check {M : Model} {nameV : Value} {Q : Unit → Shared → Prop} (X : K.In h) (x : XCls K C) (hx : h.get? a = some o) (hc : o.cls = .ref C) (hq : Q () ⟨h, g, d, t, os⟩) :
    wpAny M A (checkBuiltinCall "BaseException.__getattribute__" ⟨[.ref a, nameV], []⟩) Q E ⟨h, g, d, t, os⟩ := by
  have hk : builtinKind "BaseException.__getattribute__" = some .slot := by decide +kernel
  have hsplit : splitId "BaseException.__getattribute__" = some ("BaseException", "__getattribute__") := by decide +kernel
  have LB : Looks M h (isSubtype (.ref C) (.type "BaseException")) true := looks_subIn X x.mb
  have ha := F.args_bexc_ga (.ref a) nameV
  simp only [checkBuiltinCall, hk, hsplit]
  refine wpAny_bind ?_
  unfold isInstance
  repeat (first | (with_reducible refine wpAny_loadPart_at hx ?_; rw [hc]) | with_reducible refine LB.at ?_ | wp_step)
  exact hq
theorem xc_call {tk : Tok} {R : Result → Shared → Prop} (X : K.In h) (x : XCls K C) (hx : h.get? a = some o) (hc : o.cls = .ref C) (hq : R (.ok (.ret (.ref C))) ⟨h, g, d, t, os⟩) :
    codeAny (model prog w) A (.call (.builtin "BaseException.__getattribute__") ⟨[.ref a, .str "__class__" tk], []⟩) R ⟨h, g, d, t, os⟩ :=
  codeAny_call_builtin PySem.F.excAttr_ValueError.ga.plain F.entry_bexc_ga (xc_check X x hx hc (xc_entry X x hx hc hq))
theorem xc_by {tk : Tok} {Q : Value → Shared → Prop} (X : K.In h) (x : XCls K C) (hx : h.get? a = some o) (hc : o.cls = .ref C) (hq : Q (.ref C) ⟨h, g, d, t, os⟩) :
    wpAny (model prog w) A (getAttrBy (.ref a) (.str "__class__" tk) false) Q E ⟨h, g, d, t, os⟩ := by
  have f3 := PySem.F.excAttr_ValueError.ga.bind (.ref a)
  have hx2 : (Value.builtin "BaseException.__getattribute__" == Value.builtin "object.__getattribute__") = false := by decide +kernel
  have hx1 : (onTheHeap (Value.ref C) && Value.builtin "BaseException.__getattribute__" == Value.builtin "object.__getattribute__") = false := by rw [hx2]; rfl
  have L1 : Looks (model prog w) h (typeLookup (.ref C) "__getattribute__") (some (.builtin "BaseException.__getattribute__")) := looks_findIn X x.ga
  have L2' : Looks (model prog w) h (typeLookup (.ref C) "__getattr__") none := looks_findIn X x.gn
  repeat (any_goals (first | assumption | (with_reducible refine wpAny_loadPart_at hx ?_; rw [hc]) | with_reducible refine L1.at ?_ | with_reducible refine L2'.at ?_ | wp_step))
  refine xc_call X x hx hc ?_
  repeat (any_goals (first | assumption | wp_step))
theorem xc_attr {Q : Option Value → Shared → Prop} (X : K.In h) (x : XCls K C) (hx : h.get? a = some o) (hc : o.cls = .ref C) (hq : Q (some (.ref C)) ⟨h, g, d, t + 1, os⟩) : wpAny (model prog w) A (getAttr? (.ref a) "__class__") Q E ⟨h, g, d, t, os⟩ := by
  unfold getAttr? getAttrBy?
  repeat (any_goals (first | assumption | with_reducible apply xc_by X x hx hc | wp_step))
end
theorem xc_cls {K : Frag} {C : Addr} (x : XCls K C) : ∃ c' d' cd' sl', K.lookup C = some ⟨c', d', .cls cd', sl'⟩ ∧ c' = .type "type" := by
  have q := x.ex
  unfold excIn at q
  split at q
  · rename_i e1 e2 e3 lk
    exact ⟨_, _, _, _, lk, rfl⟩
  · cases q
theorem kitx_exc {K : Frag} {e C : Addr} (x : XCls K C) : KitX K (.ref e) (.ref C) (ExcAt e C) where
  ty := fun M h X p => by
    obtain ⟨oe, vs, h1, h2, _⟩ := p
    exact h2 ▸ (Looks.ld h1).andThen .now
  it := fun M h X p => by
    obtain ⟨c', d', cd', sl', ho, _⟩ := xc_cls x
    intro A' Q' E' s' k q
    unfold isType loadHead
    exact wpAny_bind (wpAny_loadPart (k _ _ (X _ _ ho)) (wpAny_pure q))
  ne := fun h tp dd its n sl X htp => by
    obtain ⟨c', d', cd', sl', ho, _⟩ := xc_cls x
    refine Bool.eq_false_iff.mpr fun q => ?_
    have ee : C = tp := Value.ref.inj (beq_iff_eq.mp q)
    subst ee
    have z := (X _ _ ho).symm.trans htp
    cases z
  ca := fun {prog w A E Q s} X p k => by
    obtain ⟨oe, vs, h1, h2, _⟩ := p
    obtain ⟨h, g, d, t, os⟩ := s
    exact xc_attr X x h1 h2 k
/-- an exception, tracked -/
abbrev excO (e C : Addr) : HO := .ext (ExcAt e C)
theorem excO_ok {P : Program} {w : World} {H : Hp} {h : Heap} {e C : Addr} (x : ExcAt e C h) : ObjOk P w H h e (excO e C) :=
  ⟨x, let ⟨oe, _, h1, _⟩ := x; ⟨oe, h1⟩, fun h1 h2 ⟨oe, vs, a1, a2, a3, a4⟩ k => ⟨oe, vs, k _ a1, a2, a3, a4⟩⟩
def rIsX (K : Frag) : List V → Hp → VK → Prop := fun xs H Q => ∃ e C c k, xs = [.ref e, c] ∧ H e = some (excO e C) ∧ XCls K C ∧ ((∃ D, c = .ref D ∧ kitOne K (.ref C) (.ref D) = some k) ∨ (∃ T, c = .ty T ∧ kitOne K (.ref C) (.type T) = some k)) ∧ Q (.bl k) H
section
variable {X : Cx}
theorem call_isX (K : Frag) (hK : X.K = K := by rfl) : CallR X (.builtin "isinstance") (rIsX K) := by
  subst hK
  intro pins s σ H xs us Q I r h
  obtain ⟨e, C, c, k, rfl, he, x, hc, q⟩ := h
  obtain ⟨u, v, rfl, ru, rv⟩ := r.two
  cases ru
  obtain ⟨p, _, _⟩ := (show ObjOk X.prog X.w H s.heap e (excO e C) from I.hok e _ he)
  rcases hc with ⟨D, rfl, z⟩ | ⟨T, rfl, z⟩
  · cases rv
    exact kia_one (kitx_exc x) I.kIn p z (fun z => nomatch z) fun tk => ⟨.bl k, H, I.tok tk, rfl, q⟩
  · cases rv
    exact kia_one (kitx_exc x) I.kIn p z (fun z => nomatch z) fun tk => ⟨.bl k, H, I.tok tk, rfl, q⟩
end
end L2

set_option Elab.async false
set_option linter.all false
set_option maxRecDepth 100000
namespace L2
open PySem PySem.Spec PyProof.Rows PySem.W
theorem entry_unchain : entryFor table "proto.unchain" = some Builtin.«proto.unchain» := entryFor_of_tree (by kernel_rfl)
section
variable {prog : Program} {w : World} {A : Around} {E : Value → Shared → Prop} {s : Shared}
/-- a new exception while another one is handled, behind which nothing hangs -/
theorem raise_under {α : Type} {e a : Addr} {oe on : Obj} {vs ns : Array Value} {Q : α → Shared → Prop} (hh : A.handled = some (.ref e)) (he : s.heap.get? e = some oe) (hd : oe.data = .fields vs) (h2 : vs[2]? = some .none) (hne : e ≠ a)
    (ha : s.heap.get? a = some on) (hn : on.data = .fields ns) (hz : 2 < ns.size)
    (h : E (.ref a) { s with heap := s.heap.update a (Obj.mapFields (·.setIfInBounds 2 (.ref e))) }) : wpAny (model prog w) A (raiseNew (.ref a) : Sem α) Q E s := by
  unfold raiseNew
  refine wpAny_bind (wpAny_handled ?_)
  rw [hh]
  have hb : (Value.ref e != Value.ref a) = true := by simp [hne]
  simp only [hb, if_true]
  refine wpAny_bind (wpAny_holding ?_)
  unfold runValue
  refine wpAny_bind (wpAny_run (codeAny_builtin entry_unchain ?_))
  unfold Builtin.«proto.unchain»
  refine wpAny_bind (wpAny_field he hd h2 ?_)
  rw [if_pos (by decide)]
  refine wpAny_pure ?_
  refine wpAny_pure ?_
  unfold updateField
  refine wpAny_bind (wpAny_bind (wpAny_load ha ?_))
  rw [hn]
  simp only [hz, if_true]
  exact wpAny_update ha (wpAny_throw h)
theorem next_end_h {it l e C : Addr} {i : Nat} {items : Array Value} {Q : Option Value → Shared → Prop} (hh : A.handled = some (.ref e)) (hx : ExcAt e C s.heap) (hit : s.heap.IsListIter it l i) (hl : s.heap.IsList l items) (hi : items[i]? = none) (hei : e ≠ it)
    (hQ : ∀ h', Heap.ExtBut it s.heap h' → Q none { s with heap := h' }) : wpAny (model prog w) A (pyNext (.ref it)) Q E s := by
  obtain ⟨o, ho, hc, hd⟩ := id hit
  obtain ⟨ol, hol, _, nl, hdl⟩ := hl
  obtain ⟨oe, vs, he, _, hde, h2⟩ := hx
  unfold pyNext
  refine wpAny_bind (wpAny_attempt (wpAny_callSpecial?_slot (name := Str.ofString "__next__") hit.typeIs slot_listiter_next (wpAny_call_entry slot_listiter_next hit.typeIs entry_listiter_next ?_ (args_listiter_next _))))
  show wpAny _ _ (field (.ref it) 0 >>= _) _ _ s
  refine wpAny_bind (wpAny_field ho hd (x := .ref l) rfl ?_)
  show wpAny _ _ (if (Value.ref l == Value.none) = true then _ else _) _ _ s
  rw [if_neg (show ¬ ((Value.ref l == Value.none) = true) from Bool.false_ne_true)]
  show wpAny _ _ (field (.ref it) 1 >>= _) _ _ s
  refine wpAny_bind (wpAny_field ho hd (x := .int i 0) rfl ?_)
  show wpAny _ _ (seqItems? (.ref l) >>= _) _ _ s
  refine wpAny_bind (wpAny_seqItems hol hdl ?_)
  simp only [Int.toNat_natCast, hi]
  refine wpAny_bind (wpAny_rule (wpAny_bind (wpAny_setField ho hd (by simp) ?_)))
  show wpAny _ _ (newExc (.type "StopIteration") [] >>= _) _ _ _
  refine wpAny_bind ?_
  simp only [newExc, newTuple]
  refine wpAny_bind (wpAny_newObj_type ?_ (by size_fits))
  refine wpAny_bind (m := firstArgMember _ _) (wpAny_of_eq (a := Value.none) (by first | rfl | (simp only [firstArgMember]; rfl)) ?_)
  refine wpAny_newObj_type ?_ (by size_fits)
  dsimp only
  generalize hG : (s.heap.update it (Obj.mapFields (·.setIfInBounds 0 Value.none))).push { cls := .type "tuple", dict := none, data := .seq ([] : List Value).toArray } = G
  have k1 : Heap.ExtBut it s.heap G := by rw [← hG]; exact (Heap.SameBut.update ..).extBut.push _
  have heG : G.get? e = some oe := k1 e oe hei he
  generalize hon : ({ cls := .type "StopIteration", dict := none, data := _ } : Obj) = on
  have hne : e ≠ G.objs.size := Nat.ne_of_lt (Heap.lt_size heG)
  refine raise_under (A := A.in1) hh (Heap.get?_push_of_some on heG) hde h2 hne (Heap.get?_push_size G (by rw [← hon]; rfl)) (by rw [← hon]) (by rw [Array.size_append]; exact Nat.lt_of_lt_of_le (show 2 < 6 by decide) (Nat.le_add_right _ _)) ?_
  refine wpAny_bind (wpAny_isInstance (T := "StopIteration") (b := true) ⟨_, Heap.get?_update_self _ (Heap.get?_push_size G (by rw [← hon]; rfl)) (by rw [← hon]; rfl), by rw [← hon]; rfl⟩ isSubtype_stop ?_)
  refine wpAny_pure (hQ _ fun b ob hb q => ?_)
  have q2 := k1 b ob hb q
  rw [Heap.get?_update_other _ _ (Nat.ne_of_gt (Heap.lt_size q2))]
  exact Heap.get?_push_of_some _ q2
theorem walks_h {e C I ax : Addr} (hh : A.handled = some (.ref e)) (hne : ax ≠ I) (hei : e ≠ I) (items : Array Value) :
    Walks prog w A I [I, ax, e] [I] items.size (fun i v => items[i]? = some v) (fun i h => h.IsListIter I ax i ∧ h.IsList ax items ∧ ExcAt e C h) where
  sub := fun b hb => by simp at hb; simp [hb]
  frame := fun _ _ _ st hk => ⟨st.1.at fun o q => hk I (by simp) o q, st.2.1.at fun o q => hk ax (by simp) o q, let ⟨oe, vs, a1, a2⟩ := st.2.2; ⟨oe, vs, hk e (by simp) _ a1, a2⟩⟩
  item := fun i s Q E hi st hQ => by
    refine wpAny_pyNext_list_item st.1 st.2.1 (x := items[i]) (by simp [hi]) fun h' hit' hs' => ?_
    obtain ⟨oe, vs, a1, a2⟩ := st.2.2
    exact hQ _ h' s.toks (by simp [hi]) ⟨hit', st.2.1.extBut hs'.extBut hne, oe, vs, hs'.extBut e oe hei a1, a2⟩ fun b o hb q => hs'.extBut b o (fun z => hb (by simp [z])) q
  done := fun s Q E st hQ => next_end_h hh st.2.2 st.1 st.2.1 (by simp) hei fun h' he' => hQ h' s.toks fun b o hb q => he' b o (fun z => hb (by simp [z])) q
  self := fun _ _ _ _ st hQ => wpAny_pyIter_listiter st.1 hQ
theorem any_h {e C l : Addr} {vs : List Value} {bs : List Bool} {Q : Value → Shared → Prop} (hh : A.handled = some (.ref e)) (hx : ExcAt e C s.heap) (hl : s.heap.IsList l vs.toArray) (hb : LSm.BoolsAre vs bs)
    (h : ∀ h' tk, (∀ b x, s.heap.get? b = some x → h'.get? b = some x) → Q (.bool (bs.any id)) { s with heap := h', toks := tk }) :
    wpAny (model prog w) A (call (.builtin "any") [.ref l]) Q E s := by
  have hlt : l < s.heap.objs.size := by obtain ⟨_, q, _⟩ := hl; exact Heap.lt_size q
  have hlte : e < s.heap.objs.size := by obtain ⟨_, _, q, _⟩ := hx; exact Heap.lt_size q
  obtain ⟨oe, ws, a1, a2⟩ := id hx
  refine call_any_walk (wpAny_pyIter_list hl ⟨s.heap.objs.size, [s.heap.objs.size, l, e], [s.heap.objs.size], vs.toArray.size, _, _, fun i => (bs[i]?).getD false, rfl,
    walks_h (A := A.in1) (C := C) hh (Nat.ne_of_lt hlt) (Nat.ne_of_lt hlte) vs.toArray, ⟨⟨_, Heap.get?_push_size _ rfl, rfl, rfl⟩, hl.push _, oe, ws, Heap.get?_push_of_some _ a1, a2⟩, fun i v s' Q' E' hP hQ => ?_, fun h' tk hk => ?_⟩)
  · obtain ⟨b, q, rfl⟩ := hb.get i v (by simpa using hP)
    simp only [q, Option.getD_some] at hQ
    exact wpAny_truthy_bool hQ
  · have q : ((List.range vs.toArray.size).any fun i => (bs[i]?).getD false) = bs.any id := by
      rw [List.size_toArray, hb.length]; exact LSm.range_any bs
    rw [q]
    exact h h' tk (LSm.kept_iter hk)
end
def rAnyH (K : Frag) (e : Addr) : List V → Hp → VK → Prop := fun xs H Q => ∃ (p : Addr) (bs : List Bool) (C : Addr), xs = [.ref p] ∧ SqL K H p (bs.map V.bl) ∧ H e = some (excO e C) ∧ Q (.bl (bs.any id)) H
theorem call_anyH {X : Cx} (K : Frag) (e : Addr) (hh : X.A.handled = some (.ref e)) (hK : X.K = K := by rfl) : CallR X (.builtin "any") (rAnyH K e) := by
  subst hK
  intro pins s σ H xs us Q I r h
  obtain ⟨p, bs, C, rfl, hq, he, q⟩ := h
  obtain ⟨u, rfl, ru⟩ := r.one
  cases ru
  obtain ⟨its, rv, pl, hz⟩ := I.list hq
  obtain ⟨x, _, _⟩ := (show ObjOk X.prog X.w H s.heap e (excO e C) from I.hok e _ he)
  exact any_h hh x pl.isList (bools_of rv) fun h' tk hk => ⟨.bl _, H, I.kept hk, rfl, q⟩
end L2

set_option Elab.async false
set_option linter.all false
set_option maxRecDepth 100000
namespace L2
open PySem PySem.Spec PyProof.Rows PySem.W
/-! ## try, except C as n -/
section
variable {M : Model} {A : Around} {E : Value → Shared → Prop} {s : Shared} {K : Frag}
theorem exc_matches {e C D : Addr} {Q : Bool → Shared → Prop} {k : Bool} (X : K.In s.heap) (x : XCls K D) (he : ExcAt e C s.heap) (hs : mroIn K C (.ref D) = some k) (h : Q k s) : wpAny M A (excMatches (.ref e) (.ref D)) Q E s := by
  obtain ⟨hh, g, d, tk, os⟩ := s
  obtain ⟨oe, vs, h1, h2, _⟩ := he
  obtain ⟨c', d', cd', sl', ho, rfl⟩ := xc_cls x
  have hD := X _ _ ho
  have LB : Looks M hh (isSubtype (.ref D) (.type "BaseException")) true := looks_subIn X x.mb
  have LS : Looks M hh (isSubtype (.ref C) (.ref D)) k := looks_subIn X hs
  have f := tc_notTuple
  unfold excMatches
  repeat (first | (with_reducible refine wpAny_loadPart_at h1 ?_; rw [h2]) | with_reducible refine wpAny_loadPart_at hD ?_ | with_reducible refine LB.at ?_ | with_reducible refine LS.at ?_ | wp_step)
  cases k
  · repeat (first | exact h | wp_step)
  · repeat (first | exact h | wp_step)
end
abbrev Cx.inTry (X : Cx) (pn : List (Addr × Obj)) (xe : Value → Shared → Prop) : Cx := { X with pn := pn, xe := xe }
abbrev Cx.inSuite (X : Cx) (ea : Addr) : Cx := { X with A := X.A.mark (some (.ref ea)), calm := false, xe := fun _ _ => False }
section
variable {X : Cx} {pins pins' : List (Addr × Obj)} {σ : St} {H : Hp} {s : Shared} {xe : Value → Shared → Prop} {ea : Addr}
theorem Inv.toTry (I : Inv X pins σ H s) (xe : Value → Shared → Prop) : Inv (X.inTry (X.pn ++ pins) xe) [] σ H s :=
  ⟨⟨I.ok.mod, I.ok.kind, I.ok.glob, I.ok.blt, I.ok.above, I.ok.inj, I.ok.has, I.ok.cab, I.ok.hd, I.ok.frames, I.ok.stk, I.ok.exf, I.ok.bs, I.ok.bsz, I.ok.noex, I.ok.exfs, I.ok.funs, I.ok.frf⟩, I.os, I.bare, I.base, I.loc, I.cell, I.free, I.freeC,
    fun p hp => I.pin p (by rw [List.append_nil] at hp; exact hp), I.hok, I.len⟩
theorem Inv.ofTry (I : Inv (X.inTry (X.pn ++ pins) xe) pins' σ H s) : Inv X pins σ H s :=
  ⟨⟨I.ok.mod, I.ok.kind, I.ok.glob, I.ok.blt, I.ok.above, I.ok.inj, I.ok.has, I.ok.cab, I.ok.hd, I.ok.frames, I.ok.stk, I.ok.exf, I.ok.bs, I.ok.bsz, I.ok.noex, I.ok.exfs, I.ok.funs, I.ok.frf⟩, I.os, I.bare, I.base, I.loc, I.cell, I.free, I.freeC,
    fun p hp => I.pin p (List.mem_append_left _ hp), I.hok, I.len⟩
theorem Inv.toSuite (I : Inv X pins σ H s) (ea : Addr) : Inv (X.inSuite ea) pins σ H s :=
  ⟨⟨I.ok.mod, I.ok.kind, I.ok.glob, I.ok.blt, I.ok.above, I.ok.inj, I.ok.has, I.ok.cab, (fun h => nomatch h), I.ok.frames, I.ok.stk, I.ok.exf, I.ok.bs, I.ok.bsz, I.ok.noex, I.ok.exfs, I.ok.funs, I.ok.frf⟩, I.os, I.bare, I.base, I.loc, I.cell, I.free, I.freeC, I.pin, I.hok, I.len⟩
theorem Inv.ofSuite (I : Inv (X.inSuite ea) pins σ H s) (ok : X.Ok) : Inv X pins σ H s := ⟨ok, I.os, I.bare, I.base, I.loc, I.cell, I.free, I.freeC, I.pin, I.hok, I.len⟩
/-- an object that stood untracked is tracked from here on -/
theorem Inv.track {a : Addr} {o : HO} (I : Inv X pins σ H s) (na : X.s₀.heap.get? a = none) (hn : H a = none) (new : ObjOk X.prog X.w (upd H a o) s.heap a o) (nl : a ≠ X.env.locals) (nc : ∀ x c, X.env.cells.lookup x = some c → c ≠ a) (np : ∀ p ∈ X.pn ++ pins, p.1 ≠ a) :
    Inv X pins σ (upd H a o) s := by
  have ne : ∀ {b : Addr} {u : HO}, H b = some u → b ≠ a := fun q => ne_of_none q hn
  refine ⟨I.ok, I.os, I.bare, ⟨I.base.keep, I.base.slot, fun b ob e n hx => ?_, I.base.there, fun b xs e => ?_, fun b ob u e => ?_, fun b ps e => ?_⟩, I.loc, I.cell, ?_, fun x c e => ?_, fun p hp => ?_, fun b u e => ?_, I.len⟩
  · rw [upd_ne (fun z => by rw [z, na] at e; cases e)]; exact I.base.free b ob e n hx
  · have z := I.base.tups b xs e; rw [upd_ne (ne z)]; exact z
  · have z := I.base.frzs b ob u e; rw [upd_ne (ne z)]; exact z
  · obtain ⟨more, z⟩ := I.base.tbls b ps e; exact ⟨more, by rw [upd_ne (ne z)]; exact z⟩
  · rw [upd_ne (Ne.symm nl)]; exact I.free
  · rw [upd_ne (nc x c e)]; exact I.freeC x c e
  · obtain ⟨e1, e2, e3, e4, e5⟩ := I.pin p hp
    exact ⟨e1, by rw [upd_ne (np p hp)]; exact e2, e3, e4, e5⟩
  · by_cases hb : b = a
    · subst hb
      rw [upd_same] at e; cases e
      exact new
    · rw [upd_ne hb] at e
      exact (I.hok b u e).stay (fun _ _ _ q => q) (fun c q => by rw [upd_ne (ne q)]; exact q) fun c xs q => by rw [upd_ne (ne q)]; exact q
/-- all names forgotten -/
theorem Inv.forget (I : Inv X pins σ H s) : Inv X pins (List.replicate X.N.length none) H s := I.weak (by rw [List.length_replicate, I.len]) fun i v e => by
  rw [List.getElem?_replicate] at e
  split at e <;> cases e
/-- the name behind the suite goes -/
theorem unbind_ok {M : Model} {A : Around} {E : Value → Shared → Prop} {n : Str} {i : Nat} {pos : Pos} {Q : Unit → Shared → Prop} (I : Inv X pins σ H s) (hN : X.N.Nodup) (hi : X.N[i]? = some n) (hl : X.env.scope.names.lookup n = some .local)
    (h : ∀ s', Inv X pins (List.replicate X.N.length none) H s' → Q () s') : wpAny M A (do bindName X.env n .none; unbindBehindTheSuite X.env n pos) Q E s := by
  refine wpAny_bind (wpAny_bindName (store_ok2 I hN hi (.inl hl) (v := .non) rfl (fun s1 I1 _ => ?_) (.inr hl)))
  unfold unbindBehindTheSuite
  refine wpAny_onRaise ?_
  obtain ⟨m, hn, hlk⟩ := I1.loc
  have hiσ : i < σ.length := by rw [I.len]; exact (List.getElem?_eq_some_iff.mp hi).1
  obtain ⟨u, r, q⟩ := hlk i n .non hi (by rw [List.getElem?_set_self hiσ]) (.inl hl)
  have hv : m n = some u := by
    rcases q with ⟨_, z⟩ | ⟨z, _⟩
    · exact z
    · have hl' : X.env.kindOf n = some .local := hl
      rw [hl'] at z
      rcases z with z | z <;> cases z
  refine wpAny_unbindName_local hl hn hv (by rw [I.ok.kind]; rfl) fun h' u' hn' sb => h _ ?_
  have I2 := I1.forget
  refine ⟨I2.ok, I2.os, I2.bare, ⟨fun b o e n' hb hx => ?_, fun b o e n' hb hx => ?_, I2.base.free, fun b o e hx => ?_, I2.base.tups, I2.base.frzs, I2.base.tbls⟩, ⟨_, hn', fun j y v e1 e2 e3 => ?_⟩, fun y c e => ?_, I2.free, I2.freeC, fun p hp => ?_, fun b ob e => ?_, I2.len⟩
  · exact (sb.2 b (Nat.ne_of_lt (Nat.lt_of_lt_of_le (Heap.lt_size e) I.ok.above))).trans (I2.base.keep b o e n' hb hx)
  · obtain ⟨sl, z⟩ := I2.base.slot b o e n' hb hx
    exact ⟨sl, (sb.2 b (Nat.ne_of_lt (Nat.lt_of_lt_of_le (Heap.lt_size e) I.ok.above))).trans z⟩
  · obtain ⟨o', z⟩ := I2.base.there b o e hx
    exact ⟨o', (sb.2 b (Nat.ne_of_lt (Nat.lt_of_lt_of_le (Heap.lt_size e) I.ok.above))).trans z⟩
  · rw [List.getElem?_replicate] at e2
    split at e2 <;> cases e2
  · obtain ⟨v, z⟩ := I2.cell y c e
    exact ⟨v, z.sameBut sb (I.cne y c e)⟩
  · obtain ⟨e1, e2, e3, e4, e5⟩ := I2.pin p hp
    exact ⟨(sb.2 p.1 e3).trans e1, e2, e3, e4, e5⟩
  · refine (I2.hok b ob e).stay (fun c v hc z => (sb.2 c ?_).trans z) (fun _ z => z) fun _ _ z => z
    rintro rfl
    rcases hc with rfl | hc
    · rw [I2.free] at e; cases e
    · rw [I2.free] at hc; cases hc
end
section
variable {X : Cx}
/-- what is wanted of an exception that the body lets out: it is caught, and the suite goes well -/
def Caught (X : Cx) (Cc : Addr) (i : Nat) (ts : Addr → TS) (D : Ends) : XK := fun cls _ H' => ∃ C, cls = .ref C ∧ XCls X.K C ∧ mroIn X.K C (.ref Cc) = some true ∧
  ∀ ea, H' ea = none → ts ea { nx := fun _ H2 => D.nx (List.replicate X.N.length none) H2, rt := D.rt } ((List.replicate X.N.length none).set i (some (.ref ea))) (upd H' ea (excO ea C))
theorem catch_own {cn n : Str} {cnp hpos : Pos} {Cc : Addr} {i : Nat} {b0 : Stmt} {suite : List Stmt} {ts : Addr → TS} (hex : X.ex = []) (hst : X.stack = X.env :: X.outer) (hf : X.env.frame = some X.env.locals) (hg : Gl X cn) (hm : X.mg cn = some (.ref Cc)) (xc : XCls X.K Cc)
    (hN : X.N.Nodup) (hi : X.N[i]? = some n) (hl : X.env.scope.names.lookup n = some .local) (hsu : ∀ ea, PSs (X.inSuite ea) (b0 :: suite) (ts ea))
    {pins pins' : List (Addr × Obj)} {σ : St} {H : Hp} {s s' : Shared} {e : Value} {D : Ends} {xe : Value → Shared → Prop} (I : Inv (X.inTry (X.pn ++ pins) xe) pins' σ H s) (h : CXe X.prog X.w X.stack H s (Caught X Cc i ts D) e s') (hd : (cn == ("__debug__" : Str)) = false := by decide) :
    wpAny (model X.prog X.w) X.A (noteFrame e X.env) (fun _ s2 => wpAny (model X.prog X.w) X.A (setFlight e none) (fun _ s3 =>
      wpAny (model X.prog X.w) X.A (handleBy e X.env [.ExceptHandler (some (.Name cn cnp)) (some n) (b0 :: suite) hpos]) (SP X pins D) X.xe s3) X.xe s2) X.xe s' := by
  obtain ⟨ea, T, cls, H', rfl, os, bare, fl, n1, n2, m1, m2, un, hok, C, rfl, xC, hsub, hts⟩ := h
  have IX : Inv X pins σ H s := I.ofTry
  have fr : s'.heap.FunFrames X.base X.stack := frames_of (fun b hb o q => un.slot b o q (IX.stkFree b hb) hb (by simp)) IX.stack
  have frH : ∀ b ∈ frs X.stack, H' b = none := fun b hb => by
    obtain ⟨_, o, q, _⟩ := IX.stack.mem hb
    exact un.free b o q (IX.stkFree b hb) (by simp)
  have hst' : frs (X.env :: X.outer) = frs X.stack := by rw [hst]
  refine note_own (base := X.base) (outer := X.outer) (by rw [← hst]; exact IX.ok.frames) (by rw [← hst]; exact fr) hf fl fun h2 T' hn fl2 k => ?_
  rw [hst'] at k
  have z2 := un_kept un hok k (fun b hb => by
    rcases List.mem_cons.mp hb with q | q
    · rw [q]; exact ⟨n1, m1⟩
    · have q' : b = T := by simpa using q
      rw [q']; exact ⟨n2, m2⟩) frH fun b hb => .inl hb
  have mT' : s.heap.get? T' = none := by
    cases y : s.heap.get? T' with
    | none => rfl
    | some o =>
      obtain ⟨o', y'⟩ := un.there T' o y (by simp)
      rw [hn] at y'; cases y'
  have nT' : H' T' = none := hok.none_of hn
  have exT : ∀ b ∈ [T'], H' b = none ∧ s.heap.get? b = none := fun b hb => by
    have q : b = T' := by simpa using hb
    rw [q]; exact ⟨nT', mT'⟩
  have flk : ∀ {ha hb : Heap}, (∀ b o, b ≠ T' → ha.get? b = some o → hb.get? b = some o) → KeptX (frs X.stack) [T'] ha hb := fun kk => ⟨fun b o _ hx q => kk b o (fun z => hx (by simp [z])) q, fun b o _ hx q => ⟨o.slots, kk b o (fun z => hx (by simp [z])) q⟩⟩
  refine flight_own (s := { s' with heap := h2 }) fl2 fun h3 fl3 k3 => ?_
  have z3 := un_kept z2.1 z2.2 (flk k3) exT frH fun b hb => .inl hb
  have I3 : Inv X pins σ H' { s' with heap := h3 } := IX.call' (s' := { s' with heap := h3 }) (ch := []) os z3.1 z3.2 bare fun b hb => absurd hb (by simp)
  have xAt : ∀ {hh : Heap} {fl : Value}, Fly hh ea T' (.ref C) fl → ExcAt ea C hh := fun f => let ⟨oe, vs, _, _, e1, e2, e3, _, e5, _⟩ := f; ⟨oe, vs, e1, e2, e3, e5⟩
  have IS := I3.forget.toSuite ea
  refine wpAny_handleBy_cons (codeAny_handlers_test (ld_glob IS hg hm (exc_matches IS.kIn xc (xAt fl3) hsub ?_) hd)) (by intro q; cases q)
  refine codeAny_handlers_suite_as (flight_own (s := { s' with heap := h3 }) fl3 fun h4 fl4 k4 => ?_)
  have z4 := un_kept z3.1 z3.2 (flk k4) exT frH fun b hb => .inl hb
  have I4 : Inv X pins σ H' { s' with heap := h4 } := IX.call' (s' := { s' with heap := h4 }) (ch := []) os z4.1 z4.2 bare fun b hb => absurd hb (by simp)
  have I5 : Inv X pins σ (upd H' ea (excO ea C)) { s' with heap := h4 } := by
    refine I4.track ?_ n1 (excO_ok (xAt fl4)) ?_ ?_ ?_
    · cases y : X.s₀.heap.get? ea with
      | none => rfl
      | some o =>
        by_cases hx : ea ∈ X.ex
        · rw [hex] at hx; cases hx
        · obtain ⟨o', y'⟩ := IX.base.there ea o y hx
          rw [m1] at y'; cases y'
    · intro z
      obtain ⟨m, ⟨o, _, _, q, _⟩, _⟩ := IX.loc
      rw [← z, m1] at q; cases q
    · intro x c q z
      obtain ⟨v, o, q', _⟩ := IX.cell x c q
      rw [z, m1] at q'; cases q'
    · intro p hp z
      have q := (IX.pin p hp).1
      rw [z, m1] at q; cases q
  refine store_ok2 (X := X.inSuite ea) (I5.forget.toSuite ea) hN hi (.inl hl) (v := .ref ea) rfl (fun s5 I6 _ => ?_) (.inr hl)
  refine wpAny_mono (hsu ea pins s5 _ _ _ I6 (hts ea n1)) (fun f s6 sp => ?_) fun _ _ z => z.elim
  cases f with
  | next =>
    obtain ⟨σ7, H7, I7, q7⟩ := sp
    exact unbind_ok (I7.ofSuite IX.ok) hN hi hl fun s8 I8 => ⟨_, H7, I8, q7⟩
  | brk => obtain ⟨σ7, H7, I7, q7⟩ := sp; exact q7.elim
  | cont => obtain ⟨σ7, H7, I7, q7⟩ := sp; exact q7.elim
  | ret u =>
    obtain ⟨v, σ7, H7, I7, r7, q7⟩ := sp
    exact unbind_ok (I7.ofSuite IX.ok) hN hi hl fun s8 I8 => ⟨v, _, H7, I8, r7, q7⟩
/-- try: body / except Cc as n: suite -/
def tTry (X : Cx) (Cc : Addr) (i : Nat) (tb : XK → TS) (ts : Addr → TS) : TS := fun D σ H => tb (Caught X Cc i ts D) D σ H
theorem ps_try {cn n : Str} {cnp hpos pos : Pos} {Cc : Addr} {i : Nat} {body : List Stmt} {b0 : Stmt} {suite : List Stmt} {tb : XK → TS} {ts : Addr → TS} (hex : X.ex = []) (hst : X.stack = X.env :: X.outer) (hf : X.env.frame = some X.env.locals) (hg : Gl X cn) (hm : X.mg cn = some (.ref Cc)) (xc : XCls X.K Cc)
    (hN : X.N.Nodup) (hi : X.N[i]? = some n) (hl : X.env.scope.names.lookup n = some .local) (hb : ∀ pn xe Eh, Passes (CXe X.prog X.w) (X.inTry pn xe) Eh → PSs (X.inTry pn xe) body (tb Eh)) (hsu : ∀ ea, PSs (X.inSuite ea) (b0 :: suite) (ts ea)) (hd : (cn == ("__debug__" : Str)) = false := by decide) :
    PS X (.Try body [.ExceptHandler (some (.Name cn cnp)) (some n) (b0 :: suite) hpos] [] [] pos) (tTry X Cc i tb ts) := by
  intro pins s σ H D I h
  refine wpAny_Try_except ?_
  refine wpAny_mono (hb (X.pn ++ pins) (fun e s1 => wpAny (model X.prog X.w) X.A (noteFrame e X.env) (fun _ s2 => wpAny (model X.prog X.w) X.A (setFlight e none) (fun _ s3 =>
      wpAny (model X.prog X.w) X.A (handleBy e X.env [.ExceptHandler (some (.Name cn cnp)) (some n) (b0 :: suite) hpos]) (SP X pins D) X.xe s3) X.xe s2) X.xe s1) (Caught X Cc i ts D)
    (fun pins' σ' H' s' e s'' I' h' => catch_own hex hst hf hg hm xc hN hi hl hsu I' h' hd) [] s σ H D (I.toTry _) h) (fun f s1 sp => ?_) fun e s1 z => z
  cases f with
  | next => obtain ⟨σ1, H1, I1, q1⟩ := sp; exact wpAny_execs_nil ⟨σ1, H1, I1.ofTry, q1⟩
  | brk => obtain ⟨σ1, H1, I1, q1⟩ := sp; exact ⟨σ1, H1, I1.ofTry, q1⟩
  | cont => obtain ⟨σ1, H1, I1, q1⟩ := sp; exact ⟨σ1, H1, I1.ofTry, q1⟩
  | ret u => obtain ⟨v, σ1, H1, I1, r1, q1⟩ := sp; exact ⟨v, σ1, H1, I1.ofTry, r1, q1⟩
end
end L2

set_option Elab.async false
set_option linter.all false
set_option maxRecDepth 100000
namespace L2
open PySem PySem.Spec PyProof.Rows PySem.W
section
variable {X : Cx} {CX : CXT} {k : Nat} {f : Addr} {fd : FuncData} {ps : List Str} {sp : Sp} {dvs : List V} {ds : List Value} {E : XK} {x : Str} {p pos : Pos} {e : Expr} {es : List Expr} {tf : TE} {t : TA}
/-- a call of a def that a name of the body holds -/
def tCallV (f : Addr) (sp : Sp) (dvs : List V) (E : XK) (tf : TE) (t : TA) : TE := fun σ H Q => tf σ H fun v H1 => v = .ref f ∧ t σ H1 fun vs H2 => sp (vs ++ dvs) H2 Q E
theorem boot_ValueErr : bootBuiltins "ValueError" = some (.type "ValueError") := by decide +kernel
theorem kit_own {K : Frag} {C D : Addr} {b : Bool} (xD : XCls K D) (hs : mroIn K C (.ref C) = some true) (h : mroIn K C (.ref D) = some b) : kitOne K (.ref C) (.ref D) = some b := by
  unfold kitOne
  split
  · rename_i e
    obtain rfl : C = D := Value.ref.inj (beq_iff_eq.mp e)
    rw [hs] at h; exact h
  · obtain ⟨c', d', cd', sl', lk, rfl⟩ := xc_cls xD
    unfold kitCls
    have e1 : clsIn K D = some cd' := by unfold clsIn; rw [lk]
    have e2 : typeIn K (.ref D) = some (.type "type") := by show Option.map _ (K.lookup D) = _; rw [lk]; rfl
    simp only [e1, e2, Option.isSome_some, beq_self_eq_true, Bool.and_self, if_true]
    exact h
theorem kit_ty {K : Frag} {C : Addr} {T : String} {b : Bool} (hm : kitMeta T = true) (h : mroIn K C (.type T) = some b) : kitOne K (.ref C) (.type T) = some b := by
  unfold kitOne
  split
  · rename_i e
    exact absurd (beq_iff_eq.mp e) (by intro z; cases z)
  · unfold kitCls
    simp only [hm, if_true]
    exact h
theorem kit_VE : kitMeta "ValueError" = true := by decide +kernel
/-- the ways out of a statement meet again -/
def tJoin (t : TS) : TS := fun D σ H => ∃ Mid : St → Hp → Prop, t { D with nx := Mid } σ H ∧ ∀ σ' H', Mid σ' H' → D.nx σ' H'
/-- a def that raises nothing here, whatever it may raise elsewhere -/
theorem passF {P : Program} {w : World} : Passes (CXe P w) X (fun _ _ _ => False) := fun _ _ _ _ _ _ _ ⟨_, _, _, _, _, _, _, _, _, _, _, _, _, _, z⟩ => z.elim
end
end L2

set_option Elab.async false
set_option linter.all false
set_option maxRecDepth 100000
namespace L2
open PySem PySem.Spec PyProof.Rows
/-! ## xs.count(k) of ints -/
section
variable {X : Cx}
def rCountI (K : PySem.W.Frag) : V → List V → Hp → VK → Prop := fun x vs H Q => ∃ (l : Addr) (ns : List Int) (k : Int), x = .ref l ∧ vs = [.int k] ∧ SqL K H l (ns.map V.int) ∧ Q (.int ((ns.count k : Nat) : Int)) H
end
section
variable {X : Cx} {o e : Expr} {es : List Expr} {to : TE} {t : TA} {name : Str} {apos cpos : Pos} {T id : String} {r : V → List V → Hp → VK → Prop}
theorem pe_bmK (K : PySem.W.Frag) (pa : PlainAttrs T) (slot : Slot T name id) (hty : typeOf (.builtin id) = pure (.type "method_descriptor")) (hm : MtR X id r) (ho : PE X o to) (ha : PA X (e :: es) t)
    (hbase : attributeBase o name X.env (eval o X.env) = eval o X.env := by rfl)
    (hfew : ((backTo cpos (starEach (e :: es) X.env)).all (fun x => !x.1) && (backToKw cpos (keywordEach [] X.env)).all (fun x => x.1.isSome)
      && decide ((e :: es).length + ([] : List Keyword).length + (if ([] : List Keyword).isEmpty then 0 else 1) < 30)) = true := by rfl)
    (hline : (apos.endLine == cpos.line) = true := by rfl) (hs : starEach (e :: es) X.env = (false, eval e X.env) :: starEach es X.env := by rfl) (hplain : (backTo cpos (starEach es X.env)).any (·.1) = false := by rfl) (hK : X.K = K := by rfl) :
    PE X (.Call (.Attribute o name apos) (e :: es) [] cpos) (tBM K T r to t) := by
  subst hK
  exact pe_bm pa slot hty hm ho ha hbase hfew hline hs hplain
end
/-! ## a comprehension without a test, whose items are known by a word -/
section
variable {K : PySem.W.Frag} {a : Addr} {xs : List V} {σ : St} {H1 : Hp} {n : Nat} {te : TE} {Q : VK}
/-- .. over range(lo, hi), without a test -/
theorem lcB_from {lo : Int} {k : Nat} (hn : σ.length = n) (hz : k ≤ 1000) (f : Int → V)
    (hf : ∀ x : Int, lo ≤ x → x < lo + k → ∀ H', Same H1 H' → ∀ R : VK, (∀ H'', Same H' H'' → R (f x) H'') → te (σ ++ [some (.int x)]) H' R)
    (hQ : ∀ H' D, Same H1 H' → H' D = none → Q (.ref D) (upd H' D (.lst ((Wv.up k).map fun i => f (lo + i))))) : tLcB (Itr lo k) (gName n) tTT te 1 σ H1 Q := by
  refine ⟨fun i m ys σ' H' => m = k - i ∧ i ≤ k ∧ ys = ((Wv.up i).map fun j => f (lo + j)) ∧ (∃ t, σ' = σ ++ [t]) ∧ Same H1 H', ⟨k, by simp, Nat.zero_le _, rfl, ⟨none, rfl⟩, Same.refl _⟩, ?_⟩
  rintro i m ys σ' H' ⟨rfl, hi, rfl, ⟨t, rfl⟩, hs⟩
  by_cases hlt : i < k
  · refine .inr ⟨hlt, ?_, fun x H2 y => ?_⟩
    · rw [List.length_map, Wv.up_length]
      exact small1000 (by omega)
    obtain ⟨e, y⟩ := y
    subst e y
    dsimp only [gName, tTT]
    rw [if_pos rfl, set_tail hn]
    refine hf (lo + i) (by omega) (by omega) _ hs _ fun H5 h5 => ⟨k - (i + 1), by omega, rfl, hlt, ?_, ⟨_, rfl⟩, hs.trans h5⟩
    rw [Wv.up_succ, List.map_append]
    rfl
  · have e : i = k := by omega
    subst e
    exact .inl ⟨Nat.le_refl _, fun D hD => hQ _ D hs hD⟩
end
end L2

set_option Elab.async false
set_option linter.all false
set_option maxRecDepth 100000
namespace L2
open PySem PySem.Spec PyProof.Rows Builtin Builtin.Str
section
variable {X : Cx}
/-! ## texts -/
theorem strs_of : ∀ {zs : List Str} {us : List Value}, Vals (zs.map V.str) us → ∃ l : List (Str × Tok), us = strValues l ∧ l.map (·.1) = zs
  | [], _, .nil => ⟨[], rfl, rfl⟩
  | z :: r, _, .cons h t => by
    obtain ⟨k, rfl⟩ := h
    obtain ⟨l, rfl, rfl⟩ := strs_of t
    exact ⟨(z, k) :: l, rfl, rfl⟩
theorem vals_strs : ∀ l : List (Str × Tok), Vals ((l.map (·.1)).map V.str) (strValues l)
  | [] => .nil
  | (z, k) :: l => .cons ⟨k, rfl⟩ (vals_strs l)
def rJoin (K : PySem.W.Frag) : V → List V → Hp → VK → Prop := fun x vs H Q => ∃ (sep : Str) (l : Addr) (zs : List Str), x = .str sep ∧ vs = [.ref l] ∧ SqL K H l (zs.map V.str) ∧
  (zs.map Str.length).sum + zs.length * sep.length ≤ 16777216 ∧ Q (.str (Str.join sep zs)) H
theorem mt_join (K : PySem.W.Frag) (hK : X.K = K := by rfl) : MtR X "str.join" (rJoin K) := by
  subst hK
  intro pins s σ H x vs v us Q I rx rv h
  obtain ⟨sep, l, zs, rfl, rfl, hq, hz, q⟩ := h
  obtain ⟨t, rfl⟩ := rx
  obtain ⟨u, rfl, ru⟩ := rv.one
  cases ru
  obtain ⟨its, r, pl, _⟩ := I.list hq
  obtain ⟨ls, rfl, rfl⟩ := strs_of r
  refine SC.join pl.isList rfl ?_ fun t' k => ⟨.str _, H, I.tok _, ⟨t', ?_⟩, q⟩
  · unfold JoinOk
    rw [Bool.not_eq_true']
    rw [StrLaws.joinTotal]
    unfold tooLong sizeLine
    have e : (2 : Nat) ^ 24 = 16777216 := by decide
    have hz' : ((ls.map (·.1)).map (fun x => x.length)).sum + (ls.map (·.1)).length * sep.length ≤ 16777216 := hz
    exact decide_eq_false (by omega)
  · show Value.str (Txt.join _ _) _ = _
    unfold Txt.join
    rw [StrLaws.glued_eq_join]
def rSplit : V → List V → Hp → VK → Prop := fun x vs H Q => ∃ (z sep : Str), x = .str z ∧ vs = [.str sep] ∧ sep.length = 1 ∧ z.length < 16777215 ∧
  ∀ p, H p = none → Q (.ref p) (upd H p (.lst ((Txt.split z sep).map V.str)))
theorem mt_split : MtR X "str.split" rSplit := by
  intro pins s σ H x vs v us Q I rx rv h
  obtain ⟨z, sep, rfl, rfl, h1, hz, q⟩ := h
  obtain ⟨t, rfl⟩ := rx
  obtain ⟨u, rfl, ru⟩ := rv.one
  obtain ⟨u, rfl⟩ := ru
  have hy : (sep.length == 0) = false := by rw [h1]; rfl
  have hpl : (partsBetween z (occurrences z sep 0 z.length (z.length + 1)) sep.length).length ≤ sizeLine := by
    have e : (sizeLine : Nat) = 16777216 := by decide
    have k := StrLaws.occ_length_le z sep 0 z.length (z.length + 1)
    rw [StrLaws.partsBetween_eq]
    have : ∀ (cuts : List Nat) (a : Nat), (StrLaws.partsFrom z sep.length a cuts).length = cuts.length + 1 := by
      intro cuts
      induction cuts with
      | nil => intro a; rfl
      | cons c r ih => intro a; show (_ :: StrLaws.partsFrom z sep.length (c + sep.length) r).length = _; rw [List.length_cons, ih]; rfl
    rw [this]
    omega
  have one : ∀ (tk : Nat), (Txt.split z sep) = [z] → EP X pins σ Q (.ref s.heap.objs.size) { s with heap := s.heap.push { cls := .type "list", data := .seq #[.str z t] }, toks := tk } := fun tk e => by
    refine ⟨.ref s.heap.objs.size, _, I.laid (t' := tk) (o := .lst ((Txt.split z sep).map V.str)) (fun b ob q => Heap.get?_push_of_some _ q) (Nat.le_refl _) ?_, rfl, q _ (I.hok.fresh (Nat.le_refl _))⟩
    rw [e]
    exact ⟨(by show 1 ≤ sizeLine; decide), [.str z t], 0, .cons ⟨t, rfl⟩ .nil, Heap.get?_push_size _ rfl⟩
  cases hc : (decide (z.length < sep.length) || decide (strKind z < strKind sep)) with
  | true =>
    refine call_meets F.slot_str_split (typeIs_str _ _ _) F.entry_str_split (F.args_str_split_2 _ _) (meets_str_split_cannot_occur z sep t u hc) ?_
    exact one _ (by unfold Txt.split; rw [if_pos hc])
  | false =>
    cases hf : (occurrences z sep 0 z.length (z.length + 1)).isEmpty with
    | true =>
      refine call_meets F.slot_str_split (typeIs_str _ _ _) F.entry_str_split (F.args_str_split_2 _ _) (meets_str_split_not_found z sep t u hc hy hf) ?_
      exact one _ (by unfold Txt.split; rw [if_neg (ne_true_of_eq_false hc), if_pos hf])
    | false =>
      refine call_meets F.slot_str_split (typeIs_str _ _ _) F.entry_str_split (F.args_str_split_2 _ _) (meets_str_split_sep z sep t u hc hy hf (Nat.le_trans (Nat.le_of_lt hz) (by decide)) hpl) ?_
      have e : Txt.split z sep = partsBetween z (occurrences z sep 0 z.length (z.length + 1)) sep.length := by
        unfold Txt.split
        rw [if_neg (ne_true_of_eq_false hc), if_neg (ne_true_of_eq_false hf)]
      show EP X pins σ Q (.ref s.heap.objs.size) { s with toks := _, heap := s.heap.push { cls := .type "list", data := .seq (strsFrom s.toks (partsBetween z (occurrences z sep 0 z.length (z.length + 1)) sep.length)).toArray } }
      rw [strsFrom_eq]
      refine ⟨.ref s.heap.objs.size, _, I.laid (o := .lst ((Txt.split z sep).map V.str)) (fun b ob q => Heap.get?_push_of_some _ q) (Nat.le_refl _) ?_, rfl, q _ (I.hok.fresh (Nat.le_refl _))⟩
      refine ⟨by rw [List.length_map, e]; exact hpl, _, 0, ?_, Heap.get?_push_size _ rfl⟩
      have w := vals_strs (numbered s.toks (partsBetween z (occurrences z sep 0 z.length (z.length + 1)) sep.length))
      rw [numbered_texts, ← e] at w
      rw [← e]
      exact w
def rSlS : V → Option Int → Option Int → Hp → VK → Prop := fun x lo hi H Q => ∃ z : Str, x = .str z ∧ z.length ≤ sizeLine ∧ Q (.str (Txt.slice z lo hi)) H
theorem sl_str : SlR X rSlS := by
  intro pins s σ H x v vl vu lo hi sl Q I rx hs pl pu h
  obtain ⟨z, rfl, hz, q⟩ := h
  obtain ⟨t, rfl⟩ := rx
  refine ⟨"str", _, F.slot_str_getitem.lookup, typeIs_str _ _ _, ?_⟩
  have fin : ∀ l u : Option (Int × Tok), l.map (·.1) = lo → u.map (·.1) = hi → s.heap.IsSlice sl l u none → wpAny (model X.prog X.w) X.A (getItem (.str z t) (.ref sl)) (EP X pins σ Q) X.xe s := by
    intro l u e1 e2 hsl
    refine wpAny_getItem_str_slice (st := none) hsl rfl ?_
    subst e1 e2
    exact post_val_or_str ⟨Nat.le_trans (Txt.slice_le z _ _) hz, fun t' k => ⟨.str _, H, I.tok _, ⟨t', rfl⟩, q⟩⟩
  cases pl with
  | none =>
    cases pu with
    | none => exact fin none none rfl rfl hs
    | int j tj => exact fin none (some (j, tj)) rfl rfl hs
  | int i ti =>
    cases pu with
    | none => exact fin (some (i, ti)) none rfl rfl hs
    | int j tj => exact fin (some (i, ti)) (some (j, tj)) rfl rfl hs
theorem call_int_str : CallR X (.type "int") (fun xs H Q => ∃ (z : Str) (n : Int), xs = [.str z] ∧ PySem.intText? z = some n ∧ z.length ≤ 640 ∧ Q (.int n) H) := by
  intro pins s σ H xs us Q I r h
  obtain ⟨z, n, rfl, hn, hl, q⟩ := h
  obtain ⟨u, rfl, ru⟩ := r.one
  obtain ⟨t, rfl⟩ := ru
  exact PySem.W.KIN.call_text hn hl ⟨.int n, H, I.tok _, ⟨_, rfl⟩, q⟩
/-- xs.index(x) of flat items -/
def rIndex (K : PySem.W.Frag) : V → List V → Hp → VK → Prop := fun x vs H Q => ∃ (l : Addr) (xs : List V) (y : V) (j : Nat), x = .ref l ∧ vs = [y] ∧ SqL K H l xs ∧ flatV y = true ∧ xs.all flatV = true ∧ j < xs.length ∧ xs.length ≤ 1000 ∧
  (∀ z, xs[j]? = some z → eqV z y = true) ∧ (∀ i z, i < j → xs[i]? = some z → eqV z y = false) ∧ Q (.int (j : Int)) H
theorem vals_at {xs : List V} {us : List Value} (r : Vals xs us) : ∀ {i : Nat} {u : Value}, us[i]? = some u → ∃ x, xs[i]? = some x ∧ RelV x u := by
  induction r with
  | nil => intro i u h; simp at h
  | cons r t ih =>
    intro i u h
    cases i with
    | zero => exact ⟨_, rfl, by have := Option.some.inj h; rw [← this]; exact r⟩
    | succ i => exact ih (by simpa using h)
theorem mt_index (K : PySem.W.Frag) (hK : X.K = K := by rfl) : MtR X "list.index" (rIndex K) := by
  subst hK
  intro pins s σ H x vs v us Q I rx rv h
  obtain ⟨l, xs, y, j, rfl, rfl, hq, fy, fx, hj, hz, hit, hno, q⟩ := h
  cases rx
  obtain ⟨u, rfl, ru⟩ := rv.one
  obtain ⟨its, r, pl, _⟩ := I.list hq
  obtain ⟨⟨cls, dd, data, sl⟩, ho, hc, n, hd⟩ := id pl.isList
  simp only at hc hd
  subst hc hd
  have hlen := r.length
  have key : ∀ i (hi : i < its.toArray.size), ∃ z, xs[i]? = some z ∧ flatV z = true ∧ eqU y its.toArray[i] = eqV z y := fun i hi => by
    have hi' : i < its.length := by simpa using hi
    obtain ⟨z, e, rz⟩ := vals_at r (List.getElem?_eq_getElem hi')
    have fz := List.all_eq_true.mp fx z (List.mem_of_getElem? e)
    exact ⟨z, e, fz, eqU_of rz fz⟩
  refine call_meets PySem.F.slot_list_index ⟨_, ho, rfl⟩ PySem.F.entry_list_index (PySem.F.args_list_index_2 _ _)
    (PySem.SeqAt.list_indexAt l its.toArray n dd sl u (eqU y) j (by simpa [hlen] using hj) (by omega) ?_ ?_) ⟨ho, fun w hw => ?_, ⟨.int _, H, I.tok _, ⟨_, rfl⟩, q⟩⟩
  · obtain ⟨z, e, _, e2⟩ := key j (by simpa [hlen] using hj)
    rw [e2]; exact hit z e
  · intro i hi hlt
    obtain ⟨z, e, _, e2⟩ := key i hi
    rw [e2]; exact hno i z hlt e
  · obtain ⟨i, hi, e⟩ := List.mem_iff_getElem.mp (show w ∈ its by simpa using hw)
    obtain ⟨z, ez, rz⟩ := vals_at r (List.getElem?_eq_getElem hi)
    have fz := List.all_eq_true.mp fx z (List.mem_of_getElem? ez)
    rw [← e, eqU_of rz fz]
    exact eqAt_V rz ru fz fy
/-- isinstance(x, str) -/
def rIsS (K : PySem.W.Frag) : List V → Hp → VK → Prop := fun xs H Q => ∃ x t k, xs = [x, .ty "str"] ∧ TyOf K H x (.type t) ∧ (t == "str") = k ∧ Q (.bl k) H
theorem call_isS (K : PySem.W.Frag) (hK : X.K = K := by rfl) : CallR X (.builtin "isinstance") (rIsS K) := by
  subst hK
  intro pins s σ H xs us Q I r h
  obtain ⟨x, t, k0, rfl, ty, ek, q⟩ := h
  obtain ⟨u, v, rfl, ru, rv⟩ := r.two
  cases rv
  rw [← ek] at q
  have fin : ∀ {k : Bool}, (t == "str") = k → EP X pins σ Q (.bool k) s := fun e => ⟨.bl _, H, I, rfl, e ▸ q⟩
  have fin' : ∀ {k : Bool} {tk : Nat}, (t == "str") = k → EP X pins σ Q (.bool k) { s with toks := tk } := fun e => ⟨.bl _, H, I.tok _, rfl, e ▸ q⟩
  cases ty with
  | int i => obtain ⟨tk, rfl⟩ := ru; exact IsiPair.int_str (fin' rfl)
  | bl b => cases ru; exact IsiPair.bool_str (fin' rfl)
  | @lst a ys e =>
    cases ru
    obtain ⟨_, _, n, _, h1⟩ := (show ObjOk X.prog X.w H s.heap a (.lst ys) from I.hok a _ e)
    exact IsiPair.list_str h1 rfl (fin' rfl)
  | @frz a o ys e =>
    cases ru
    obtain ⟨_, _, _, n, _, h1⟩ := (show ObjOk X.prog X.w H s.heap a (.frz o (.lst ys)) from I.hok a _ e)
    exact IsiPair.list_str h1 rfl (fin' rfl)
  | non => cases ru; exact IsiPair.NoneType_str (fin' rfl)
  | str z => obtain ⟨tk, rfl⟩ := ru; exact IsiPair.str_str (fin rfl)
  | flt z => obtain ⟨tk, rfl⟩ := ru; exact IsiPair.float_str (fin' rfl)
  | @tup a ys e =>
    cases ru
    obtain ⟨_, _, _, pp⟩ := (show ObjOk X.prog X.w H s.heap a (.tup ys) from I.hok a _ e)
    obtain ⟨o, h1, h2, _⟩ := pp
    exact IsiPair.tuple_str h1 h2 (fin' rfl)
  | @dK a kvs e =>
    cases ru
    obtain ⟨_, _, vs, _, pp⟩ := (show ObjOk X.prog X.w H s.heap a (.dK kvs) from I.hok a _ e)
    obtain ⟨o, es, ep, h1, h2, _⟩ := pp
    exact IsiPair.dict_str h1 h2.1 (fin' rfl)
  | @dT a kvs e =>
    cases ru
    obtain ⟨_, _, xs, _, o, es, ep, h1, h2, _⟩ := (show ObjOk X.prog X.w H s.heap a (.dT kvs) from I.hok a _ e)
    exact IsiPair.dict_str h1 h2.1 (fin' rfl)
end
end L2
namespace L2
open PySem PySem.Spec PyProof.Rows
section
variable {X : Cx}
theorem op_inK (K : PySem.W.Frag) (h : X.K = K := by rfl) : OpR X (compareOp .In) (rIn K false) := by subst h; exact op_in_seq
theorem op_notInK (K : PySem.W.Frag) (h : X.K = K := by rfl) : OpR X (compareOp .NotIn) (rIn K true) := by subst h; exact op_notIn_seq
end
end L2

set_option Elab.async false
set_option linter.all false
set_option maxRecDepth 100000
namespace L2
open PySem PySem.Spec PyProof.Rows
/-! ## a def that is called while an exception is handled -/
structure RoomH (k : Nat) (A : Around) : Prop where
  dp : A.depth + 3 * k + 5 < recursionLimit
  un : A.units + 16 * k + 200 < cLine
structure FnOkH (P : Program) (w : World) (K : PySem.W.Frag) (mg : Str → Option Value) (base : Heap) (CX : CXT) (k : Nat) (f : Addr) (fd : FuncData) (ps : List Str) (sp : Sp) : Prop where
  len : ∀ vs H Q E, sp vs H Q E → vs.length = ps.length
  run : ∀ (A : Around) (outer : List Env) (s : Shared) (H : Hp) (args : Args) (us : List Value) (vs : List V) (Q : VK) (E : XK), RoomH k A → Env0 P w K mg base A outer s H → BindsTo s fd args (ps.zip us) → Vals vs us → sp vs H Q E →
    codeAny (model P w) A (.call (.ref f) args) (CR CX outer P w H s Q E) s
def cxOfH (CX : CXT) (P : Program) (w : World) (K : PySem.W.Frag) (mg : Str → Option Value) (base : Heap) (N : List Str) (qual : Str) (scope : Scope) (f : Addr) (cd : Value) (A : Around) (outer : List Env) (s : Shared) (H : Hp) (E : XK) : Cx :=
  { cxOf CX P w K mg base N qual scope f cd A outer s H E with calm := false }
section
variable {P : Program} {w : World} {K : PySem.W.Frag} {mg : Str → Option Value} {base : Heap}
end
section
variable {X : Cx} {CX : CXT} {k : Nat} {f C : Addr} {fd : FuncData} {ps : List Str} {sp : Sp} {dvs : List V} {ds : List Value} {E : XK} {x m : Str} {p pos apos : Pos} {e o : Expr} {es : List Expr} {ta : TE} {t : TA}
/-- xs.count(x) of flat items -/
def rCountF (K : PySem.W.Frag) : V → List V → Hp → VK → Prop := fun x vs H Q => ∃ (l : Addr) (xs : List V) (y : V), x = .ref l ∧ vs = [y] ∧ SqL K H l xs ∧ flatV y = true ∧ xs.all flatV = true ∧ Q (.int ((xs.countP (fun z => eqV z y) : Nat) : Int)) H
end
open PySem.W in
theorem kit_own2 {K : Frag} {C D : Addr} {b : Bool} (xD : excIn K D bmV "ValueError.__new__" = true) (hs : mroIn K C (.ref C) = some true) (h : mroIn K C (.ref D) = some b) : kitOne K (.ref C) (.ref D) = some b := by
  unfold kitOne
  split
  · rename_i e
    obtain rfl : C = D := Value.ref.inj (beq_iff_eq.mp e)
    rw [hs] at h; exact h
  · have q := xD
    unfold excIn at q
    split at q
    · rename_i e1 e2 e3 lk
      unfold kitCls
      have z1 : (clsIn K D).isSome = true := by unfold clsIn; rw [lk]; rfl
      have z2 : typeIn K (.ref D) = some (.type "type") := by show Option.map _ (K.lookup D) = _; rw [lk]; rfl
      simp only [z1, z2, beq_self_eq_true, Bool.and_self, if_true]
      exact h
    · cases q
end L2

set_option Elab.async false
set_option linter.all false
set_option maxRecDepth 100000
namespace L2
open PySem PySem.Spec PyProof.Rows
/-! ## for c in a text -/
def Its (z : Str) : It := ⟨fun i _ => i < z.length, fun i H x H' => H' = H ∧ ∃ c, z.cps[i]? = some c ∧ x = .str ⟨#[c]⟩, fun i _ => z.length ≤ i⟩
theorem turn_str {P : Program} {w : World} {K : PySem.W.Frag} {tg : Expr} (z : Str) (t : Tok) (it : Addr) (ty : String) (hty : ty = "str_ascii_iterator" ∨ ty = "str_iterator") : Turn P w K tg (Its z) [it] it (fun i h => h.IsStrIter it ty z t i) where
  mem := by simp
  obj := fun i h st b hb => by
    have e : b = it := by simpa using hb
    subst e
    obtain ⟨o, e, c, d⟩ := st
    exact ⟨o, e, fun v q => by rw [d] at q; cases q⟩
  keep := fun i h h' st k => let ⟨o, e, c, d⟩ := st; ⟨o, k it (by simp) o e, c, d⟩
  item := by
    intro X hP hw hK hc i pins s σ H E I hf st hg
    subst hP hw hK
    have hg' : i < z.cps.size := hg
    have hx : z.cps[i]? = some z.cps[i] := Array.getElem?_eq_getElem hg'
    obtain ⟨f0, f1, f2, f3, f4, f5⟩ := hf it (by simp)
    have fin : ∀ h' : Heap, h'.IsStrIter it ty z t (i + 1) → Heap.SameBut it s.heap h' → ∃ u, some (Value.str ⟨#[z.cps[i]]⟩ s.toks) = some u ∧
        wpAny (model X.prog X.w) X.A (letOwnedTupleGo tg (.ref it) u) (fun _ s2 => ∃ x H', Inv X pins σ H' s2 ∧ RelV x u ∧ (Its z).yld i H x H' ∧ s2.heap.IsStrIter it ty z t (i + 1) ∧ ∀ b ∈ [it], H' b = none) E { s with heap := h', toks := s.toks + 1 } := fun h' st' sb => by
      have I1 : Inv X pins σ H { s with heap := h', toks := s.toks + 1 } := I.turned (t' := s.toks + 1) (fun b o hb e => (sb.2 b hb).trans e) f0 f1 f3 f4 f5
      obtain ⟨o, e, c, d⟩ := id st'
      exact ⟨_, rfl, go_of (s := { s with heap := h', toks := s.toks + 1 }) e c d (by rcases hty with rfl | rfl <;> decide) ⟨.str ⟨#[z.cps[i]]⟩, H, I1, ⟨_, rfl⟩, ⟨rfl, _, hx, rfl⟩, st', fun b hb => (hf b hb).1⟩⟩
    rcases hty with rfl | rfl
    · exact wpAny_pyNext_ascii_item st hx fin
    · exact wpAny_pyNext_wide_item st hx fin
  done := by
    intro X hP hw hK hc i pins s σ H E I hf st hg
    subst hP hw hK
    have hg' : z.cps.size ≤ i := hg
    obtain ⟨f0, f1, f2, f3, f4, f5⟩ := hf it (by simp)
    rcases hty with rfl | rfl
    · exact wpAny_pyNext_ascii_end (I.ok.hd hc) st (Array.getElem?_eq_none hg') fun h' eb => ⟨rfl, I.turned (t' := s.toks) (fun b o hb e => eb b o hb e) f0 f1 f3 f4 f5⟩
    · exact wpAny_pyNext_wide_end (I.ok.hd hc) st (Array.getElem?_eq_none hg') fun h' eb => ⟨rfl, I.turned (t' := s.toks) (fun b o hb e => eb b o hb e) f0 f1 f3 f4 f5⟩
  self := fun _ _ _ _ _ st h => by
    rcases hty with rfl | rfl
    · exact wpAny_pyIter_striter_ascii st h
    · exact wpAny_pyIter_striter_wide st h
section
variable {X : Cx} {tg : Expr}
def iStr (tl : TE) : TI := fun σ H R => tl σ H fun x H1 => ∃ z : Str, x = .str z ∧ R (Its z) H1
theorem pi_str {l : Expr} {tl : TE} (hl : PE X l tl) : PI X tg l (iStr tl) := by
  intro pins s σ H R I h
  refine thn (hl pins s σ H _ I h) fun v s1 ⟨x, H1, I1, r1, q1⟩ => ?_
  obtain ⟨z, e, q⟩ := q1
  subst e
  obtain ⟨t, rfl⟩ := r1
  refine wpAny_pyIter_strU ?_
  have hty : strIterType z = "str_ascii_iterator" ∨ strIterType z = "str_iterator" := by
    unfold strIterType
    split
    · exact .inl rfl
    · exact .inr rfl
  refine ⟨s1.heap.objs.size, [s1.heap.objs.size], _, _, H1, rfl, I1.kept (t' := s1.toks) fun b o e => Heap.get?_push_of_some _ e, turn_str z t _ _ hty, ⟨_, Heap.get?_push_size _ rfl, rfl, rfl⟩, fun b hb => ?_, q⟩
  have e : b = s1.heap.objs.size := by simpa using hb
  subst e
  exact I1.fpOk (Nat.le_refl _) (I1.hok.fresh (Nat.le_refl _))
/-- over a text -/
theorem for_str {z : Str} {g : TG} {tb : TS} {D : Ends} {σ : St} {H : Hp} (Pv : Nat → St → Hp → Prop) (h0 : Pv 0 σ H)
    (hs : ∀ i c σ H, z.cps[i]? = some c → Pv i σ H → g (.str ⟨#[c]⟩) σ H fun σ2 H2 => tb { D with nx := Pv (i + 1), ct := Pv (i + 1), bk := D.nx } σ2 H2) (hd : ∀ σ H, Pv z.length σ H → D.nx σ H) :
    ∃ W : Nat → Nat → St → Hp → Prop, (∃ m, W 0 m σ H) ∧ ∀ i m σ H, W i m σ H →
      ((Its z).stop i H ∧ D.nx σ H) ∨ ((Its z).go i H ∧ ∃ N : St → Hp → Prop, (∀ σ' H', N σ' H' → ∃ m', m' < m ∧ W (i + 1) m' σ' H') ∧ ∀ x H', (Its z).yld i H x H' → g x σ H' fun σ2 H2 => tb { D with nx := N, ct := N, bk := D.nx } σ2 H2) := by
  refine ⟨fun i m σ H => m = z.length - i ∧ i ≤ z.length ∧ Pv i σ H, ⟨z.length, by simp, Nat.zero_le _, h0⟩, ?_⟩
  rintro i m σ H ⟨rfl, hi, p⟩
  by_cases hlt : i < z.length
  · refine .inr ⟨hlt, Pv (i + 1), fun σ' H' p' => ⟨z.length - (i + 1), by omega, rfl, hlt, p'⟩, fun x H' y => ?_⟩
    obtain ⟨e, c, hc, rfl⟩ := y
    subst e
    exact hs i c σ _ hc p
  · have e : i = z.length := by omega
    subst e
    exact .inl ⟨Nat.le_refl _, hd σ H p⟩
/-- a text times an int -/
theorem op_rep_str : OpR X (binaryOp .Mult) (fun x y H Q => ∃ (z : Str) (k : Int), x = .str z ∧ y = .int k ∧ 1 < k ∧ k < 100000 ∧ 0 < z.length ∧ z.length < 100 ∧ Q (.str (Txt.mul z k)) H) := by
  intro pins s σ H x y v u Q I rx ry h
  obtain ⟨z, k, rfl, rfl, k1, k2, z0, z1, q⟩ := h
  obtain ⟨t, rfl⟩ := rx
  obtain ⟨t', rfl⟩ := ry
  refine SB.mul ⟨?_, fun _ _ => ?_, fun _ _ => ?_⟩ fun t' k' => ⟨.str _, H, I.tok _, ⟨t', rfl⟩, q⟩
  · rw [decide_eq_false (by omega), decide_eq_false (by omega)]; rfl
  · have e : (2 ^ 63 - 1 : Int) / k ≥ 100 := by
      refine (Int.le_ediv_iff_mul_le (by omega)).mpr ?_
      omega
    omega
  · have e : z.length * k.toNat ≤ 100 * 100000 := Nat.mul_le_mul (by omega) (by omega)
    unfold Builtin.Str.tooLong sizeLine
    exact decide_eq_false (by omega)
/-- equal lists of flat items -/
theorem eqV_self {x : V} (h : flatV x = true) : eqV x x = true := by
  cases x with
  | non => rfl
  | bl b => show (b == b) = true; exact beq_self_eq_true b
  | int i => show (i == i) = true; exact beq_self_eq_true i
  | str z => show (z == z) = true; exact beq_self_eq_true z
  | _ => exact absurd (show false = true from h) Bool.false_ne_true
theorem op_eqSame (K : PySem.W.Frag) (hu : X.A.units < cLine) (hK : X.K = K := by rfl) : OpR X (compareOp .Eq) (fun x y H Q => ∃ (p q : Addr) (xs : List V), x = .ref p ∧ y = .ref q ∧ SqL K H p xs ∧ SqL K H q xs ∧ xs.all flatV = true ∧ Q (.bl true) H) := by
  subst hK
  intro pins s σ H x y v u Q I rx ry h
  obtain ⟨p, q, xs, rfl, rfl, h1, h2, hf, hq⟩ := h
  cases rx
  cases ry
  obtain ⟨its, r1, p1, _⟩ := I.list h1
  obtain ⟨its2, r2, p2, _⟩ := I.list h2
  have l1 := r1.length
  have l2 := r2.length
  refine SeqAt.eq_listAt (e := fun _ => true) p1.isList p2.isList (by rw [List.size_toArray, List.size_toArray, ← l1, ← l2]) hu (fun j a b => ?_) ?_
  · have ha : j < its.length := by simpa using a
    have hb : j < its2.length := by simpa using b
    obtain ⟨x1, e1, v1⟩ := vals_at r1 (List.getElem?_eq_getElem ha)
    obtain ⟨x2, e2, v2⟩ := vals_at r2 (List.getElem?_eq_getElem hb)
    rw [e1] at e2
    cases e2
    have fx := List.all_eq_true.mp hf x1 (List.mem_of_getElem? e1)
    have z := eqAt_V (A := X.A.in1) (s := s) v1 v2 fx fx
    rw [eqV_self fx] at z
    simpa using z
  · have e : ((List.range its.toArray.size).all fun _ => true) = true := List.all_eq_true.mpr fun _ _ => rfl
    rw [e]
    exact ⟨.bl true, H, I, rfl, hq⟩
end
end L2

set_option Elab.async false
set_option linter.all false
set_option maxRecDepth 100000
namespace Wv
open PySem Builtin.Str
/-! ## texts by their signs -/
abbrev cl (x : Str) : List Nat := x.cps.toList
theorem ext_cl {x y : Str} (h : cl x = cl y) : x = y := Str.ext' (Array.toList_inj.mp h)
theorem cl_app (x y : Str) : cl (x ++ y) = cl x ++ cl y := by
  show (x ++ y).cps.toList = _
  rw [Str.cps_append, Array.toList_append]
theorem cl_len (x : Str) : (cl x).length = x.length := by simp [Str.length]
theorem slice_gen (z : Str) (lo hi : Option Int) {a b : Nat} (hab : a ≤ b) (hb : b ≤ z.length) (e : strSliceIndices lo hi 1 z.length = strSliceIndices (some (a : Int)) (some (b : Int)) 1 z.length) :
    cl (Txt.slice z lo hi) = ((cl z).drop a).take (b - a) := by
  unfold Txt.slice
  rw [e]
  split
  · rename_i h
    rw [StrLaws.strSliceIndices_plain hab hb] at h
    simp only [List.length_map, List.length_range, beq_self_eq_true, Bool.true_and, beq_iff_eq] at h
    have ha : a = 0 := by omega
    have hb' : b = z.length := by omega
    subst ha hb'
    rw [List.drop_zero, Nat.sub_zero, List.take_of_length_le (by rw [cl_len]; exact Nat.le_refl _)]
  · show (List.toArray _).toList = _
    rw [StrLaws.sliced_plain z hab hb]
theorem slice_take (z : Str) (k : Nat) : cl (Txt.slice z none (some (k : Int))) = (cl z).take k := by
  have e : strSliceIndices none (some (k : Int)) 1 z.length = strSliceIndices (some ((0 : Nat) : Int)) (some ((min k z.length : Nat) : Int)) 1 z.length := by
    simp only [strSliceIndices, show ((1 : Int) > 0) = True from by simp, if_true]
    congr 1
    have h1 : ¬ ((k : Int) < 0) := by omega
    have h2 : ¬ (((min k z.length : Nat) : Int) < 0) := by omega
    simp only [h1, h2, if_false]
    omega
  rw [slice_gen z none (some (k : Int)) (Nat.zero_le _) (Nat.min_le_right _ _) e, List.drop_zero, Nat.sub_zero]
  by_cases h : k ≤ z.length
  · rw [Nat.min_eq_left h]
  · rw [Nat.min_eq_right (by omega), List.take_of_length_le (by rw [cl_len]; exact Nat.le_refl _), List.take_of_length_le (by rw [cl_len]; omega)]
theorem slice_drop (z : Str) (k : Nat) : cl (Txt.slice z (some (k : Int)) none) = (cl z).drop k := by
  have e : strSliceIndices (some (k : Int)) none 1 z.length = strSliceIndices (some ((min k z.length : Nat) : Int)) (some ((z.length : Nat) : Int)) 1 z.length := by
    simp only [strSliceIndices, show ((1 : Int) > 0) = True from by simp, if_true]
    congr 1
    · have h1 : ¬ ((k : Int) < 0) := by omega
      have h2 : ¬ (((min k z.length : Nat) : Int) < 0) := by omega
      simp only [h1, h2, if_false]
      omega
    · have h2 : ¬ (((z.length : Nat) : Int) < 0) := by omega
      simp only [h2, if_false]
      omega
  rw [slice_gen z (some (k : Int)) none (Nat.min_le_right _ _) (Nat.le_refl _) e]
  by_cases h : k ≤ z.length
  · rw [Nat.min_eq_left h, List.take_of_length_le (by rw [List.length_drop, cl_len]; exact Nat.le_refl _)]
  · rw [Nat.min_eq_right (by omega), List.drop_of_length_le (by rw [cl_len]; exact Nat.le_refl _), List.drop_of_length_le (by rw [cl_len]; omega)]
    simp
/-! ## joined by one sign -/
def jn (c : Nat) : List (List Nat) → List Nat
  | [] => []
  | [x] => x
  | x :: r => x ++ c :: jn c r
theorem jn_cons (c : Nat) (x y : List Nat) (r : List (List Nat)) : jn c (x :: y :: r) = x ++ c :: jn c (y :: r) := rfl
theorem cl_join (c : Nat) : ∀ ps : List Str, cl (Str.join ⟨#[c]⟩ ps) = jn c (ps.map cl)
  | [] => rfl
  | [x] => rfl
  | x :: y :: r => by
    show cl (x ++ ⟨#[c]⟩ ++ Str.join ⟨#[c]⟩ (y :: r)) = _
    rw [cl_app, cl_app, cl_join c (y :: r)]
    show (cl x ++ [c]) ++ _ = cl x ++ c :: _
    simp
theorem cl_join0 : ∀ ps : List Str, cl (Str.join ⟨#[]⟩ ps) = (ps.map cl).flatten
  | [] => rfl
  | [x] => by show cl x = _; simp
  | x :: y :: r => by
    show cl (x ++ ⟨#[]⟩ ++ Str.join ⟨#[]⟩ (y :: r)) = _
    rw [cl_app, cl_app, cl_join0 (y :: r)]
    show (cl x ++ []) ++ _ = _
    simp
theorem cut_eq {c : Nat} : ∀ {x y s t : List Nat}, c ∉ x → c ∉ y → x ++ c :: s = y ++ c :: t → x = y ∧ s = t
  | [], [], s, t, _, _, h => by cases h; exact ⟨rfl, rfl⟩
  | [], b :: y, s, t, _, hy, h => by
    have : c = b := (List.cons.inj h).1
    exact absurd (this ▸ List.mem_cons_self) hy
  | a :: x, [], s, t, hx, _, h => by
    have : a = c := (List.cons.inj h).1
    exact absurd (this ▸ List.mem_cons_self) hx
  | a :: x, b :: y, s, t, hx, hy, h => by
    obtain ⟨h1, h2⟩ := List.cons.inj h
    obtain ⟨e1, e2⟩ := cut_eq (fun z => hx (List.mem_cons_of_mem _ z)) (fun z => hy (List.mem_cons_of_mem _ z)) h2
    exact ⟨by rw [h1, e1], e2⟩
theorem jn_inj {c : Nat} : ∀ {ps qs : List (List Nat)}, (∀ p ∈ ps, c ∉ p) → (∀ q ∈ qs, c ∉ q) → ps ≠ [] → qs ≠ [] → jn c ps = jn c qs → ps = qs
  | [], _, _, _, h, _, _ => absurd rfl h
  | _, [], _, _, _, h, _ => absurd rfl h
  | [x], [y], _, _, _, _, h => by have h' : x = y := h; rw [h']
  | [x], y :: y' :: r, hp, _, _, _, h => by
    have h' : x = y ++ c :: jn c (y' :: r) := h
    exact absurd (h' ▸ List.mem_append_right _ List.mem_cons_self) (hp x List.mem_cons_self)
  | x :: x' :: r, [y], _, hq, _, _, h => by
    have h' : x ++ c :: jn c (x' :: r) = y := h
    exact absurd (h' ▸ List.mem_append_right _ List.mem_cons_self) (hq y List.mem_cons_self)
  | x :: x' :: r, y :: y' :: s, hp, hq, _, _, h => by
    obtain ⟨e1, e2⟩ := cut_eq (hp x List.mem_cons_self) (hq y List.mem_cons_self) (show x ++ c :: jn c (x' :: r) = y ++ c :: jn c (y' :: s) from h)
    have := jn_inj (fun p h => hp p (List.mem_cons_of_mem _ h)) (fun q h => hq q (List.mem_cons_of_mem _ h)) (by simp) (by simp) e2
    rw [e1, this]
theorem map_cl_inj : ∀ {ps qs : List Str}, ps.map cl = qs.map cl → ps = qs
  | [], [], _ => rfl
  | [], _ :: _, h => by simp at h
  | _ :: _, [], h => by simp at h
  | p :: r, q :: s, h => by
    simp only [List.map_cons, List.cons.injEq] at h
    rw [ext_cl h.1, map_cl_inj h.2]
theorem split_ne (x : Str) (c : Nat) : Txt.split x ⟨#[c]⟩ ≠ [] := by
  unfold Txt.split
  split
  · simp
  · split
    · simp
    · rw [StrLaws.partsBetween_eq]
      obtain ⟨p, r, e⟩ := StrLaws.partsFrom_ne x (⟨#[c]⟩ : Str).length 0 (occurrences x ⟨#[c]⟩ 0 x.length (x.length + 1))
      rw [e]; simp
/-- split is what joins again, without the sign -/
theorem split_is {x : Str} {c : Nat} {ps : List Str} (hne : ps ≠ []) (hf : ∀ p ∈ ps, c ∉ cl p) (hj : cl x = jn c (ps.map cl)) : Txt.split x ⟨#[c]⟩ = ps := by
  refine map_cl_inj (jn_inj (c := c) ?_ ?_ ?_ ?_ ?_)
  · intro p hp
    obtain ⟨q, hq, rfl⟩ := List.mem_map.mp hp
    exact StrLaws.split_free x c q hq
  · intro p hp
    obtain ⟨q, hq, rfl⟩ := List.mem_map.mp hp
    exact hf q hq
  · intro h
    exact split_ne x c (List.map_eq_nil_iff.mp h)
  · intro h
    exact hne (List.map_eq_nil_iff.mp h)
  · rw [← cl_join, StrLaws.join_split, hj]
theorem split_back (x : Str) (c : Nat) : cl x = jn c ((Txt.split x ⟨#[c]⟩).map cl) := by rw [← cl_join, StrLaws.join_split]
/-! ## how groups are written -/
def gtx (g : Int) : Str := if g = 0 then "-" else Str.join "" ((ins 5 g).map fun m => Str.ofString (toString m))
def wtx (n : Nat) (tb : List Bool) : Str := Str.ofString (toString (n : Int)) ++ ":" ++ Str.join "" ((leastBy (fun g m => g - 1 * 2 ^ m.toNat) n tb).map fun g => " " ++ gtx g)
def lword (n : Nat) (g : Int) : Str := Str.join "" (((up n).filter (hasB g)).map fun m => Str.ofString (toString m))
theorem gtx_facts : ∀ g : Fin 32, 32 ∉ cl (gtx (g.val : Int)) ∧ (gtx (g.val : Int)).length ≤ 5 ∧ 1 ≤ (gtx (g.val : Int)).length := by decide +kernel
theorem fig_facts : ∀ n : Fin 6, 1 ≤ n.val → cl (Str.ofString (toString (n.val : Int))) = [48 + n.val] := by decide +kernel
end Wv

set_option Elab.async false
set_option linter.all false
set_option maxRecDepth 100000
set_option maxHeartbeats 4000000

namespace Wv
open PySem L2
def top (i : Nat) : Stmt := PySem.Challenge.pw_weighvote_k07_texts_misread.main.body.getD i (.Pass ⟨0, 0, 0, 0⟩)
abbrev s_wall : Stmt := top 0
abbrev s_is_whole : Stmt := top 11
abbrev s_everybody : Stmt := top 12
abbrev s_is_group : Stmt := top 13
abbrev s_groups_of : Stmt := top 14
abbrev s_has : Stmt := top 15
abbrev s_members_of : Stmt := top 16
abbrev s_within : Stmt := top 17
abbrev s_Council_init : Stmt := inClass (top 19) 0
abbrev s_Council_carries : Stmt := inClass (top 19) 1
abbrev s_Council_least : Stmt := inClass (top 19) 2
abbrev s_Council_is_least : Stmt := inClass (top 19) 4
abbrev s_refuse_bad_council : Stmt := top 20
abbrev s_has_one_within : Stmt := top 21
abbrev s_written : Stmt := top 24
abbrev s_group_text : Stmt := top 25
abbrev s_read : Stmt := top 26
abbrev s_members_read : Stmt := top 27
abbrev s_groups_read : Stmt := top 28
abbrev s_law_cell_at : Stmt := top 30
abbrev s_law_draw : Stmt := top 31
abbrev s_law_told : Stmt := top 32
abbrev s_law_table : Stmt := top 33
abbrev s_law_refused : Stmt := top 35
abbrev s_law_group_in : Stmt := top 36
abbrev s_law_in : Stmt := top 37
abbrev s_law_right : Stmt := top 38
abbrev s_law_other : Stmt := top 39
abbrev s_law : Stmt := top 40
/-- the addresses that the text names -/
structure Adr where
  C_Council : Addr
  C_CouncilError : Addr
  C_BadText : Addr
  C_BadCouncil : Addr
  C_BadGroup : Addr
  C_NoMember : Addr
  C_Unlike : Addr
  C_BadWeights : Addr
  a_wall : Addr
  d_wall : FuncData
  a_is_whole : Addr
  d_is_whole : FuncData
  a_everybody : Addr
  d_everybody : FuncData
  a_is_group : Addr
  d_is_group : FuncData
  a_groups_of : Addr
  d_groups_of : FuncData
  a_has : Addr
  d_has : FuncData
  a_members_of : Addr
  d_members_of : FuncData
  a_within : Addr
  d_within : FuncData
  a_Council_init : Addr
  d_Council_init : FuncData
  a_Council_carries : Addr
  d_Council_carries : FuncData
  a_Council_least : Addr
  d_Council_least : FuncData
  a_Council_is_least : Addr
  d_Council_is_least : FuncData
  a_refuse_bad_council : Addr
  d_refuse_bad_council : FuncData
  a_has_one_within : Addr
  d_has_one_within : FuncData
  a_written : Addr
  d_written : FuncData
  a_group_text : Addr
  d_group_text : FuncData
  a_read : Addr
  d_read : FuncData
  a_members_read : Addr
  d_members_read : FuncData
  a_groups_read : Addr
  d_groups_read : FuncData
  a_law_cell_at : Addr
  d_law_cell_at : FuncData
  a_law_draw : Addr
  d_law_draw : FuncData
  a_law_told : Addr
  d_law_told : FuncData
  a_law_table : Addr
  d_law_table : FuncData
  a_law_refused : Addr
  d_law_refused : FuncData
  a_law_group_in : Addr
  d_law_group_in : FuncData
  a_law_in : Addr
  d_law_in : FuncData
  a_law_right : Addr
  d_law_right : FuncData
  a_law_other : Addr
  d_law_other : FuncData
  a_law : Addr
  d_law : FuncData
  t_MOST_MEMBERS : Tok
  t_NOBODY : Tok
structure Txt (K : PySem.W.Frag) (mg : Str → Option Value) (a : Adr) : Prop where
  cl_Council : Cls K a.C_Council
  m_Council : mg "Council" = some (.ref a.C_Council)
  mk_Council : Mk K a.C_Council a.a_Council_init
  m_CouncilError : mg "CouncilError" = some (.ref a.C_CouncilError)
  x_CouncilError : XCls K a.C_CouncilError
  m_BadText : mg "BadText" = some (.ref a.C_BadText)
  x_BadText : XCls K a.C_BadText
  m_BadCouncil : mg "BadCouncil" = some (.ref a.C_BadCouncil)
  m_BadGroup : mg "BadGroup" = some (.ref a.C_BadGroup)
  m_NoMember : mg "NoMember" = some (.ref a.C_NoMember)
  m_Unlike : mg "Unlike" = some (.ref a.C_Unlike)
  m_BadWeights : mg "BadWeights" = some (.ref a.C_BadWeights)
  ki_BadText_BadCouncil : PySem.W.kitOne K (.ref a.C_BadText) (.ref a.C_BadCouncil) = some false
  ki_BadText_BadGroup : PySem.W.kitOne K (.ref a.C_BadText) (.ref a.C_BadGroup) = some false
  ki_BadText_NoMember : PySem.W.kitOne K (.ref a.C_BadText) (.ref a.C_NoMember) = some false
  ki_BadText_BadWeights : PySem.W.kitOne K (.ref a.C_BadText) (.ref a.C_BadWeights) = some false
  ki_BadText_Unlike : PySem.W.kitOne K (.ref a.C_BadText) (.ref a.C_Unlike) = some false
  ki_BadText_BadText : PySem.W.kitOne K (.ref a.C_BadText) (.ref a.C_BadText) = some true
  ki_BadText_ValueError : PySem.W.kitOne K (.ref a.C_BadText) (.type "ValueError") = some true
  su_BadText_CouncilError : PySem.W.mroIn K a.C_BadText (.ref a.C_CouncilError) = some true
  n_Council_members : NoAttr K a.C_Council "members"
  n_Council_table : NoAttr K a.C_Council "table"
  F_wall : Fun K "_wall" "_wall" s_wall a.a_wall a.d_wall
  m_wall : mg "_wall" = some (.ref a.a_wall)
  F_is_whole : Fun K "is_whole" "is_whole" s_is_whole a.a_is_whole a.d_is_whole
  m_is_whole : mg "is_whole" = some (.ref a.a_is_whole)
  F_everybody : Fun K "everybody" "everybody" s_everybody a.a_everybody a.d_everybody
  m_everybody : mg "everybody" = some (.ref a.a_everybody)
  F_is_group : Fun K "is_group" "is_group" s_is_group a.a_is_group a.d_is_group
  m_is_group : mg "is_group" = some (.ref a.a_is_group)
  F_groups_of : Fun K "groups_of" "groups_of" s_groups_of a.a_groups_of a.d_groups_of
  m_groups_of : mg "groups_of" = some (.ref a.a_groups_of)
  F_has : Fun K "has" "has" s_has a.a_has a.d_has
  m_has : mg "has" = some (.ref a.a_has)
  F_members_of : Fun K "members_of" "members_of" s_members_of a.a_members_of a.d_members_of
  m_members_of : mg "members_of" = some (.ref a.a_members_of)
  F_within : Fun K "within" "within" s_within a.a_within a.d_within
  m_within : mg "within" = some (.ref a.a_within)
  F_Council_init : Fun K "__init__" "Council.__init__" s_Council_init a.a_Council_init a.d_Council_init
  F_Council_carries : Fun K "carries" "Council.carries" s_Council_carries a.a_Council_carries a.d_Council_carries
  mt_Council_carries : Meth K a.C_Council "carries" a.a_Council_carries
  F_Council_least : Fun K "least" "Council.least" s_Council_least a.a_Council_least a.d_Council_least
  mt_Council_least : Meth K a.C_Council "least" a.a_Council_least
  F_Council_is_least : Fun K "is_least" "Council.is_least" s_Council_is_least a.a_Council_is_least a.d_Council_is_least
  mt_Council_is_least : Meth K a.C_Council "is_least" a.a_Council_is_least
  F_refuse_bad_council : Fun K "refuse_bad_council" "refuse_bad_council" s_refuse_bad_council a.a_refuse_bad_council a.d_refuse_bad_council
  m_refuse_bad_council : mg "refuse_bad_council" = some (.ref a.a_refuse_bad_council)
  F_has_one_within : Fun K "has_one_within" "has_one_within" s_has_one_within a.a_has_one_within a.d_has_one_within
  m_has_one_within : mg "has_one_within" = some (.ref a.a_has_one_within)
  F_written : Fun K "written" "written" s_written a.a_written a.d_written
  m_written : mg "written" = some (.ref a.a_written)
  F_group_text : Fun K "group_text" "group_text" s_group_text a.a_group_text a.d_group_text
  m_group_text : mg "group_text" = some (.ref a.a_group_text)
  F_read : Fun K "read" "read" s_read a.a_read a.d_read
  m_read : mg "read" = some (.ref a.a_read)
  F_members_read : Fun K "members_read" "members_read" s_members_read a.a_members_read a.d_members_read
  m_members_read : mg "members_read" = some (.ref a.a_members_read)
  F_groups_read : Fun K "groups_read" "groups_read" s_groups_read a.a_groups_read a.d_groups_read
  m_groups_read : mg "groups_read" = some (.ref a.a_groups_read)
  F_law_cell_at : Fun K "_law_cell_at" "_law_cell_at" s_law_cell_at a.a_law_cell_at a.d_law_cell_at
  m_law_cell_at : mg "_law_cell_at" = some (.ref a.a_law_cell_at)
  F_law_draw : Fun K "_law_draw" "_law_draw" s_law_draw a.a_law_draw a.d_law_draw
  m_law_draw : mg "_law_draw" = some (.ref a.a_law_draw)
  F_law_told : Fun K "_law_told" "_law_told" s_law_told a.a_law_told a.d_law_told
  m_law_told : mg "_law_told" = some (.ref a.a_law_told)
  F_law_table : Fun K "_law_table" "_law_table" s_law_table a.a_law_table a.d_law_table
  m_law_table : mg "_law_table" = some (.ref a.a_law_table)
  F_law_refused : Fun K "_law_refused" "_law_refused" s_law_refused a.a_law_refused a.d_law_refused
  m_law_refused : mg "_law_refused" = some (.ref a.a_law_refused)
  F_law_group_in : Fun K "_law_group_in" "_law_group_in" s_law_group_in a.a_law_group_in a.d_law_group_in
  m_law_group_in : mg "_law_group_in" = some (.ref a.a_law_group_in)
  F_law_in : Fun K "_law_in" "_law_in" s_law_in a.a_law_in a.d_law_in
  m_law_in : mg "_law_in" = some (.ref a.a_law_in)
  F_law_right : Fun K "_law_right" "_law_right" s_law_right a.a_law_right a.d_law_right
  m_law_right : mg "_law_right" = some (.ref a.a_law_right)
  F_law_other : Fun K "_law_other" "_law_other" s_law_other a.a_law_other a.d_law_other
  m_law_other : mg "_law_other" = some (.ref a.a_law_other)
  F_law : Fun K "law" "law" s_law a.a_law a.d_law
  m_law : mg "law" = some (.ref a.a_law)
  g_MOST_MEMBERS : mg "MOST_MEMBERS" = some (.int 5 a.t_MOST_MEMBERS)
  g_NOBODY : mg "NOBODY" = some (.str "-" a.t_NOBODY)
  z_ValueError : mg "ValueError" = none
  z_all : mg "all" = none
  z_any : mg "any" = none
  z_bool : mg "bool" = none
  z_int : mg "int" = none
  z_isinstance : mg "isinstance" = none
  z_len : mg "len" = none
  z_list : mg "list" = none
  z_range : mg "range" = none
  z_str : mg "str" = none
  z_sum : mg "sum" = none
  z_tuple : mg "tuple" = none
theorem sc_is_whole : FnScope ["value", "most"] ["value", "most"] (defScope s_is_whole) := ⟨rfl, rfl, rfl, by decide +kernel, rfl, by decide +kernel, by decide +kernel⟩
theorem b_is_whole {K : PySem.W.Frag} {mg : Str → Option Value} {a : Adr} (T : Txt K mg a) : Binds K a.d_is_whole ["value", "most"] [] := T.F_is_whole.binds fun _ _ _ _ _ _ us hl => match us, hl with | [_, _], _ => rfl
theorem sc_everybody : FnScope ["members"] ["members"] (defScope s_everybody) := ⟨rfl, rfl, rfl, by decide +kernel, rfl, by decide +kernel, by decide +kernel⟩
theorem b_everybody {K : PySem.W.Frag} {mg : Str → Option Value} {a : Adr} (T : Txt K mg a) : Binds K a.d_everybody ["members"] [] := T.F_everybody.binds fun _ _ _ _ _ _ us hl => match us, hl with | [_], _ => rfl
theorem sc_is_group : FnScope ["value", "members"] ["value", "members"] (defScope s_is_group) := ⟨rfl, rfl, rfl, by decide +kernel, rfl, by decide +kernel, by decide +kernel⟩
theorem b_is_group {K : PySem.W.Frag} {mg : Str → Option Value} {a : Adr} (T : Txt K mg a) : Binds K a.d_is_group ["value", "members"] [] := T.F_is_group.binds fun _ _ _ _ _ _ us hl => match us, hl with | [_, _], _ => rfl
theorem sc_groups_of : FnScope ["members"] ["members"] (defScope s_groups_of) := ⟨rfl, rfl, rfl, by decide +kernel, rfl, by decide +kernel, by decide +kernel⟩
theorem b_groups_of {K : PySem.W.Frag} {mg : Str → Option Value} {a : Adr} (T : Txt K mg a) : Binds K a.d_groups_of ["members"] [] := T.F_groups_of.binds fun _ _ _ _ _ _ us hl => match us, hl with | [_], _ => rfl
theorem sc_has : FnScope ["group", "member"] ["group", "member"] (defScope s_has) := ⟨rfl, rfl, rfl, by decide +kernel, rfl, by decide +kernel, by decide +kernel⟩
theorem b_has {K : PySem.W.Frag} {mg : Str → Option Value} {a : Adr} (T : Txt K mg a) : Binds K a.d_has ["group", "member"] [] := T.F_has.binds fun _ _ _ _ _ _ us hl => match us, hl with | [_, _], _ => rfl
theorem sc_members_of : FnScope ["group"] ["group"] (defScope s_members_of) := ⟨rfl, rfl, rfl, by decide +kernel, rfl, by decide +kernel, by decide +kernel⟩
theorem b_members_of {K : PySem.W.Frag} {mg : Str → Option Value} {a : Adr} (T : Txt K mg a) : Binds K a.d_members_of ["group"] [] := T.F_members_of.binds fun _ _ _ _ _ _ us hl => match us, hl with | [_], _ => rfl
theorem sc_within : FnScope ["small", "large"] ["small", "large"] (defScope s_within) := ⟨rfl, rfl, rfl, by decide +kernel, rfl, by decide +kernel, by decide +kernel⟩
theorem b_within {K : PySem.W.Frag} {mg : Str → Option Value} {a : Adr} (T : Txt K mg a) : Binds K a.d_within ["small", "large"] [] := T.F_within.binds fun _ _ _ _ _ _ us hl => match us, hl with | [_, _], _ => rfl
theorem sc_Council_init : FnScope ["self", "members", "groups"] ["self", "members", "groups"] (defScope s_Council_init) := ⟨rfl, rfl, rfl, by decide +kernel, rfl, by decide +kernel, by decide +kernel⟩
theorem b_Council_init {K : PySem.W.Frag} {mg : Str → Option Value} {a : Adr} (T : Txt K mg a) : Binds K a.d_Council_init ["self", "members", "groups"] [] := T.F_Council_init.binds fun _ _ _ _ _ _ us hl => match us, hl with | [_, _, _], _ => rfl
theorem sc_Council_carries : FnScope ["self", "group"] ["self", "group"] (defScope s_Council_carries) := ⟨rfl, rfl, rfl, by decide +kernel, rfl, by decide +kernel, by decide +kernel⟩
theorem b_Council_carries {K : PySem.W.Frag} {mg : Str → Option Value} {a : Adr} (T : Txt K mg a) : Binds K a.d_Council_carries ["self", "group"] [] := T.F_Council_carries.binds fun _ _ _ _ _ _ us hl => match us, hl with | [_, _], _ => rfl
theorem sc_Council_least : FnScope ["self"] ["self"] (defScope s_Council_least) := ⟨rfl, rfl, rfl, by decide +kernel, rfl, by decide +kernel, by decide +kernel⟩
theorem b_Council_least {K : PySem.W.Frag} {mg : Str → Option Value} {a : Adr} (T : Txt K mg a) : Binds K a.d_Council_least ["self"] [] := T.F_Council_least.binds fun _ _ _ _ _ _ us hl => match us, hl with | [_], _ => rfl
theorem sc_Council_is_least : FnScope ["self", "group", "smaller"] ["self", "group"] (defScope s_Council_is_least) := ⟨rfl, rfl, rfl, by decide +kernel, rfl, by decide +kernel, by decide +kernel⟩
theorem b_Council_is_least {K : PySem.W.Frag} {mg : Str → Option Value} {a : Adr} (T : Txt K mg a) : Binds K a.d_Council_is_least ["self", "group"] [] := T.F_Council_is_least.binds fun _ _ _ _ _ _ us hl => match us, hl with | [_, _], _ => rfl
theorem sc_refuse_bad_council : FnScope ["members", "groups"] ["members", "groups"] (defScope s_refuse_bad_council) := ⟨rfl, rfl, rfl, by decide +kernel, rfl, by decide +kernel, by decide +kernel⟩
theorem b_refuse_bad_council {K : PySem.W.Frag} {mg : Str → Option Value} {a : Adr} (T : Txt K mg a) : Binds K a.d_refuse_bad_council ["members", "groups"] [] := T.F_refuse_bad_council.binds fun _ _ _ _ _ _ us hl => match us, hl with | [_, _], _ => rfl
theorem sc_has_one_within : FnScope ["groups", "group"] ["groups", "group"] (defScope s_has_one_within) := ⟨rfl, rfl, rfl, by decide +kernel, rfl, by decide +kernel, by decide +kernel⟩
theorem b_has_one_within {K : PySem.W.Frag} {mg : Str → Option Value} {a : Adr} (T : Txt K mg a) : Binds K a.d_has_one_within ["groups", "group"] [] := T.F_has_one_within.binds fun _ _ _ _ _ _ us hl => match us, hl with | [_, _], _ => rfl
theorem sc_written : FnScope ["council"] ["council"] (defScope s_written) := ⟨rfl, rfl, rfl, by decide +kernel, rfl, by decide +kernel, by decide +kernel⟩
theorem b_written {K : PySem.W.Frag} {mg : Str → Option Value} {a : Adr} (T : Txt K mg a) : Binds K a.d_written ["council"] [] := T.F_written.binds fun _ _ _ _ _ _ us hl => match us, hl with | [_], _ => rfl
theorem sc_group_text : FnScope ["group"] ["group"] (defScope s_group_text) := ⟨rfl, rfl, rfl, by decide +kernel, rfl, by decide +kernel, by decide +kernel⟩
theorem b_group_text {K : PySem.W.Frag} {mg : Str → Option Value} {a : Adr} (T : Txt K mg a) : Binds K a.d_group_text ["group"] [] := T.F_group_text.binds fun _ _ _ _ _ _ us hl => match us, hl with | [_], _ => rfl
theorem sc_read : FnScope ["text", "members", "council"] ["text"] (defScope s_read) := ⟨rfl, rfl, rfl, by decide +kernel, rfl, by decide +kernel, by decide +kernel⟩
theorem b_read {K : PySem.W.Frag} {mg : Str → Option Value} {a : Adr} (T : Txt K mg a) : Binds K a.d_read ["text"] [] := T.F_read.binds fun _ _ _ _ _ _ us hl => match us, hl with | [_], _ => rfl
theorem sc_members_read : FnScope ["figure", "figures"] ["figure"] (defScope s_members_read) := ⟨rfl, rfl, rfl, by decide +kernel, rfl, by decide +kernel, by decide +kernel⟩
theorem b_members_read {K : PySem.W.Frag} {mg : Str → Option Value} {a : Adr} (T : Txt K mg a) : Binds K a.d_members_read ["figure"] [] := T.F_members_read.binds fun _ _ _ _ _ _ us hl => match us, hl with | [_], _ => rfl
theorem sc_groups_read : FnScope ["text", "members", "known", "words"] ["text", "members"] (defScope s_groups_read) := ⟨rfl, rfl, rfl, by decide +kernel, rfl, by decide +kernel, by decide +kernel⟩
theorem b_groups_read {K : PySem.W.Frag} {mg : Str → Option Value} {a : Adr} (T : Txt K mg a) : Binds K a.d_groups_read ["text", "members"] [] := T.F_groups_read.binds fun _ _ _ _ _ _ us hl => match us, hl with | [_, _], _ => rfl
theorem sc_law_cell_at : FnScope ["_law_script", "_law_k"] ["_law_script", "_law_k"] (defScope s_law_cell_at) := ⟨rfl, rfl, rfl, by decide +kernel, rfl, by decide +kernel, by decide +kernel⟩
theorem b_law_cell_at {K : PySem.W.Frag} {mg : Str → Option Value} {a : Adr} (T : Txt K mg a) : Binds K a.d_law_cell_at ["_law_script", "_law_k"] [] := T.F_law_cell_at.binds fun _ _ _ _ _ _ us hl => match us, hl with | [_, _], _ => rfl
theorem sc_law_draw : FnScope ["_law_cell", "_law_k", "_law_many", "_law_primes", "_law_blend"] ["_law_cell", "_law_k", "_law_many"] (defScope s_law_draw) := ⟨rfl, rfl, rfl, by decide +kernel, rfl, by decide +kernel, by decide +kernel⟩
theorem b_law_draw {K : PySem.W.Frag} {mg : Str → Option Value} {a : Adr} (T : Txt K mg a) : Binds K a.d_law_draw ["_law_cell", "_law_k", "_law_many"] [] := T.F_law_draw.binds fun _ _ _ _ _ _ us hl => match us, hl with | [_, _, _], _ => rfl
theorem sc_law_told : FnScope ["_law_script", "_law_first", "_law_cell", "_law_other_here", "_law_members", "_law_groups", "_law_weights", "_law_quota", "_law_group", "_law_k"] ["_law_script", "_law_first"] (defScope s_law_told) := ⟨rfl, rfl, rfl, by decide +kernel, rfl, by decide +kernel, by decide +kernel⟩
theorem b_law_told {K : PySem.W.Frag} {mg : Str → Option Value} {a : Adr} (T : Txt K mg a) : Binds K a.d_law_told ["_law_script", "_law_first"] [] := T.F_law_told.binds fun _ _ _ _ _ _ us hl => match us, hl with | [_, _], _ => rfl
theorem sc_law_table : FnScope ["_law_told_here", "_law_found", "_law_group"] ["_law_told_here"] (defScope s_law_table) := ⟨rfl, rfl, rfl, by decide +kernel, rfl, by decide +kernel, by decide +kernel⟩
theorem b_law_table {K : PySem.W.Frag} {mg : Str → Option Value} {a : Adr} (T : Txt K mg a) : Binds K a.d_law_table ["_law_told_here"] [] := T.F_law_table.binds fun _ _ _ _ _ _ us hl => match us, hl with | [_], _ => rfl
theorem sc_law_refused : FnScope ["_law_text", "error", "_law_others"] ["_law_text"] (defScope s_law_refused) := ⟨rfl, rfl, rfl, by decide +kernel, rfl, by decide +kernel, by decide +kernel⟩
theorem b_law_refused {K : PySem.W.Frag} {mg : Str → Option Value} {a : Adr} (T : Txt K mg a) : Binds K a.d_law_refused ["_law_text"] [] := T.F_law_refused.binds fun _ _ _ _ _ _ us hl => match us, hl with | [_], _ => rfl
theorem sc_law_group_in : FnScope ["_law_word", "_law_members", "_law_group", "_law_sign"] ["_law_word", "_law_members"] (defScope s_law_group_in) := ⟨rfl, rfl, rfl, by decide +kernel, rfl, by decide +kernel, by decide +kernel⟩
theorem b_law_group_in {K : PySem.W.Frag} {mg : Str → Option Value} {a : Adr} (T : Txt K mg a) : Binds K a.d_law_group_in ["_law_word", "_law_members"] [] := T.F_law_group_in.binds fun _ _ _ _ _ _ us hl => match us, hl with | [_, _], _ => rfl
theorem sc_law_in : FnScope ["_law_text", "_law_words", "_law_groups", "_law_k"] ["_law_text"] (defScope s_law_in) := ⟨rfl, rfl, rfl, by decide +kernel, rfl, by decide +kernel, by decide +kernel⟩
theorem b_law_in {K : PySem.W.Frag} {mg : Str → Option Value} {a : Adr} (T : Txt K mg a) : Binds K a.d_law_in ["_law_text"] [] := T.F_law_in.binds fun _ _ _ _ _ _ us hl => match us, hl with | [_], _ => rfl
theorem sc_law_right : FnScope ["_law_text", "_law_due", "_law_council"] ["_law_text"] (defScope s_law_right) := ⟨rfl, rfl, rfl, by decide +kernel, rfl, by decide +kernel, by decide +kernel⟩
theorem b_law_right {K : PySem.W.Frag} {mg : Str → Option Value} {a : Adr} (T : Txt K mg a) : Binds K a.d_law_right ["_law_text"] [] := T.F_law_right.binds fun _ _ _ _ _ _ us hl => match us, hl with | [_], _ => rfl
theorem sc_law_other : FnScope ["_law_text", "_law_cell", "_law_k", "_law_at", "_law_sign", "_law_way"] ["_law_text", "_law_cell", "_law_k"] (defScope s_law_other) := ⟨rfl, rfl, rfl, by decide +kernel, rfl, by decide +kernel, by decide +kernel⟩
theorem b_law_other {K : PySem.W.Frag} {mg : Str → Option Value} {a : Adr} (T : Txt K mg a) : Binds K a.d_law_other ["_law_text", "_law_cell", "_law_k"] [] := T.F_law_other.binds fun _ _ _ _ _ _ us hl => match us, hl with | [_, _, _], _ => rfl
theorem sc_law : FnScope ["_law_script", "_law_told_here", "_law_text", "_law_cell", "_law_few", "_law_other_here"] ["_law_script"] (defScope s_law) := ⟨rfl, rfl, rfl, by decide +kernel, rfl, by decide +kernel, by decide +kernel⟩
/-! ## the data -/
theorem kmt : ¬ (("members" : Str) = "table") := by decide +kernel
def flds (n : Int) (t : Addr) : List (Str × V) := putF "table" (.ref t) (putF "members" (.int n) [])
theorem flds_m (n : Int) (t : Addr) : (flds n t).lookup ("members" : Str) = some (.int n) := by
  unfold flds
  rw [lookup_putF, if_neg kmt, lookup_putF, if_pos rfl]
theorem flds_t (n : Int) (t : Addr) : (flds n t).lookup ("table" : Str) = some (.ref t) := by
  unfold flds
  rw [lookup_putF, if_pos rfl]
theorem flds_no (n : Int) (t : Addr) {m : Str} (h1 : ¬ m = "table") (h2 : ¬ m = "members") : (flds n t).lookup m = none := by
  unfold flds
  rw [lookup_putF, if_neg h1, lookup_putF, if_neg h2]
  rfl
/-- a council stands at p: n members, tb tells which groups carry -/
structure CAt (C : Addr) (H : Hp) (p : Addr) (n : Nat) (tb : List Bool) : Prop where
  ob : ∃ dx t, H p = some (.ins C dx (flds (n : Int) t)) ∧ H t = some (.tup (tb.map V.bl))
  n1 : 1 ≤ n
  n5 : n ≤ 5
  len : tb.length = 2 ^ n
theorem CAt.same {C : Addr} {H H' : Hp} {p : Addr} {n : Nat} {tb : List Bool} (c : CAt C H p n tb) (h : Same H H') : CAt C H' p n tb := by
  obtain ⟨⟨dx, t, h1, h2⟩, n1, n5, l⟩ := c
  exact ⟨⟨dx, t, h _ _ h1, h _ _ h2⟩, n1, n5, l⟩
theorem nat_pow (n : Nat) : ((2 ^ n : Nat) : Int) = 2 ^ n := by
  induction n with
  | zero => rfl
  | succ k ih => rw [Nat.pow_succ, Int.pow_succ, ← ih]; omega
theorem pow_n {n : Nat} : (1 : Int) * 2 ^ ((n : Int)).toNat = ((2 ^ n : Nat) : Int) := by
  rw [Int.toNat_natCast, nat_pow]; omega
theorem upto_up (n : Nat) : upto n = (up n).map V.int := by
  unfold upto up
  rw [List.map_map]
  rfl
theorem shl_ok {n : Nat} (h : n ≤ 1000) : CPow 1 (n : Int) := ⟨by omega, by omega, by decide⟩

/-! ## the promises -/
def sp_is_whole : Sp := sp2 (fun _ _ => True) fun v m => .bl (decide (0 ≤ v ∧ v ≤ m))
def sp_everybody : Sp := fun vs H Q _ => ∃ n : Nat, vs = [.int n] ∧ n ≤ 5 ∧ ∀ H', Same H H' → Q (.int (((2 ^ n : Nat) : Int) - 1)) H'
def sp_is_group : Sp := fun vs H Q _ => ∃ (v : Int) (n : Nat), vs = [.int v, .int n] ∧ n ≤ 5 ∧ ∀ H', Same H H' → Q (.bl (decide (0 ≤ v ∧ v ≤ ((2 ^ n : Nat) : Int) - 1))) H'
def sp_groups_of : Sp := fun vs H Q _ => ∃ n : Nat, vs = [.int n] ∧ n ≤ 5 ∧ ∀ r H', H r = none → Same H H' → H' r = some (.lst ((up (2 ^ n)).map V.int)) → Q (.ref r) H'
def sp_has : Sp := sp2 (fun _ m => 0 ≤ m) fun g m => .bl (hasB g m)
def sp_members_of : Sp := fun vs H Q _ => ∃ g : Int, vs = [.int g] ∧ ∀ r H', H r = none → Same H H' → H' r = some (.lst ((ins 5 g).map V.int)) → Q (.ref r) H'
def sp_with_member : Sp := sp2 (fun _ m => 0 ≤ m ∧ m ≤ 5) fun g m => .int (Builtin.bitOr g (1 * 2 ^ m.toNat))
def sp_within : Sp := sp2 (fun _ _ => True) fun s l => .bl (withinB s l)
def sp_weight_of : Sp := fun vs H Q _ => ∃ (l : Addr) (ws : List Int) (g : Int), vs = [.ref l, .int g] ∧ H l = some (.lst (ws.map V.int)) ∧ ws.length ≤ 1000 ∧ ∀ H', Same H H' → Q (.int (wtOf ws g)) H'
def sp_has_one_within : Sp := fun vs H Q _ => ∃ (l : Addr) (gs : List Int) (g : Int), vs = [.ref l, .int g] ∧ H l = some (.lst (gs.map V.int)) ∧ gs.length ≤ 1000 ∧ ∀ H', Same H H' → Q (.bl (carrB gs g)) H'
/-- groups of n members -/
def GrpOk (n : Nat) (gs : List Int) : Prop := gs.length ≤ 1000 ∧ ∀ g ∈ gs, 0 ≤ g ∧ g < ((2 ^ n : Nat) : Int)
def sp_refuse_bad_council : Sp := fun vs H Q _ => ∃ (n : Nat) (l : Addr) (gs : List Int), vs = [.int n, .ref l] ∧ 1 ≤ n ∧ n ≤ 5 ∧ H l = some (.lst (gs.map V.int)) ∧ GrpOk n gs ∧ ∀ H', Same H H' → Q .non H'
def sp_init (C : Addr) : Sp := fun vs H Q _ => ∃ (p dx : Addr) (n : Nat) (l : Addr) (gs : List Int), vs = [.ref p, .int n, .ref l] ∧ H p = some (.ins C dx []) ∧ 1 ≤ n ∧ n ≤ 5 ∧ H l = some (.lst (gs.map V.int)) ∧ GrpOk n gs ∧
  ∀ H', CAt C H' p n (tabOf n gs) → (∀ b o, H b = some o → b ≠ p → H' b = some o) → Q .non H'
def sp_carries (C : Addr) : Sp := fun vs H Q _ => ∃ (p : Addr) (n : Nat) (tb : List Bool) (g : Int), vs = [.ref p, .int g] ∧ CAt C H p n tb ∧ 0 ≤ g ∧ g < ((2 ^ n : Nat) : Int) ∧ ∀ H', Same H H' → Q (.bl (at_ tb g)) H'
def sp_is_least (C : Addr) : Sp := fun vs H Q _ => ∃ (p : Addr) (n : Nat) (tb : List Bool) (g : Int), vs = [.ref p, .int g] ∧ CAt C H p n tb ∧ 0 ≤ g ∧ g < ((2 ^ n : Nat) : Int) ∧
  ∀ H', Same H H' → Q (.bl (at_ tb g && !((ins n g).map fun m => at_ tb (g - 1 * 2 ^ m.toNat)).any id)) H'
def sp_is_greatest (C : Addr) : Sp := fun vs H Q _ => ∃ (p : Addr) (n : Nat) (tb : List Bool) (g : Int), vs = [.ref p, .int g] ∧ CAt C H p n tb ∧ 0 ≤ g ∧ g < ((2 ^ n : Nat) : Int) ∧
  ∀ H', Same H H' → Q (.bl (!at_ tb g && ((outs n g).map fun m => at_ tb (g + 1 * 2 ^ m.toNat)).all id)) H'
def sp_least (C : Addr) : Sp := fun vs H Q _ => ∃ (p : Addr) (n : Nat) (tb : List Bool), vs = [.ref p] ∧ CAt C H p n tb ∧
  ∀ r H', H r = none → Same H H' → H' r = some (.lst ((leastBy (fun g m => g - 1 * 2 ^ m.toNat) n tb).map V.int)) → Q (.ref r) H'
def sp_greatest (C : Addr) : Sp := fun vs H Q _ => ∃ (p : Addr) (n : Nat) (tb : List Bool), vs = [.ref p] ∧ CAt C H p n tb ∧
  ∀ r H', H r = none → Same H H' → H' r = some (.lst ((greatBy (fun g m => g + 1 * 2 ^ m.toNat) n tb).map V.int)) → Q (.ref r) H'

/-! ## groups.py -/
theorem ok_is_whole {P : Program} {w : World} {K : PySem.W.Frag} {mg : Str → Option Value} {base : Heap} {a : Adr} (T : Txt K mg a) : FnOk P w K mg base CX0 1 a.a_is_whole a.d_is_whole ["value", "most"] sp_is_whole := by
  refine T.F_is_whole.ok sc_is_whole (fun vs H Q E h => ?_) (fun cdv A outer s H vs Q E hr h => ?_)
  · obtain ⟨x, y, rfl, _⟩ := h; rfl
  obtain ⟨v, m, rfl, _, k⟩ := h
  refine ⟨_, (pss_one (ps_ret (pe_and (pe_callB (call_isiK K) rfl T.z_isinstance PyProof.Rows.boot_isinstance (pa_cons (pv 0) (pa_cons (pe_bltn (v := .ty "int") rfl T.z_int PyProof.Rows.boot_int rfl) pa_nil))) (pe_and (pe_not (pe_callB (call_isiK K) rfl T.z_isinstance PyProof.Rows.boot_isinstance (pa_cons (pv 0) (pa_cons (pe_bltn (v := .ty "bool") rfl T.z_bool PyProof.Rows.boot_bool rfl) pa_nil)))) (pe_one (pe_chain op_le op_le pe_int (pv 0) (pv 1))))))), ?_⟩
  refine ⟨_, rfl, _, "int", "int", true, rfl, .int v, .inl rfl, isi_ii, true, rfl, iteT ?_⟩
  refine ⟨_, rfl, _, "int", "bool", false, rfl, .int v, .inr (.inl rfl), isi_ib, false, rfl, true, rfl, iteT ?_⟩
  refine ⟨_, rfl, _, _, rfl, rfl, _, rfl, ?_⟩
  refine ite_b (fun c => ?_) (fun c => ?_)
  · refine ⟨_, rfl, _, _, rfl, rfl, ?_⟩
    have c' : 0 ≤ v := of_decide_eq_true c
    have e : decide (0 ≤ v ∧ v ≤ m) = decide (v ≤ m) := by
      rw [Bool.eq_iff_iff, decide_eq_true_eq, decide_eq_true_eq]
      exact ⟨fun z => z.2, fun z => ⟨c', z⟩⟩
    have q : Q (.bl (decide (0 ≤ v ∧ v ≤ m))) H := k H (Same.refl H)
    rw [e] at q
    exact q
  · have c' : ¬ 0 ≤ v := of_decide_eq_false c
    have e : decide (0 ≤ v ∧ v ≤ m) = false := decide_eq_false fun z => c' z.1
    have q : Q (.bl (decide (0 ≤ v ∧ v ≤ m))) H := k H (Same.refl H)
    rw [e] at q
    exact q
theorem ok_everybody {P : Program} {w : World} {K : PySem.W.Frag} {mg : Str → Option Value} {base : Heap} {a : Adr} (T : Txt K mg a) : FnOk P w K mg base CX0 1 a.a_everybody a.d_everybody ["members"] sp_everybody := by
  refine T.F_everybody.ok sc_everybody (fun vs H Q E h => ?_) (fun cdv A outer s H vs Q E hr h => ?_)
  · obtain ⟨x, rfl, _⟩ := h; rfl
  obtain ⟨n, rfl, hn, k⟩ := h
  refine ⟨_, (pss_one (ps_ret (pe_op op_sub (pe_op op_shl pe_int (pv 0)) pe_int))), ?_⟩
  refine ⟨_, rfl, _, _, rfl, rfl, shl_ok (by omega), _, _, rfl, rfl, ?_⟩
  have q := k H (Same.refl H)
  rw [← pow_n] at q
  exact q
theorem ok_is_group {P : Program} {w : World} {K : PySem.W.Frag} {mg : Str → Option Value} {base : Heap} {a : Adr} (T : Txt K mg a) : FnOk P w K mg base CX0 2 a.a_is_group a.d_is_group ["value", "members"] sp_is_group := by
  refine T.F_is_group.ok sc_is_group (fun vs H Q E h => ?_) (fun cdv A outer s H vs Q E hr h => ?_)
  · obtain ⟨x, n, rfl, _⟩ := h; rfl
  obtain ⟨v, n, rfl, hn, k⟩ := h
  refine ⟨_, (pss_one (ps_ret (pe_call (ok_is_whole T) hr rfl T.m_is_whole T.F_is_whole.kp (b_is_whole T) .nil pass0 (pa_cons (pv 0) (pa_cons (pe_call (ok_everybody T) hr rfl T.m_everybody T.F_everybody.kp (b_everybody T) .nil pass0 (pa_cons (pv 1) pa_nil)) pa_nil))))), ?_⟩
  refine ⟨_, rfl, _, rfl, n, rfl, hn, fun H1 h1 => ?_⟩
  exact ⟨_, _, rfl, trivial, fun H2 h2 => k H2 (h1.trans h2)⟩
theorem ok_groups_of {P : Program} {w : World} {K : PySem.W.Frag} {mg : Str → Option Value} {base : Heap} {a : Adr} (T : Txt K mg a) : FnOk P w K mg base CX0 1 a.a_groups_of a.d_groups_of ["members"] sp_groups_of := by
  refine T.F_groups_of.ok sc_groups_of (fun vs H Q E h => ?_) (fun cdv A outer s H vs Q E hr h => ?_)
  · obtain ⟨n, rfl, _⟩ := h; rfl
  obtain ⟨n, rfl, hn, k⟩ := h
  refine ⟨_, (pss_one (ps_ret (pe_callTy (call_list_rng rfl) rfl T.z_list PyProof.Rows.boot_list (pa_cons (pe_callTy call_range1 rfl T.z_range PyProof.Rows.boot_range (pa_cons (pe_op op_shl pe_int (pv 0)) pa_nil)) pa_nil)))), ?_⟩
  have h5 := two_le hn
  refine ⟨_, rfl, _, _, rfl, rfl, shl_ok (by omega), _, rfl, fun p hp => ?_⟩
  refine ⟨p, _, rfl, upd_same, ?_, ?_, fun l hl => ?_⟩
  · rw [pow_n]; exact Int.natCast_nonneg _
  · rw [pow_n]; omega
  have e : upto ((1 : Int) * 2 ^ ((n : Int)).toNat).toNat = (up (2 ^ n)).map V.int := by
    rw [pow_n, Int.toNat_natCast, upto_up]
  refine k l _ ((same_new hp _).free hl) ((same_new hp _).trans (same_new hl _)) ?_
  rw [upd_same, ← e]
theorem ok_has {P : Program} {w : World} {K : PySem.W.Frag} {mg : Str → Option Value} {base : Heap} {a : Adr} (T : Txt K mg a) : FnOk P w K mg base CX0 1 a.a_has a.d_has ["group", "member"] sp_has := by
  refine T.F_has.ok sc_has (fun vs H Q E h => ?_) (fun cdv A outer s H vs Q E hr h => ?_)
  · obtain ⟨x, y, rfl, _⟩ := h; rfl
  obtain ⟨g, m, rfl, hm, k⟩ := h
  refine ⟨_, (pss_one (ps_ret (pe_cmpR op_eq (pe_op op_and (pe_op op_shr (pv 0) (pv 1)) pe_int) pe_int (nomark _)))), ?_⟩
  refine ⟨_, rfl, _, rfl, _, _, rfl, rfl, hm, _, _, rfl, rfl, rfl, ?_⟩
  have q : Q (.bl (hasB g m)) H := k H (Same.refl H)
  unfold hasB at q
  rw [show decide (Builtin.bitAnd (g / 2 ^ m.toNat) 1 = 1) = decide (V.int (Builtin.bitAnd (g / 2 ^ m.toNat) 1) = V.int 1) by rw [dec_int]; rfl] at q
  exact q
theorem ok_members_of {P : Program} {w : World} {K : PySem.W.Frag} {mg : Str → Option Value} {base : Heap} {a : Adr} (T : Txt K mg a) : FnOk P w K mg base CX0 2 a.a_members_of a.d_members_of ["group"] sp_members_of := by
  refine T.F_members_of.ok sc_members_of (fun vs H Q E h => ?_) (fun cdv A outer s H vs Q E hr h => ?_)
  · obtain ⟨x, rfl, _⟩ := h; rfl
  obtain ⟨g, rfl, k⟩ := h
  refine ⟨_, (pss_one (ps_ret (pe_lc rfl (lcOk_of (S := defScope s_members_of) (N := ["group"]) (M := ["group", "member"]) (by decide +kernel)) (pi_range1 rfl T.z_range (pa_cons (pe_glob (v := .int 5) rfl T.g_MOST_MEMBERS ⟨_, rfl⟩) pa_nil)) (fun _ _ _ _ => (pg_name (i := 1) (show List.Nodup (["group", "member"] : List Str) by decide +kernel) rfl (by first | exact Or.inl rfl | exact Or.inr rfl))) (fun _ _ _ _ => (pifs_one (pt_val (pe_call (ok_has T) hr rfl T.m_has T.F_has.kp (b_has T) .nil pass0 (pa_cons (pv 0) (pa_cons (pv 1) pa_nil)))))) (fun _ _ _ _ => (pv 1))))), ?_⟩
  refine ⟨5, rfl, by omega, by omega, ?_⟩
  refine lcB_range (k := 5) rfl (by omega) (hasB g) V.int (fun x x0 x1 H1 s1 R q => ?_) (fun x x0 x1 hb H1 s1 R q => ?_) fun H1 D s1 hD => ?_
  · exact ⟨_, rfl, _, rfl, _, _, rfl, x0, fun H2 s2 => ⟨_, rfl, q H2 s2⟩⟩
  · exact ⟨_, rfl, q H1 (Same.refl _)⟩
  exact k D _ (s1.free hD) (s1.trans (same_new hD _)) upd_same
theorem ok_within {P : Program} {w : World} {K : PySem.W.Frag} {mg : Str → Option Value} {base : Heap} {a : Adr} (T : Txt K mg a) : FnOk P w K mg base CX0 1 a.a_within a.d_within ["small", "large"] sp_within := by
  refine T.F_within.ok sc_within (fun vs H Q E h => ?_) (fun cdv A outer s H vs Q E hr h => ?_)
  · obtain ⟨x, y, rfl, _⟩ := h; rfl
  obtain ⟨x, y, rfl, _, k⟩ := h
  refine ⟨_, (pss_one (ps_ret (pe_cmpR op_eq (pe_op op_and (pv 0) (pv 1)) (pv 0) (nomark _)))), ?_⟩
  refine ⟨_, rfl, _, rfl, _, _, rfl, rfl, _, rfl, rfl, ?_⟩
  have q : Q (.bl (withinB x y)) H := k H (Same.refl H)
  unfold withinB at q
  rw [show decide (Builtin.bitAnd x y = x) = decide (V.int (Builtin.bitAnd x y) = V.int x) by rw [dec_int]; rfl] at q
  exact q
theorem ok_has_one_within {P : Program} {w : World} {K : PySem.W.Frag} {mg : Str → Option Value} {base : Heap} {a : Adr} (T : Txt K mg a) : FnOk P w K mg base CX0 2 a.a_has_one_within a.d_has_one_within ["groups", "group"] sp_has_one_within := by
  refine T.F_has_one_within.ok sc_has_one_within (fun vs H Q E h => ?_) (fun cdv A outer s H vs Q E hr h => ?_)
  · obtain ⟨l, gs, g, rfl, _⟩ := h; rfl
  obtain ⟨l, gs, g, rfl, hl, hz, k⟩ := h
  refine ⟨_, (pss_one (ps_ret (pe_callB (call_anyK K rfl) rfl T.z_any PyProof.Rows.boot_any (pa_cons (pe_lc rfl (lcOk_of (S := defScope s_has_one_within) (N := ["groups", "group"]) (M := ["groups", "group", "told"]) (by decide +kernel)) (pi_listK K (pv 0)) (fun _ _ _ _ => (pg_name (i := 2) (show List.Nodup (["groups", "group", "told"] : List Str) by decide +kernel) rfl (by first | exact Or.inl rfl | exact Or.inr rfl))) (fun _ _ _ _ => pifs_nil) (fun _ _ _ _ => (pe_call (ok_within T) hr rfl T.m_within T.F_within.kp (b_within T) .nil pass0 (pa_cons (pv 2) (pa_cons (pv 1) pa_nil))))) pa_nil)))), ?_⟩
  refine ⟨_, rfl, l, rfl, ⟨_, SqL.of hl⟩, ?_⟩
  refine lcB_list rfl (SqL.of hl) (by rw [List.length_map]; exact hz) (fun _ => true) (fun x => match x with | .int o => .bl (withinB o g) | _ => .non) (fun x hx H1 h1 R q => q H1 (Same.refl _)) (fun x hx _ H1 h1 R q => ?_) fun H1 D h1 hD => ?_
  · obtain ⟨o, _, rfl⟩ := List.mem_map.mp hx
    exact ⟨_, rfl, _, rfl, _, _, rfl, trivial, fun H2 h2 => q H2 h2⟩
  · refine ⟨D, gs.map fun o => withinB o g, rfl, SqL.of ?_, ?_⟩
    · rw [upd_same, List.filter_eq_self.mpr (fun _ _ => rfl), List.map_map, List.map_map]
      rfl
    · have e : ((gs.map fun o => withinB o g).any id) = carrB gs g := by unfold carrB; rw [List.any_map]; rfl
      show Q (.bl ((gs.map fun o => withinB o g).any id)) _
      rw [e]
      exact k _ (h1.trans (same_new hD _))
/-! ## councils.py -/
theorem all_true {α : Type} {l : List α} {f : α → Bool} (h : ∀ x ∈ l, f x = true) : (l.map f).all id = true := by
  rw [List.all_map, List.all_eq_true]
  exact h
theorem ok_refuse_bad_council {P : Program} {w : World} {K : PySem.W.Frag} {mg : Str → Option Value} {base : Heap} {a : Adr} (T : Txt K mg a) : FnOk P w K mg base CX0 3 a.a_refuse_bad_council a.d_refuse_bad_council ["members", "groups"] sp_refuse_bad_council := by
  refine T.F_refuse_bad_council.ok sc_refuse_bad_council (fun vs H Q E h => ?_) (fun cdv A outer s H vs Q E hr h => ?_)
  · obtain ⟨n, l, gs, rfl, _⟩ := h; rfl
  obtain ⟨n, l, gs, rfl, n1, n5, hl, ⟨hz, hg⟩, k⟩ := h
  refine ⟨_, (pss_cons (ps_if (PW.pt (pw_or (pt_not (pt_val (pe_call (ok_is_whole T) (hr.mono (by decide)) rfl T.m_is_whole T.F_is_whole.kp (b_is_whole T) .nil pass0 (pa_cons (pv 0) (pa_cons (pe_glob (v := .int 5) rfl T.g_MOST_MEMBERS ⟨_, rfl⟩) pa_nil))))) (pw_or1 (pt_cmpR op_eq (pv 0) pe_int (nomark _))))) (pss_one ps_never) pss_nil)
      (pss_cons (ps_if (pt_not (pt_val (pe_callB (call_isiK K) rfl T.z_isinstance PyProof.Rows.boot_isinstance (pa_cons (pv 1) (pa_cons (pe_bltn (v := .ty "list") rfl T.z_list PyProof.Rows.boot_list rfl) pa_nil))))) (pss_one ps_never) pss_nil)
      (pss_one (ps_if (pt_not (pt_val (pe_callB (call_allK K rfl) rfl T.z_all PyProof.Rows.boot_all (pa_cons (pe_lc rfl (lcOk_of (S := defScope s_refuse_bad_council) (N := ["members", "groups"]) (M := ["members", "groups", "group"]) (by decide +kernel)) (pi_listK K (pv 1)) (fun _ _ _ _ => (pg_name (i := 2) (show List.Nodup (["members", "groups", "group"] : List Str) by decide +kernel) rfl (by first | exact Or.inl rfl | exact Or.inr rfl))) (fun _ _ _ _ => pifs_nil) (fun _ _ _ _ => (pe_call (ok_is_group T) hr rfl T.m_is_group T.F_is_group.kp (b_is_group T) .nil pass0 (pa_cons (pv 2) (pa_cons (pv 0) pa_nil))))) pa_nil)))) (pss_one ps_never) pss_nil)))), ?_⟩
  refine ⟨_, rfl, _, _, rfl, trivial, fun H1 h1 => ⟨_, rfl, ?_⟩⟩
  refine ite_f (by rw [decide_eq_true (by omega)]; rfl) ?_
  refine ⟨_, rfl, rfl, _, rfl, ?_⟩
  refine ite_f (decide_eq_false fun z => by have z' := V.int.inj z; omega) ?_
  refine ⟨_, rfl, _, "list", "list", true, rfl, .lst (h1 _ _ hl), .inr (.inr rfl), isi_ll, true, rfl, iteF ?_⟩
  refine ⟨_, rfl, l, rfl, ⟨_, SqL.of (h1 _ _ hl)⟩, ?_⟩
  refine lcB_list rfl (SqL.of (h1 _ _ hl)) (by rw [List.length_map]; exact hz) (fun _ => true) (fun x => match x with | .int o => .bl (decide (0 ≤ o ∧ o ≤ ((2 ^ n : Nat) : Int) - 1)) | _ => .non) (fun x hx H2 h2 R q => q H2 (Same.refl _)) (fun x hx _ H2 h2 R q => ?_) fun H2 D h2 hD => ?_
  · obtain ⟨o, _, rfl⟩ := List.mem_map.mp hx
    exact ⟨_, rfl, _, rfl, _, n, rfl, n5, fun H3 h3 => q H3 h3⟩
  · refine ⟨D, gs.map fun o => decide (0 ≤ o ∧ o ≤ ((2 ^ n : Nat) : Int) - 1), rfl, SqL.of ?_, _, rfl, ?_⟩
    · rw [upd_same, List.filter_eq_self.mpr (fun _ _ => rfl), List.map_map, List.map_map]
      rfl
    · refine ite_f (by rw [all_true fun o ho => decide_eq_true (by have := hg o ho; omega)]; rfl) ?_
      exact k _ (h1.trans (h2.trans (same_new hD _)))
theorem ok_Council_init {P : Program} {w : World} {K : PySem.W.Frag} {mg : Str → Option Value} {base : Heap} {a : Adr} (T : Txt K mg a) : FnOk P w K mg base CX0 4 a.a_Council_init a.d_Council_init ["self", "members", "groups"] (sp_init a.C_Council) := by
  refine T.F_Council_init.ok sc_Council_init (fun vs H Q E h => ?_) (fun cdv A outer s H vs Q E hr h => ?_)
  · obtain ⟨p, dx, n, l, gs, rfl, _⟩ := h; rfl
  obtain ⟨p, dx, n, l, gs, rfl, hp, n1, n5, hl, hg, k⟩ := h
  refine ⟨_, (pss_cons (ps_expr (pe_call (ok_refuse_bad_council T) hr rfl T.m_refuse_bad_council T.F_refuse_bad_council.kp (b_refuse_bad_council T) .nil pass0 (pa_cons (pv 1) (pa_cons (pv 2) pa_nil))))
      (pss_cons (ps_fld (pv 0) (pv 1) rfl)
      (pss_one (ps_fld (pv 0) (pe_callTy (call_tuple_ofK K) rfl T.z_tuple PyProof.Rows.boot_tuple (pa_cons (pe_lc rfl (lcOk_of (S := defScope s_Council_init) (N := ["self", "members", "groups"]) (M := ["self", "members", "groups", "group"]) (by decide +kernel)) (pi_listK K (pe_call (ok_groups_of T) (hr.mono (by decide)) rfl T.m_groups_of T.F_groups_of.kp (b_groups_of T) .nil pass0 (pa_cons (pv 1) pa_nil))) (fun _ _ _ _ => (pg_name (i := 3) (show List.Nodup (["self", "members", "groups", "group"] : List Str) by decide +kernel) rfl (by first | exact Or.inl rfl | exact Or.inr rfl))) (fun _ _ _ _ => pifs_nil) (fun _ _ _ _ => (pe_call (ok_has_one_within T) (hr.mono (by decide)) rfl T.m_has_one_within T.F_has_one_within.kp (b_has_one_within T) .nil pass0 (pa_cons (pv 2) (pa_cons (pv 3) pa_nil))))) pa_nil)) rfl)))), ?_⟩
  have npl : l ≠ p := ne_of hl hp (by intro z; cases z)
  refine ⟨_, rfl, _, rfl, n, l, gs, rfl, n1, n5, hl, hg, fun H1 h1 => ?_⟩
  refine ⟨_, rfl, _, rfl, p, a.C_Council, dx, [], rfl, h1 _ _ hp, T.cl_Council, T.n_Council_members, (by show 0 < 1000; decide), ?_⟩
  -- the table
  have hl2 : upd H1 p (.ins a.C_Council dx (putF "members" (.int n) [])) l = some (.lst (gs.map V.int)) := by rw [upd_ne npl]; exact h1 _ _ hl
  refine ⟨_, rfl, n, rfl, n5, fun r H2 nr h2 hr2 => ?_⟩
  refine ⟨r, rfl, ⟨_, SqL.of hr2⟩, ?_⟩
  have h5 := two_le n5
  refine lcB_list rfl (SqL.of hr2) (by rw [List.length_map, up_length]; omega) (fun _ => true) (fun x => match x with | .int o => .bl (carrB gs o) | _ => .non) (fun x hx H3 h3 R q => q H3 (Same.refl _)) (fun x hx _ H3 h3 R q => ?_) fun H3 D h3 hD => ?_
  · obtain ⟨o, _, rfl⟩ := List.mem_map.mp hx
    exact ⟨_, rfl, _, rfl, l, gs, o, rfl, h3 _ _ (h2 _ _ hl2), hg.1, fun H4 h4 => q H4 h4⟩
  · have hs3 : Same (upd H1 p (.ins a.C_Council dx (putF "members" (.int n) []))) (upd H3 D (.lst ((((up (2 ^ n)).map V.int).filter fun _ => true).map fun x => match x with | .int o => V.bl (carrB gs o) | _ => .non))) := h2.trans (h3.trans (same_new hD _))
    refine ⟨D, _, rfl, .inl ⟨SqL.of upd_same, fun t ht => ?_⟩⟩
    have et : ((((up (2 ^ n)).map V.int).filter fun _ => true).map fun x => match x with | .int o => V.bl (carrB gs o) | _ => .non) = (tabOf n gs).map V.bl := by
      unfold tabOf
      rw [List.filter_eq_self.mpr (fun _ _ => rfl), List.map_map, List.map_map]
      rfl
    rw [et] at hs3 ht ⊢
    have hp3 := hs3 p _ upd_same
    have npt : p ≠ t := ne_of_none hp3 ht
    refine ⟨_, rfl, p, a.C_Council, dx, _, rfl, (by rw [upd_ne npt]; exact hp3), T.cl_Council, T.n_Council_table, (by show 1 < 1000; decide), ?_⟩
    refine k _ ⟨⟨dx, t, upd_same, by rw [upd_ne npt.symm, upd_same]⟩, n1, n5, tabOf_length _ _⟩ fun b o hb nb => ?_
    rw [upd_ne nb]
    have hb3 := hs3 b o (by rw [upd_ne nb]; exact h1 _ _ hb)
    rw [upd_ne (ne_of_none hb3 ht)]
    exact hb3
theorem tup_at {tb : List Bool} {g : Int} (h0 : 0 ≤ g) (h1 : g < (tb.length : Int)) : atI (tb.map V.bl) g = some (.bl (at_ tb g)) := by
  have hg : g.toNat < tb.length := by omega
  have e : g = ((g.toNat : Nat) : Int) := by omega
  have q : atI (tb.map V.bl) ((g.toNat : Nat) : Int) = some (.bl (at_ tb g)) := atI_nat (by
    unfold at_
    rw [List.getElem?_map, List.getD_eq_getElem?_getD, List.getElem?_eq_getElem hg]
    rfl)
  rw [← e] at q
  exact q
theorem ok_Council_carries {P : Program} {w : World} {K : PySem.W.Frag} {mg : Str → Option Value} {base : Heap} {a : Adr} (T : Txt K mg a) : FnOk P w K mg base CX0 3 a.a_Council_carries a.d_Council_carries ["self", "group"] (sp_carries a.C_Council) := by
  refine T.F_Council_carries.ok sc_Council_carries (fun vs H Q E h => ?_) (fun cdv A outer s H vs Q E hr h => ?_)
  · obtain ⟨p, n, tb, g, rfl, _⟩ := h; rfl
  obtain ⟨p, n, tb, g, rfl, c, g0, g1, k⟩ := h
  refine ⟨_, (pss_cons (ps_if (pt_not (pt_val (pe_call (ok_is_group T) hr rfl T.m_is_group T.F_is_group.kp (b_is_group T) .nil pass0 (pa_cons (pv 1) (pa_cons (pe_fldK K (pv 0) rfl) pa_nil))))) (pss_one ps_never) pss_nil)
      (pss_one (ps_ret (pe_ix (ix_tupK K) (pe_fldK K (pv 0) rfl) (pv 1) (fun _ _ => rfl))))), ?_⟩
  obtain ⟨⟨dx, t, h1, h2⟩, n1, n5, hl⟩ := id c
  refine ⟨_, rfl, _, rfl, p, a.C_Council, dx, _, _, rfl, h1, T.cl_Council, T.n_Council_members, flds_m _ _, _, n, rfl, n5, fun H1 s1 => ⟨_, rfl, ?_⟩⟩
  refine ite_f (by rw [decide_eq_true (by omega)]; rfl) ?_
  refine ⟨_, rfl, p, a.C_Council, dx, _, _, rfl, s1 _ _ h1, T.cl_Council, T.n_Council_table, flds_t _ _, _, rfl, t, _, g, _, rfl, rfl, SqT.of (s1 _ _ h2), tup_at g0 (by rw [hl]; exact g1), ?_⟩
  exact k H1 s1
theorem ins_big : ∀ n : Fin 6, ∀ g : Fin 32, g.val < 2 ^ n.val → ins 5 (g.val : Int) = ins n.val (g.val : Int) := by decide +kernel
theorem ins_five {n : Nat} (hn : n ≤ 5) {g : Int} (hg : g ∈ up (2 ^ n)) : ins 5 g = ins n g := by
  have h5 := two_le hn
  obtain ⟨g0, g1⟩ := mem_up.mp hg
  have e1 : ((g.toNat : Nat) : Int) = g := by omega
  have q := ins_big ⟨n, by omega⟩ ⟨g.toNat, by omega⟩ (by show g.toNat < 2 ^ n; omega)
  simpa only [e1] using q
theorem filt_len {p : Int → Bool} {n : Nat} {m : Nat} (h : n ≤ m) : ((up n).filter p).length ≤ m := by
  have z := List.length_filter_le p (up n)
  rw [up_length] at z
  omega
theorem ok_Council_is_least {P : Program} {w : World} {K : PySem.W.Frag} {mg : Str → Option Value} {base : Heap} {a : Adr} (T : Txt K mg a) : FnOk P w K mg base CX0 4 a.a_Council_is_least a.d_Council_is_least ["self", "group"] (sp_is_least a.C_Council) := by
  refine T.F_Council_is_least.ok sc_Council_is_least (fun vs H Q E h => ?_) (fun cdv A outer s H vs Q E hr h => ?_)
  · obtain ⟨p, n, tb, g, rfl, _⟩ := h; rfl
  obtain ⟨p, n, tb, g, rfl, c, g0, g1, k⟩ := h
  refine ⟨_, (pss_cons (ps_lc (i := 2) sc_Council_is_least.nd rfl rfl rfl (lcOk_of (S := defScope s_Council_is_least) (N := ["self", "group", "smaller"]) (M := ["self", "group", "smaller", "member"]) (by decide +kernel)) (pi_listK K (pe_call (ok_members_of T) (hr.mono (by decide)) rfl T.m_members_of T.F_members_of.kp (b_members_of T) .nil pass0 (pa_cons (pv 1) pa_nil))) (fun _ _ _ _ => (pg_name (i := 3) (show List.Nodup (["self", "group", "smaller", "member"] : List Str) by decide +kernel) rfl (by first | exact Or.inl rfl | exact Or.inr rfl))) (fun _ _ _ _ => pifs_nil) (fun _ _ _ _ => (pe_op op_sub (pv 1) (pe_op op_shl pe_int (pv 3)))))
      (pss_one (ps_ret (pe_and (pe_meth (pv 0) T.cl_Council T.mt_Council_carries (ok_Council_carries T) hr (b_Council_carries T) .nil pass0 (pa_cons (pv 1) pa_nil)) (pe_one (pe_not (pe_callB (call_anyK K rfl) rfl T.z_any PyProof.Rows.boot_any (pa_cons (pe_lc rfl (lcOk_of (S := defScope s_Council_is_least) (N := ["self", "group", "smaller"]) (M := ["self", "group", "smaller", "one"]) (by decide +kernel)) (pi_listK K (pv 2)) (fun _ _ _ _ => (pg_name (i := 3) (show List.Nodup (["self", "group", "smaller", "one"] : List Str) by decide +kernel) rfl (by first | exact Or.inl rfl | exact Or.inr rfl))) (fun _ _ _ _ => pifs_nil) (fun _ _ _ _ => (pe_meth (pv 0) T.cl_Council T.mt_Council_carries (ok_Council_carries T) hr (b_Council_carries T) .nil pass0 (pa_cons (pv 3) pa_nil)))) pa_nil)))))))), ?_⟩
  obtain ⟨⟨dx, t, h1, h2⟩, n1, n5, hl⟩ := id c
  have hgm : g ∈ up (2 ^ n) := mem_up.mpr ⟨g0, g1⟩
  refine ⟨_, rfl, g, rfl, fun r H0 nr s0 hr0 => ?_⟩
  rw [ins_five n5 hgm] at hr0
  refine ⟨r, rfl, ⟨_, SqL.of hr0⟩, ?_⟩
  refine lcB_list rfl (SqL.of hr0) (by rw [List.length_map]; exact filt_len (by omega)) (fun _ => true) (fun x => match x with | .int m => .int (g - 1 * 2 ^ m.toNat) | _ => .non) (fun x hx H1 s1 R q => q H1 (Same.refl _)) (fun x hx _ H1 s1 R q => ?_) fun H1 D s1 hD => ?_
  · obtain ⟨m, hm, rfl⟩ := List.mem_map.mp hx
    have hm0 : 0 ≤ m := (mem_up.mp (List.mem_filter.mp hm).1).1
    have hm1 := (mem_up.mp (List.mem_filter.mp hm).1).2
    exact ⟨_, rfl, _, rfl, _, _, rfl, rfl, ⟨hm0, by omega, by decide⟩, _, _, rfl, rfl, q H1 (Same.refl _)⟩
  have s2 : Same H (upd H1 D (.lst ((((ins n g).map V.int).filter fun _ => true).map fun x => match x with | .int m => V.int (g - 1 * 2 ^ m.toNat) | _ => .non))) := s0.trans (s1.trans (same_new hD _))
  have hD2 : upd H1 D (.lst ((((ins n g).map V.int).filter fun _ => true).map fun x => match x with | .int m => V.int (g - 1 * 2 ^ m.toNat) | _ => .non)) D = some (.lst (((ins n g).map fun m => g - 1 * 2 ^ m.toNat).map V.int)) := by
    rw [upd_same, List.filter_eq_self.mpr (fun _ _ => rfl), List.map_map, List.map_map]
    rfl
  generalize upd H1 D (.lst ((((ins n g).map V.int).filter fun _ => true).map fun x => match x with | .int m => V.int (g - 1 * 2 ^ m.toNat) | _ => .non)) = H2 at s2 hD2
  have c2 := c.same s2
  obtain ⟨⟨dx2, t2, h12, h22⟩, _⟩ := id c2
  refine ⟨_, rfl, p, dx2, _, rfl, h12, flds_no _ _ (by decide +kernel) (by decide +kernel), _, rfl, p, n, tb, g, rfl, c2, g0, g1, fun H3 s3 => ⟨_, rfl, ?_⟩⟩
  refine ite_b (fun hc => ?_) (fun hc => ?_)
  · refine ⟨_, rfl, D, rfl, ⟨_, SqL.of (s3 _ _ hD2)⟩, ?_⟩
    refine lcB_list rfl (SqL.of (s3 _ _ hD2)) ?_ (fun _ => true) (fun x => match x with | .int o => .bl (at_ tb o) | _ => .non) (fun x hx H4 h4 R q => q H4 (Same.refl _)) (fun x hx _ H4 s4 R q => ?_) fun H4 D4 s4 hD4 => ?_
    · rw [List.length_map, List.length_map]
      exact filt_len (by omega)
    · obtain ⟨o, ho, rfl⟩ := List.mem_map.mp hx
      obtain ⟨m, hm, rfl⟩ := List.mem_map.mp ho
      have ok := sub_ok n5 hgm hm
      have c3 := c2.same (s3.trans s4)
      obtain ⟨⟨dx3, t3, h13, h23⟩, _⟩ := id c3
      exact ⟨_, rfl, p, dx3, _, rfl, h13, flds_no _ _ (by decide +kernel) (by decide +kernel), _, rfl, p, n, tb, _, rfl, c3, ok.2.1, ok.2.2, fun H5 s5 => q H5 s5⟩
    · refine ⟨D4, (ins n g).map fun m => at_ tb (g - 1 * 2 ^ m.toNat), rfl, SqL.of ?_, _, rfl, ?_⟩
      · rw [upd_same, List.filter_eq_self.mpr (fun _ _ => rfl), List.map_map, List.map_map, List.map_map]
        rfl
      · exact qbl (by rw [hc, Bool.true_and]) (k _ (s2.trans (s3.trans (s4.trans (same_new hD4 _)))))
  · exact qbl (by rw [hc, Bool.false_and]) (k _ (s2.trans s3))
theorem ok_Council_least {P : Program} {w : World} {K : PySem.W.Frag} {mg : Str → Option Value} {base : Heap} {a : Adr} (T : Txt K mg a) : FnOk P w K mg base CX0 5 a.a_Council_least a.d_Council_least ["self"] (sp_least a.C_Council) := by
  refine T.F_Council_least.ok sc_Council_least (fun vs H Q E h => ?_) (fun cdv A outer s H vs Q E hr h => ?_)
  · obtain ⟨p, n, tb, rfl, _⟩ := h; rfl
  obtain ⟨p, n, tb, rfl, c, k⟩ := h
  refine ⟨_, (pss_one (ps_ret (pe_lc rfl (lcOk_of (S := defScope s_Council_least) (N := ["self"]) (M := ["self", "group"]) (by decide +kernel)) (pi_listK K (pe_call (ok_groups_of T) (hr.mono (by decide)) rfl T.m_groups_of T.F_groups_of.kp (b_groups_of T) .nil pass0 (pa_cons (pe_fldK K (pv 0) rfl) pa_nil))) (fun _ _ _ _ => (pg_name (i := 1) (show List.Nodup (["self", "group"] : List Str) by decide +kernel) rfl (by first | exact Or.inl rfl | exact Or.inr rfl))) (fun _ _ _ _ => (pifs_one (pt_val (pe_meth (pv 0) T.cl_Council T.mt_Council_is_least (ok_Council_is_least T) hr (b_Council_is_least T) .nil pass0 (pa_cons (pv 1) pa_nil))))) (fun _ _ _ _ => (pv 1))))), ?_⟩
  obtain ⟨⟨dx, t, h1, h2⟩, n1, n5, hl⟩ := id c
  have h5 := two_le n5
  refine ⟨_, rfl, p, a.C_Council, dx, _, _, rfl, h1, T.cl_Council, T.n_Council_members, flds_m _ _, n, rfl, n5, fun r H1 nr s1 hr1 => ?_⟩
  refine ⟨r, rfl, ⟨_, SqL.of hr1⟩, ?_⟩
  refine lcB_list rfl (SqL.of hr1) (by rw [List.length_map, up_length]; omega) (fun x => match x with | .int g => at_ tb g && !((ins n g).map fun m => at_ tb (g - 1 * 2 ^ m.toNat)).any id | _ => false) (fun x => x) (fun x hx H2 s2 R q => ?_) (fun x hx _ H2 s2 R q => ⟨_, rfl, q H2 (Same.refl _)⟩) fun H2 D s2 hD => ?_
  · obtain ⟨g, hg, rfl⟩ := List.mem_map.mp hx
    obtain ⟨g0, g1⟩ := mem_up.mp hg
    have c2 := c.same (s1.trans s2)
    obtain ⟨⟨dx2, t2, h12, h22⟩, _⟩ := id c2
    exact ⟨_, rfl, p, dx2, _, rfl, h12, flds_no _ _ (by decide +kernel) (by decide +kernel), _, rfl, p, n, tb, g, rfl, c2, g0, g1, fun H3 s3 => ⟨_, rfl, q H3 s3⟩⟩
  · refine k D _ ((s1.trans s2).free hD) (s1.trans (s2.trans (same_new hD _))) ?_
    rw [upd_same, List.map_id']
    unfold leastBy
    rw [List.filter_map]
    rfl
end Wv
namespace Wv
open PySem L2
/-! ## turned, both, either -/
def tabTurned (n : Nat) (tb : List Bool) : List Bool := (up (2 ^ n)).map fun g => !at_ tb (((2 ^ n : Nat) : Int) - 1 - g)
theorem within_trans : ∀ a : Fin 32, ∀ b : Fin 32, withinB a.val b.val = true → ∀ c : Fin 32, withinB b.val c.val = true → withinB a.val c.val = true := by decide +kernel
theorem within_tr {n : Nat} (hn : n ≤ 5) {a b c : Int} (ha : a ∈ up (2 ^ n)) (hb : b ∈ up (2 ^ n)) (hc : c ∈ up (2 ^ n)) (h1 : withinB a b = true) (h2 : withinB b c = true) : withinB a c = true := by
  have h5 := two_le hn
  obtain ⟨a0, a1⟩ := mem_up.mp ha
  obtain ⟨b0, b1⟩ := mem_up.mp hb
  obtain ⟨c0, c1⟩ := mem_up.mp hc
  have e1 : ((a.toNat : Nat) : Int) = a := by omega
  have e2 : ((b.toNat : Nat) : Int) = b := by omega
  have e3 : ((c.toNat : Nat) : Int) = c := by omega
  have q := within_trans ⟨a.toNat, by omega⟩ ⟨b.toNat, by omega⟩ (by simp only [e1, e2]; exact h1) ⟨c.toNat, by omega⟩ (by simp only [e2, e3]; exact h2)
  simpa only [e1, e3] using q
theorem mono_tab {n : Nat} (hn : n ≤ 5) {gs : List Int} (hg : ∀ g ∈ gs, g ∈ up (2 ^ n)) : Mono n (tabOf n gs) := by
  intro o g ho hg' h1 h2
  obtain ⟨o0, o1⟩ := mem_up.mp ho
  obtain ⟨g0, g1⟩ := mem_up.mp hg'
  rw [at_tab o0 o1] at h2
  rw [at_tab g0 g1]
  unfold carrB at h2 ⊢
  rw [List.any_eq_true] at h2 ⊢
  obtain ⟨x, hx, hw⟩ := h2
  exact ⟨x, hx, within_tr hn (hg x hx) ho hg' hw h1⟩
def sp_turned (C : Addr) : Sp := fun vs H Q _ => ∃ (p : Addr) (n : Nat) (tb : List Bool), vs = [.ref p] ∧ CAt C H p n tb ∧ Mono n tb ∧ ∀ q H', H q = none → Same H H' → CAt C H' q n (tabTurned n tb) → Q (.ref q) H'
end Wv

set_option Elab.async false
set_option linter.all false
set_option maxRecDepth 100000
set_option maxHeartbeats 4000000

namespace Wv
open PySem L2
/-! ## notes.py -/
theorem int_small {i : Int} (h0 : 0 ≤ i) (h1 : i ≤ 5) : i.natAbs.log2 < 1920 := by
  have e : i.natAbs ≤ 5 := by omega
  have : i.natAbs < 2 ^ 1920 := Nat.lt_of_le_of_lt e (by decide +kernel)
  by_cases h : i.natAbs = 0
  · rw [h]; decide
  · exact (Nat.log2_lt h).mpr this
theorem fig_len : ∀ n : Fin 6, (Str.ofString (toString (n.val : Int))).length = 1 := by decide +kernel
theorem fig_len' {i : Int} (h0 : 0 ≤ i) (h1 : i ≤ 5) : (Str.ofString (toString i)).length = 1 := by
  have e : ((i.toNat : Nat) : Int) = i := by omega
  have := fig_len ⟨i.toNat, by omega⟩
  simpa only [e] using this
theorem sum_le_len {zs : List Str} {b : Nat} (h : ∀ z ∈ zs, z.length ≤ b) : (zs.map Str.length).sum ≤ zs.length * b := by
  induction zs with
  | nil => simp
  | cons z r ih =>
    have h1 := h z List.mem_cons_self
    have h2 := ih fun y hy => h y (List.mem_cons_of_mem _ hy)
    simp only [List.map_cons, List.sum_cons, List.length_cons, Nat.succ_mul]
    omega
theorem gtx_ok {n : Nat} (hn : n ≤ 5) {g : Int} (hg : g ∈ up (2 ^ n)) : 32 ∉ cl (gtx g) ∧ (gtx g).length ≤ 5 ∧ 1 ≤ (gtx g).length := by
  have h5 := two_le hn
  obtain ⟨g0, g1⟩ := mem_up.mp hg
  have e : ((g.toNat : Nat) : Int) = g := by omega
  have q := gtx_facts ⟨g.toNat, by omega⟩
  simpa only [e] using q
def sp_group_text : Sp := fun vs H Q _ => ∃ g : Int, vs = [.int g] ∧ ∀ H', Same H H' → Q (.str (gtx g)) H'
theorem ok_group_text {P : Program} {w : World} {K : PySem.W.Frag} {mg : Str → Option Value} {base : Heap} {a : Adr} (T : Txt K mg a) : FnOk P w K mg base CX0 3 a.a_group_text a.d_group_text ["group"] sp_group_text := by
  refine T.F_group_text.ok sc_group_text (fun vs H Q E h => ?_) (fun cdv A outer s H vs Q E hr h => ?_)
  · obtain ⟨g, rfl, _⟩ := h; rfl
  obtain ⟨g, rfl, k⟩ := h
  refine ⟨_, (pss_cons (ps_if (pt_cmpR op_eq (pv 0) pe_int (nomark _)) (pss_one (ps_ret (pe_glob (v := .str "-") rfl T.g_NOBODY ⟨_, rfl⟩))) pss_nil)
      (pss_one (ps_ret (pe_bm PySem.F.plainAttrs_str PySem.F.slot_str_join PySem.F.type_str_join (mt_join K) pe_str (pa_cons (pe_lc rfl (lcOk_of (S := defScope s_group_text) (N := ["group"]) (M := ["group", "member"]) (by decide +kernel)) (pi_listK K (pe_call (ok_members_of T) hr rfl T.m_members_of T.F_members_of.kp (b_members_of T) .nil pass0 (pa_cons (pv 0) pa_nil))) (fun _ _ _ _ => (pg_name (i := 1) (show List.Nodup (["group", "member"] : List Str) by decide +kernel) rfl (by first | exact Or.inl rfl | exact Or.inr rfl))) (fun _ _ _ _ => pifs_nil) (fun _ _ _ _ => (pe_callTy call_str_int rfl T.z_str PyProof.Rows.boot_str (pa_cons (pv 1) pa_nil)))) pa_nil))))), ?_⟩
  refine ⟨_, rfl, rfl, _, rfl, ?_⟩
  refine ite_b (fun hc => ?_) (fun hc => ?_)
  · have e : g = 0 := V.int.inj (of_decide_eq_true hc)
    have w := k H (Same.refl _)
    unfold gtx at w
    rw [if_pos e] at w
    exact w
  · have e : g ≠ 0 := fun z => of_decide_eq_false hc (by rw [z])
    refine ⟨rfl, _, rfl, g, rfl, fun r H1 nr s1 hr1 => ?_⟩
    refine ⟨r, rfl, ⟨_, SqL.of hr1⟩, ?_⟩
    have hil : (ins 5 g).length ≤ 5 := filt_len (Nat.le_refl _)
    refine lcB_list rfl (SqL.of hr1) (by rw [List.length_map]; omega) (fun _ => true) (fun x => match x with | .int m => .str (Str.ofString (toString m)) | _ => .non) (fun x hx H2 s2 R q => q H2 (Same.refl _)) (fun x hx _ H2 s2 R q => ?_) fun H2 D s2 hD => ?_
    · obtain ⟨m, hm, rfl⟩ := List.mem_map.mp hx
      obtain ⟨m0, m1⟩ := mem_up.mp (List.mem_filter.mp hm).1
      exact ⟨_, rfl, m, rfl, int_small m0 (by omega), q H2 (Same.refl _)⟩
    · refine ⟨"", D, (ins 5 g).map fun m => Str.ofString (toString m), rfl, rfl, SqL.of ?_, ?_, ?_⟩
      · rw [upd_same, List.filter_eq_self.mpr (fun _ _ => rfl), List.map_map, List.map_map]
        rfl
      · have z := sum_le_len (zs := (ins 5 g).map fun m => Str.ofString (toString m)) (b := 1) fun z hz => by
          obtain ⟨m, hm, rfl⟩ := List.mem_map.mp hz
          obtain ⟨m0, m1⟩ := mem_up.mp (List.mem_filter.mp hm).1
          exact Nat.le_of_eq (fig_len' m0 (by omega))
        rw [List.length_map] at z ⊢
        have z0 : (Str.ofString "").length = 0 := by decide +kernel
        rw [z0]
        omega
      · have ew : gtx g = Str.join "" ((ins 5 g).map fun m => Str.ofString (toString m)) := by
          unfold gtx
          rw [if_neg e]
        show Q (V.str (Str.join "" ((ins 5 g).map fun m => Str.ofString (toString m)))) _
        rw [← ew]
        exact k _ (s1.trans (s2.trans (same_new hD _)))
def sp_written (C : Addr) : Sp := fun vs H Q _ => ∃ (p : Addr) (n : Nat) (tb : List Bool), vs = [.ref p] ∧ CAt C H p n tb ∧ ∀ H', Same H H' → Q (.str (wtx n tb)) H'
theorem least_mem {f : Int → Int → Int} {n : Nat} {tb : List Bool} {g : Int} (h : g ∈ leastBy f n tb) : g ∈ up (2 ^ n) := (List.mem_filter.mp h).1
theorem least_len {f : Int → Int → Int} {n : Nat} (hn : n ≤ 5) {tb : List Bool} : (leastBy f n tb).length ≤ 32 := Nat.le_trans (filt_len (Nat.le_refl _)) (two_le hn)
theorem str_len (a b : Str) : (a ++ b).length = a.length + b.length := by
  rw [← cl_len, ← cl_len, ← cl_len, cl_app, List.length_append]
theorem join_len0 (zs : List Str) : (Str.join "" zs).length = (zs.map Str.length).sum := by
  have e : (Str.ofString "" : Str) = ⟨#[]⟩ := by decide +kernel
  rw [← cl_len, show (Str.join "" zs) = Str.join ⟨#[]⟩ zs by rw [← e], cl_join0, List.length_flatten, List.map_map]
  congr 1
theorem one_blank : (Str.ofString " ").length = 1 := by decide +kernel
theorem words_len {n : Nat} (hn : n ≤ 5) {tb : List Bool} : (((leastBy (fun g m => g - 1 * 2 ^ m.toNat) n tb).map fun g => Str.ofString " " ++ gtx g).map Str.length).sum ≤ 32 * 6 := by
  refine Nat.le_trans (sum_le_len (b := 6) fun z hz => ?_) (by rw [List.length_map]; have := least_len hn (f := fun g m => g - 1 * 2 ^ m.toNat) (tb := tb); exact Nat.mul_le_mul this (Nat.le_refl _))
  obtain ⟨g, hg, rfl⟩ := List.mem_map.mp hz
  have := (gtx_ok hn (least_mem hg)).2.1
  rw [str_len, one_blank]
  omega
theorem ok_written {P : Program} {w : World} {K : PySem.W.Frag} {mg : Str → Option Value} {base : Heap} {a : Adr} (T : Txt K mg a) : FnOk P w K mg base CX0 6 a.a_written a.d_written ["council"] (sp_written a.C_Council) := by
  refine T.F_written.ok sc_written (fun vs H Q E h => ?_) (fun cdv A outer s H vs Q E hr h => ?_)
  · obtain ⟨p, n, tb, rfl, _⟩ := h; rfl
  obtain ⟨p, n, tb, rfl, c, k⟩ := h
  refine ⟨_, (pss_one (ps_ret (pe_op op_add_str (pe_op op_add_str (pe_callTy call_str_int rfl T.z_str PyProof.Rows.boot_str (pa_cons (pe_fldK K (pv 0) rfl) pa_nil)) pe_str) (pe_bm PySem.F.plainAttrs_str PySem.F.slot_str_join PySem.F.type_str_join (mt_join K) pe_str (pa_cons (pe_lc rfl (lcOk_of (S := defScope s_written) (N := ["council"]) (M := ["council", "group"]) (by decide +kernel)) (pi_listK K (pe_meth0 (pv 0) T.cl_Council T.mt_Council_least (ok_Council_least T) hr (b_Council_least T) .nil pass0)) (fun _ _ _ _ => (pg_name (i := 1) (show List.Nodup (["council", "group"] : List Str) by decide +kernel) rfl (by first | exact Or.inl rfl | exact Or.inr rfl))) (fun _ _ _ _ => pifs_nil) (fun _ _ _ _ => (pe_op op_add_str pe_str (pe_call (ok_group_text T) (hr.mono (by decide)) rfl T.m_group_text T.F_group_text.kp (b_group_text T) .nil pass0 (pa_cons (pv 1) pa_nil))))) pa_nil))))), ?_⟩
  obtain ⟨⟨dx, t, h1, h2⟩, n1, n5, hl⟩ := id c
  have hf1 : (Str.ofString (toString (n : Int))).length = 1 := fig_len' (by omega) (by omega)
  have hc1 : (Str.ofString ":").length = 1 := by decide +kernel
  have big : (sizeLine : Nat) = 16777216 := by decide
  refine ⟨_, rfl, p, a.C_Council, dx, _, _, rfl, h1, T.cl_Council, T.n_Council_members, flds_m _ _, _, rfl, int_small (by omega) (by omega), _, _, rfl, rfl, by rw [hf1, hc1]; omega, ?_⟩
  refine ⟨rfl, _, rfl, p, dx, _, rfl, h1, flds_no _ _ (by decide +kernel) (by decide +kernel), p, n, _, rfl, c, fun r H1 nr s1 hr1 => ?_⟩
  refine ⟨r, rfl, ⟨_, SqL.of hr1⟩, ?_⟩
  have hll := least_len n5 (f := fun g m => g - 1 * 2 ^ m.toNat) (tb := tb)
  refine lcB_list rfl (SqL.of hr1) (by rw [List.length_map]; omega) (fun _ => true) (fun x => match x with | .int g => .str (Str.ofString " " ++ gtx g) | _ => .non) (fun x hx H2 s2 R q => q H2 (Same.refl _)) (fun x hx _ H2 s2 R q => ?_) fun H2 D s2 hD => ?_
  · obtain ⟨g, hg, rfl⟩ := List.mem_map.mp hx
    have hgl := (gtx_ok n5 (least_mem hg)).2.1
    refine ⟨_, rfl, g, rfl, fun H3 s3 => ⟨_, _, rfl, rfl, by rw [one_blank]; omega, q H3 s3⟩⟩
  · have wl := words_len n5 (tb := tb)
    refine ⟨"", D, (leastBy (fun g m => g - 1 * 2 ^ m.toNat) n tb).map fun g => Str.ofString " " ++ gtx g, rfl, rfl, SqL.of ?_, ?_, ?_⟩
    · rw [upd_same, List.filter_eq_self.mpr (fun _ _ => rfl), List.map_map, List.map_map]
      rfl
    · have z0 : (Str.ofString "").length = 0 := by decide +kernel
      rw [z0]
      omega
    · refine ⟨_, _, rfl, rfl, ?_, ?_⟩
      · rw [str_len, hf1, hc1, join_len0]
        omega
      · exact k _ (s1.trans (s2.trans (same_new hD _)))
/-! ### reading -/
def figL : List Str := (up 5).map fun i => Str.ofString (toString (1 + i))
def figN (f : Str) : Option Nat := ([1, 2, 3, 4, 5] : List Nat).find? fun (n : Nat) => Str.ofString (toString (n : Int)) == f
def knownL (n : Nat) : List Str := (up (2 ^ n)).map gtx
def readF (z : Str) : Option (Nat × List Int) :=
  match figN (Txt.slice z none (some 1)) with
  | none => none
  | some n => if (((Txt.split (Txt.slice z (some 2) none) " ").drop 1).all fun w => (knownL n).contains w) = true then
      (if wtx n (tabOf n (((Txt.split (Txt.slice z (some 2) none) " ").drop 1).map fun w => (((knownL n).idxOf w : Nat) : Int))) = z then some (n, ((Txt.split (Txt.slice z (some 2) none) " ").drop 1).map fun w => (((knownL n).idxOf w : Nat) : Int)) else none)
      else none
theorem inV_strs (f : Str) (zs : List Str) : inV (.str f) (zs.map V.str) = zs.contains f := by
  induction zs with
  | nil => rfl
  | cons z r ih =>
    unfold inV at ih ⊢
    rw [List.map_cons, List.any_cons, ih, List.contains_cons]
    congr 1
    show (z == f) = (f == z)
    rw [Bool.eq_iff_iff, beq_iff_eq, beq_iff_eq]
    exact eq_comm
theorem flat_strs (zs : List Str) : (zs.map V.str).all flatV = true := by
  rw [List.all_map, List.all_eq_true]
  intro x _
  rfl
theorem figL_is : figL = ([1, 2, 3, 4, 5] : List Nat).map fun (n : Nat) => Str.ofString (toString (n : Int)) := by decide +kernel
theorem fig_mem (f : Str) : figL.contains f = (figN f).isSome := by
  rw [figL_is]
  unfold figN
  rw [List.contains_eq_any_beq, List.any_map, Bool.eq_iff_iff, List.any_eq_true, List.find?_isSome]
  constructor
  · rintro ⟨x, hx, h⟩
    exact ⟨x, hx, beq_iff_eq.mpr (beq_iff_eq.mp h).symm⟩
  · rintro ⟨x, hx, h⟩
    exact ⟨x, hx, beq_iff_eq.mpr (beq_iff_eq.mp h).symm⟩
theorem fig_int : ∀ n : Fin 6, PySem.intText? (Str.ofString (toString (n.val : Int))) = some (n.val : Int) := by decide +kernel
theorem figN_some {f : Str} {n : Nat} (h : figN f = some n) : f = Str.ofString (toString (n : Int)) ∧ 1 ≤ n ∧ n ≤ 5 := by
  unfold figN at h
  have h1 := List.find?_some h
  have h2 := List.mem_of_find?_eq_some h
  refine ⟨(beq_iff_eq.mp h1).symm, ?_⟩
  simp only [List.mem_cons, List.not_mem_nil, or_false] at h2
  omega
def sp_members_read (B : Addr) : Sp := fun vs H Q E => ∃ f : Str, vs = [.str f] ∧ (∀ n, figN f = some n → ∀ H', Same H H' → Q (.int n) H') ∧ (figN f = none → ∀ H', Same H H' → E (.ref B) none H')
theorem okx_members_read {P : Program} {w : World} {K : PySem.W.Frag} {mg : Str → Option Value} {base : Heap} {a : Adr} (T : Txt K mg a) : FnOk P w K mg base (CXe P w) 1 a.a_members_read a.d_members_read ["figure"] (sp_members_read a.C_BadText) := by
  refine T.F_members_read.okX sc_members_read (fun vs H Q E h => ?_) (fun cdv A outer s H vs Q E hr h => ?_)
  · obtain ⟨f, rfl, _⟩ := h; rfl
  obtain ⟨f, rfl, k1, k2⟩ := h
  refine ⟨_, (pss_cons (ps_lc (i := 1) sc_members_read.nd rfl rfl rfl (lcOk_of (S := defScope s_members_read) (N := ["figure", "figures"]) (M := ["figure", "figures", "members"]) (by decide +kernel)) (pi_range2 rfl T.z_range (pa_cons pe_int (pa_cons (pe_op op_add (pe_glob (v := .int 5) rfl T.g_MOST_MEMBERS ⟨_, rfl⟩) pe_int) pa_nil))) (fun _ _ _ _ => (pg_name (i := 2) (show List.Nodup (["figure", "figures", "members"] : List Str) by decide +kernel) rfl (by first | exact Or.inl rfl | exact Or.inr rfl))) (fun _ _ _ _ => pifs_nil) (fun _ _ _ _ => (pe_callTy call_str_int rfl T.z_str PyProof.Rows.boot_str (pa_cons (pv 2) pa_nil))))
      (pss_cons (ps_if (pt_cmpR (op_notInK K) (pv 0) (pv 1) rfl) (pss_one (ps_raise (EX := fun H' => E (.ref a.C_BadText) none H') rfl rfl T.m_BadText T.x_BadText.ex (pa_cons pe_str pa_nil) fun _ _ _ _ _ _ _ I hm ex => raise_leaves I hm ex)) pss_nil)
      (pss_one (ps_ret (pe_callTy call_int_str rfl T.z_int PyProof.Rows.boot_int (pa_cons (pv 0) pa_nil)))))), ?_⟩
  refine ⟨_, _, rfl, rfl, 1, _, rfl, ⟨by decide, by decide, by decide, by decide⟩, ?_⟩
  refine lcB_from (k := 5) rfl (by omega) (fun i => .str (Str.ofString (toString i))) (fun x x0 x1 H1 s1 R q => ⟨_, rfl, x, rfl, int_small (by omega) (by omega), q H1 (Same.refl _)⟩) fun H1 D s1 hD => ?_
  have s2 : Same H (upd H1 D (.lst ((up 5).map fun i => .str (Str.ofString (toString (1 + i)))))) := s1.trans (same_new hD _)
  have hD2 : upd H1 D (.lst ((up 5).map fun i => .str (Str.ofString (toString (1 + i))))) D = some (.lst (figL.map V.str)) := by
    rw [upd_same]
    unfold figL
    rw [List.map_map]
    rfl
  generalize upd H1 D (.lst ((up 5).map fun i => .str (Str.ofString (toString (1 + i))))) = H2 at s2 hD2
  refine ⟨_, rfl, _, rfl, D, _, rfl, .inl (SqL.of hD2), rfl, flat_strs _, _, rfl, ?_⟩
  dsimp only [if_true]
  rw [inV_strs, fig_mem]
  cases e : figN f with
  | none => exact iteT ⟨(by show 1 ≤ sizeLine; decide), k2 e _ s2⟩
  | some n =>
    obtain ⟨rfl, n1, n5⟩ := figN_some e
    refine iteF ⟨_, rfl, _, (n : Int), rfl, fig_int ⟨n, by omega⟩, ?_, k1 n e _ s2⟩
    rw [fig_len' (by omega) (by omega)]
    decide
theorem cut_drop1 (xs : List V) : cutV xs (some 1) none = xs.drop 1 := by
  unfold cutV
  cases xs with
  | nil => simp [HT.sIx]
  | cons x r =>
    have h1 : ¬ ((1 : Int) < 0) := by omega
    simp only [HT.sIx, h1, if_false]
    have e : min (1 : Int).toNat (x :: r).length = 1 := by
      rw [List.length_cons]
      show min 1 (r.length + 1) = 1
      omega
    rw [e, List.take_of_length_le (by rw [List.length_drop]; exact Nat.le_refl _)]
def sp_groups_read (B : Addr) : Sp := fun vs H Q E => ∃ (z : Str) (n : Nat), vs = [.str z, .int n] ∧ n ≤ 5 ∧ z.length ≤ 100000 ∧ (Txt.split z " ").length ≤ 1000 ∧
  ((((Txt.split z " ").drop 1).all fun w => (knownL n).contains w) = true → ∀ r H', H r = none → Same H H' → H' r = some (.lst ((((Txt.split z " ").drop 1).map fun w => (((knownL n).idxOf w : Nat) : Int)).map V.int)) → Q (.ref r) H') ∧
  ((((Txt.split z " ").drop 1).all fun w => (knownL n).contains w) = false → ∀ H', Same H H' → E (.ref B) none H')
theorem knownL_len (n : Nat) : (knownL n).length = 2 ^ n := by unfold knownL; rw [List.length_map, up_length]
theorem okx_groups_read {P : Program} {w : World} {K : PySem.W.Frag} {mg : Str → Option Value} {base : Heap} {a : Adr} (T : Txt K mg a) : FnOk P w K mg base (CXe P w) 4 a.a_groups_read a.d_groups_read ["text", "members"] (sp_groups_read a.C_BadText) := by
  refine T.F_groups_read.okX sc_groups_read (fun vs H Q E h => ?_) (fun cdv A outer s H vs Q E hr h => ?_)
  · obtain ⟨z, n, rfl, _⟩ := h; rfl
  obtain ⟨z, n, rfl, n5, hz, hw, k1, k2⟩ := h
  refine ⟨_, (pss_cons (ps_set (i := 2) sc_groups_read.nd rfl (by first | exact Or.inl rfl | exact Or.inr rfl) (pe_lc rfl (lcOk_of (S := defScope s_groups_read) (N := ["text", "members", "known", "words"]) (M := ["text", "members", "known", "words", "group"]) (by decide +kernel)) (pi_listK K (pe_call (ok_groups_of T) (hr.mono (by decide)) rfl T.m_groups_of T.F_groups_of.kp (b_groups_of T) .nil pass0 (pa_cons (pv 1) pa_nil))) (fun _ _ _ _ => (pg_name (i := 4) (show List.Nodup (["text", "members", "known", "words", "group"] : List Str) by decide +kernel) rfl (by first | exact Or.inl rfl | exact Or.inr rfl))) (fun _ _ _ _ => pifs_nil) (fun _ _ _ _ => (pe_call (ok_group_text T) hr rfl T.m_group_text T.F_group_text.kp (b_group_text T) .nil pass0 (pa_cons (pv 4) pa_nil)))))
      (pss_cons (ps_set (i := 3) sc_groups_read.nd rfl (by first | exact Or.inl rfl | exact Or.inr rfl) (pe_slice (sl_listK K) (pe_bm PySem.F.plainAttrs_str PySem.F.slot_str_split PySem.F.type_str_split mt_split (pv 0) (pa_cons pe_str pa_nil)) (po_some pe_int) po_none))
      (pss_cons (ps_if (pt_not (pt_val (pe_callB (call_allK K rfl) rfl T.z_all PyProof.Rows.boot_all (pa_cons (pe_lc rfl (lcOk_of (S := defScope s_groups_read) (N := ["text", "members", "known", "words"]) (M := ["text", "members", "known", "words", "word"]) (by decide +kernel)) (pi_listK K (pv 3)) (fun _ _ _ _ => (pg_name (i := 4) (show List.Nodup (["text", "members", "known", "words", "word"] : List Str) by decide +kernel) rfl (by first | exact Or.inl rfl | exact Or.inr rfl))) (fun _ _ _ _ => pifs_nil) (fun _ _ _ _ => (pe_cmpR (op_inK K) (pv 4) (pv 2) rfl))) pa_nil)))) (pss_one (ps_raise (EX := fun H' => E (.ref a.C_BadText) none H') rfl rfl T.m_BadText T.x_BadText.ex (pa_cons pe_str pa_nil) fun _ _ _ _ _ _ _ I hm ex => raise_leaves I hm ex)) pss_nil)
      (pss_one (ps_ret (pe_lc rfl (lcOk_of (S := defScope s_groups_read) (N := ["text", "members", "known", "words"]) (M := ["text", "members", "known", "words", "word"]) (by decide +kernel)) (pi_listK K (pv 3)) (fun _ _ _ _ => (pg_name (i := 4) (show List.Nodup (["text", "members", "known", "words", "word"] : List Str) by decide +kernel) rfl (by first | exact Or.inl rfl | exact Or.inr rfl))) (fun _ _ _ _ => pifs_nil) (fun _ _ _ _ => (pe_bmK K PySem.F.plainAttrs_list PySem.F.slot_list_index PySem.F.type_list_index (mt_index K) (pv 2) (pa_cons (pv 4) pa_nil))))))))), ?_⟩
  have h5 := two_le n5
  -- the known
  refine ⟨_, rfl, n, rfl, n5, fun r H1 nr s1 hr1 => ?_⟩
  refine ⟨r, rfl, ⟨_, SqL.of hr1⟩, ?_⟩
  refine lcB_list rfl (SqL.of hr1) (by rw [List.length_map, up_length]; omega) (fun _ => true) (fun x => match x with | .int g => .str (gtx g) | _ => .non) (fun x hx H2 s2 R q => q H2 (Same.refl _)) (fun x hx _ H2 s2 R q => ?_) fun H2 D s2 hD => ?_
  · obtain ⟨g, hg, rfl⟩ := List.mem_map.mp hx
    exact ⟨_, rfl, g, rfl, fun H3 s3 => q H3 s3⟩
  have eD : ((((up (2 ^ n)).map V.int).filter fun _ => true).map fun x => match x with | .int g => V.str (gtx g) | _ => .non) = (knownL n).map V.str := by
    unfold knownL
    rw [List.filter_eq_self.mpr (fun _ _ => rfl), List.map_map, List.map_map]
    rfl
  rw [eD]
  have s3 : Same H (upd H2 D (.lst ((knownL n).map V.str))) := s1.trans (s2.trans (same_new hD _))
  have hD3 : upd H2 D (.lst ((knownL n).map V.str)) D = some (.lst ((knownL n).map V.str)) := upd_same
  generalize upd H2 D (.lst ((knownL n).map V.str)) = H3 at s3 hD3
  -- the words
  refine ⟨_, rfl, rfl, z, _, rfl, rfl, (by decide +kernel), by omega, fun w nw => ?_⟩
  generalize Txt.split z (Str.ofString " ") = ps at hw k1 k2
  refine ⟨_, rfl, w, _, rfl, SqL.of upd_same, fun v nv => ?_⟩
  have ec : cutV (ps.map V.str) (some 1) none = (ps.drop 1).map V.str := by rw [cut_drop1, List.map_drop]
  rw [ec]
  have hl1 : (ps.drop 1).length ≤ 1000 := by rw [List.length_drop]; omega
  generalize ps.drop 1 = ws at hl1 k1 k2
  have s4 : Same H3 (upd (upd H3 w (.lst (ps.map V.str))) v (.lst (ws.map V.str))) := (same_new nw _).trans (same_new nv _)
  have hv : upd (upd H3 w (.lst (ps.map V.str))) v (.lst (ws.map V.str)) v = some (.lst (ws.map V.str)) := upd_same
  generalize upd (upd H3 w (.lst (ps.map V.str))) v (.lst (ws.map V.str)) = H4 at s4 hv
  have hD4 := s4 _ _ hD3
  -- all known?
  refine ⟨_, rfl, v, rfl, ⟨_, SqL.of hv⟩, ?_⟩
  refine lcB_list rfl (SqL.of hv) (by rw [List.length_map]; exact hl1) (fun _ => true) (fun x => match x with | .str y => .bl ((knownL n).contains y) | _ => .non) (fun x hx H5 s5 R q => q H5 (Same.refl _)) (fun x hx _ H5 s5 R q => ?_) fun H5 D2 s5 hD5 => ?_
  · obtain ⟨y, hy, rfl⟩ := List.mem_map.mp hx
    refine ⟨_, rfl, _, rfl, D, _, rfl, .inl (SqL.of (s5 _ _ hD4)), rfl, flat_strs _, ?_⟩
    have w : R (.bl ((knownL n).contains y)) H5 := q H5 (Same.refl _)
    rw [← inV_strs] at w
    exact w
  refine ⟨D2, ws.map fun y => (knownL n).contains y, rfl, SqL.of ?_, _, rfl, ?_⟩
  · rw [upd_same, List.filter_eq_self.mpr (fun _ _ => rfl), List.map_map, List.map_map]
    rfl
  have s6 : Same H4 (upd H5 D2 (.lst (((ws.map V.str).filter fun _ => true).map fun x => match x with | .str y => V.bl ((knownL n).contains y) | _ => .non))) := s5.trans (same_new hD5 _)
  generalize upd H5 D2 (.lst (((ws.map V.str).filter fun _ => true).map fun x => match x with | .str y => V.bl ((knownL n).contains y) | _ => .non)) = H6 at s6
  have ea : ((ws.map fun y => (knownL n).contains y).all id) = ws.all fun w => (knownL n).contains w := by rw [List.all_map]; rfl
  rw [ea]
  cases hall : ws.all fun w => (knownL n).contains w with
  | false => exact iteT ⟨(by show 1 ≤ sizeLine; decide), k2 hall _ (s3.trans (s4.trans s6))⟩
  | true =>
    refine iteF ⟨_, rfl, v, rfl, ⟨_, SqL.of (s6 _ _ hv)⟩, ?_⟩
    refine lcB_list rfl (SqL.of (s6 _ _ hv)) (by rw [List.length_map]; exact hl1) (fun _ => true) (fun x => match x with | .str y => .int (((knownL n).idxOf y : Nat) : Int) | _ => .non) (fun x hx H7 s7 R q => q H7 (Same.refl _)) (fun x hx _ H7 s7 R q => ?_) fun H7 D3 s7 hD7 => ?_
    · obtain ⟨y, hy, rfl⟩ := List.mem_map.mp hx
      have hin : y ∈ knownL n := List.contains_iff_mem.mp (List.all_eq_true.mp hall y hy)
      have hj : (knownL n).idxOf y < (knownL n).length := List.idxOf_lt_length_iff.mpr hin
      refine ⟨_, rfl, .inl ⟨rfl, _, SqL.of (s7 _ _ (s6 _ _ hD4))⟩, _, rfl, D, _, _, (knownL n).idxOf y, rfl, rfl, SqL.of (s7 _ _ (s6 _ _ hD4)), rfl, flat_strs _, by rw [List.length_map]; exact hj, by rw [List.length_map, knownL_len]; omega, ?_, ?_, q H7 (Same.refl _)⟩
      · intro u hu
        rw [List.getElem?_map, List.getElem?_eq_getElem hj, List.getElem_idxOf hj] at hu
        cases hu
        show (y == y) = true
        exact beq_self_eq_true y
      · intro i u hi hu
        rw [List.getElem?_map, List.getElem?_eq_getElem (by omega)] at hu
        cases hu
        have hlt : i < (knownL n).findIdx (· == y) := hi
        have := List.not_of_lt_findIdx hlt
        show ((knownL n)[i] == y) = false
        simpa using this
    · refine k1 hall D3 _ ((s3.trans (s4.trans (s6.trans s7))).free hD7) (s3.trans (s4.trans (s6.trans (s7.trans (same_new hD7 _))))) ?_
      rw [upd_same, List.filter_eq_self.mpr (fun _ _ => rfl), List.map_map, List.map_map]
      rfl
def sp_read (K : PySem.W.Frag) (C B : Addr) : Sp := fun vs H Q E => (∃ z : Str, vs = [.str z] ∧ z.length ≤ 100000 ∧ (Txt.split (Txt.slice z (some 2) none) " ").length ≤ 1000 ∧
    (∀ n gs, readF z = some (n, gs) → ∀ q H', H q = none → Same H H' → CAt C H' q n (tabOf n gs) → Q (.ref q) H') ∧ (readF z = none → ∀ H', Same H H' → E (.ref B) none H')) ∨
  (∃ v t, vs = [v] ∧ TyOf K H v (.type t) ∧ (t == "str") = false ∧ ∀ H', Same H H' → E (.ref B) none H')
theorem slice_len (z : Str) (lo hi : Option Int) : (Txt.slice z lo hi).length ≤ z.length := Txt.slice_le z lo hi
theorem idx_ok {n : Nat} {ws : List Str} (h : (ws.all fun w => (knownL n).contains w) = true) : ∀ g ∈ ws.map (fun w => (((knownL n).idxOf w : Nat) : Int)), 0 ≤ g ∧ g < ((2 ^ n : Nat) : Int) := by
  intro g hg
  obtain ⟨w, hw, rfl⟩ := List.mem_map.mp hg
  have hin : w ∈ knownL n := List.contains_iff_mem.mp (List.all_eq_true.mp h w hw)
  have hj : (knownL n).idxOf w < (knownL n).length := List.idxOf_lt_length_iff.mpr hin
  rw [knownL_len] at hj
  omega
theorem okx_read {P : Program} {w : World} {K : PySem.W.Frag} {mg : Str → Option Value} {base : Heap} {a : Adr} (T : Txt K mg a) : FnOk P w K mg base (CXe P w) 7 a.a_read a.d_read ["text"] (sp_read K a.C_Council a.C_BadText) := by
  refine T.F_read.okX sc_read (fun vs H Q E h => ?_) (fun cdv A outer s H vs Q E hr h => ?_)
  · rcases h with ⟨z, rfl, _⟩ | ⟨v, t, rfl, _⟩ <;> rfl
  have big : (sizeLine : Nat) = 16777216 := by decide
  rcases h with ⟨z, rfl, hz, hw, k1, k2⟩ | ⟨v, t, rfl, ty, ht, k2⟩
  · refine ⟨_, (pss_cons (ps_if (pt_not (pt_val (pe_callB (call_isS K) rfl T.z_isinstance PyProof.Rows.boot_isinstance (pa_cons (pv 0) (pa_cons (pe_bltn (v := .ty "str") rfl T.z_str PyProof.Rows.boot_str rfl) pa_nil))))) (pss_one (ps_raise (EX := fun H' => E (.ref a.C_BadText) none H') rfl rfl T.m_BadText T.x_BadText.ex (pa_cons pe_str pa_nil) fun _ _ _ _ _ _ _ I hm ex => raise_leaves I hm ex)) pss_nil)
      (pss_cons (ps_set (i := 1) sc_read.nd rfl (by first | exact Or.inl rfl | exact Or.inr rfl) (pe_call (okx_members_read T) (hr.mono (by decide)) rfl T.m_members_read T.F_members_read.kp (b_members_read T) .nil passes_on (pa_cons (pe_slice sl_str (pv 0) po_none (po_some pe_int)) pa_nil)))
      (pss_cons (ps_set (i := 2) sc_read.nd rfl (by first | exact Or.inl rfl | exact Or.inr rfl) (pe_make T.mk_Council (ok_Council_init T) (hr.mono (by decide)) rfl T.m_Council (b_Council_init T) .nil pass0 (pa_cons (pv 1) (pa_cons (pe_call (okx_groups_read T) (hr.mono (by decide)) rfl T.m_groups_read T.F_groups_read.kp (b_groups_read T) .nil passes_on (pa_cons (pe_slice sl_str (pv 0) (po_some pe_int) po_none) (pa_cons (pv 1) pa_nil))) pa_nil))))
      (pss_cons (ps_if (pt_cmpR op_ne (pe_call (ok_written T) hr rfl T.m_written T.F_written.kp (b_written T) .nil pass0 (pa_cons (pv 2) pa_nil)) (pv 0) (nomark _)) (pss_one (ps_raise (EX := fun H' => E (.ref a.C_BadText) none H') rfl rfl T.m_BadText T.x_BadText.ex (pa_cons pe_str pa_nil) fun _ _ _ _ _ _ _ I hm ex => raise_leaves I hm ex)) pss_nil)
      (pss_one (ps_ret (pv 2))))))), ?_⟩
    refine ⟨_, rfl, _, "str", true, rfl, .str z, rfl, _, rfl, iteF ?_⟩
    refine ⟨_, rfl, 1, rfl, z, rfl, by omega, _, rfl, fun n hn H1 s1 => ?_, fun hn H1 s1 => ?_⟩
    · obtain ⟨_, n1, n5⟩ := figN_some hn
      refine ⟨_, rfl, _, rfl, 2, rfl, z, rfl, by omega, _, rfl, _, n, rfl, n5, Nat.le_trans (slice_len z _ _) hz, hw, fun hall r H2 nr s2 hr2 => ?_, fun hall H2 s2 => ?_⟩
      · intro x dx nx ndx nex
        have s4 : Same H2 (upd (upd H2 dx (.own x)) x (.ins a.C_Council dx [])) := (same_new ndx _).trans (same_new (by rw [upd_ne (Ne.symm nex)]; exact nx) _)
        refine ⟨x, dx, n, r, _, rfl, upd_same, n1, n5, s4 _ _ hr2, ⟨?_, idx_ok hall⟩, fun H4 c0 kp4 => ⟨rfl, ?_⟩⟩
        · rw [List.length_map, List.length_drop]; omega
        have s24 : Same H2 H4 := fun b o hb' => kp4 b o (s4 b o hb') (ne_of_none hb' nx)
        refine ⟨_, rfl, x, n, _, rfl, c0, fun H5 s5 => ⟨_, rfl, rfl, _, rfl, ?_⟩⟩
        by_cases e : wtx n (tabOf n (((Txt.split (Txt.slice z (some 2) none) " ").drop 1).map fun w => (((knownL n).idxOf w : Nat) : Int))) = z
        · refine ite_f (by rw [decide_eq_true (by rw [e])]; rfl) ?_
          refine ⟨_, rfl, ?_⟩
          refine k1 n _ ?_ x H5 ((s1.trans s2).free nx) (s1.trans (s2.trans (s24.trans s5))) (c0.same s5)
          unfold readF
          rw [hn]
          dsimp only
          rw [if_pos hall, if_pos e]
        · refine ite_t (by rw [decide_eq_false (fun q => e (V.str.inj q))]; rfl) ⟨(by show 1 ≤ sizeLine; decide), ?_⟩
          refine k2 ?_ H5 (s1.trans (s2.trans (s24.trans s5)))
          unfold readF
          rw [hn]
          dsimp only
          rw [if_pos hall, if_neg e]
      · refine k2 ?_ H2 (s1.trans s2)
        unfold readF
        rw [hn]
        dsimp only
        rw [if_neg (ne_true_of_eq_false hall)]
    · refine k2 ?_ H1 s1
      unfold readF
      rw [hn]
  · refine ⟨_, (pss_cons (ps_if (pt_not (pt_val (pe_callB (call_isS K) rfl T.z_isinstance PyProof.Rows.boot_isinstance (pa_cons (pv 0) (pa_cons (pe_bltn (v := .ty "str") rfl T.z_str PyProof.Rows.boot_str rfl) pa_nil))))) (pss_one (ps_raise (EX := fun H' => E (.ref a.C_BadText) none H') rfl rfl T.m_BadText T.x_BadText.ex (pa_cons pe_str pa_nil) fun _ _ _ _ _ _ _ I hm ex => raise_leaves I hm ex)) pss_nil)
      (pss_cons (ps_set (i := 1) sc_read.nd rfl (by first | exact Or.inl rfl | exact Or.inr rfl) (pe_call (okx_members_read T) (hr.mono (by decide)) rfl T.m_members_read T.F_members_read.kp (b_members_read T) .nil passes_on (pa_cons (pe_slice sl_str (pv 0) po_none (po_some pe_int)) pa_nil)))
      (pss_cons (ps_set (i := 2) sc_read.nd rfl (by first | exact Or.inl rfl | exact Or.inr rfl) (pe_make T.mk_Council (ok_Council_init T) (hr.mono (by decide)) rfl T.m_Council (b_Council_init T) .nil pass0 (pa_cons (pv 1) (pa_cons (pe_call (okx_groups_read T) (hr.mono (by decide)) rfl T.m_groups_read T.F_groups_read.kp (b_groups_read T) .nil passes_on (pa_cons (pe_slice sl_str (pv 0) (po_some pe_int) po_none) (pa_cons (pv 1) pa_nil))) pa_nil))))
      (pss_cons (ps_if (pt_cmpR op_ne (pe_call (ok_written T) hr rfl T.m_written T.F_written.kp (b_written T) .nil pass0 (pa_cons (pv 2) pa_nil)) (pv 0) (nomark _)) (pss_one (ps_raise (EX := fun H' => E (.ref a.C_BadText) none H') rfl rfl T.m_BadText T.x_BadText.ex (pa_cons pe_str pa_nil) fun _ _ _ _ _ _ _ I hm ex => raise_leaves I hm ex)) pss_nil)
      (pss_one (ps_ret (pv 2))))))), ?_⟩
    exact ⟨_, rfl, v, t, false, rfl, ty, ht, _, rfl, iteT ⟨(by show 1 ≤ sizeLine; decide), k2 H (Same.refl _)⟩⟩
end Wv

set_option Elab.async false
set_option linter.all false
set_option maxRecDepth 100000
set_option maxHeartbeats 4000000

namespace Wv
open PySem L2
theorem shl_v (n : Nat) : [V.int ((1 : Int) * 2 ^ ((n : Int)).toNat)] = [V.int ((2 ^ n : Nat) : Int)] := by rw [pow_n]
/-! ## the law's own defs -/
def ScrOk (K : PySem.W.Frag) (H : Hp) (a : Addr) : Prop := ∃ ns : List Int, SqL K H a (ns.map V.int) ∧ ns.length ≤ 63
theorem ScrOk.same {K : PySem.W.Frag} {H H' : Hp} {a : Addr} (h : ScrOk K H a) (s : Same H H') : ScrOk K H' a := by
  obtain ⟨ns, h1, h2⟩ := h
  exact ⟨ns, s.seq h1, h2⟩
def sp_law_cell_at (K : PySem.W.Frag) : Sp := fun vs H Q _ => ∃ (a : Addr) (k : Int), vs = [.ref a, .int k] ∧ ScrOk K H a ∧ 0 ≤ k ∧ ∀ (r : Int) H', Same H H' → Q (.int r) H'
theorem ok_law_cell_at {P : Program} {w : World} {K : PySem.W.Frag} {mg : Str → Option Value} {base : Heap} {a : Adr} (T : Txt K mg a) : FnOk P w K mg base CX0 1 a.a_law_cell_at a.d_law_cell_at ["_law_script", "_law_k"] (sp_law_cell_at K) := by
  refine T.F_law_cell_at.ok sc_law_cell_at (fun vs H Q E h => ?_) (fun cdv A outer s H vs Q E hr h => ?_)
  · obtain ⟨a, k, rfl, _⟩ := h; rfl
  obtain ⟨a, k, rfl, ⟨ns, hS, hz⟩, k0, q⟩ := h
  refine ⟨_, (pss_cons (ps_if (pt_cmpR op_lt (pv 1) (pe_callB (call_lenK K) rfl T.z_len PySem.boot_len (pa_cons (pv 0) pa_nil)) (nomark _)) (pss_one (ps_ret (pe_ix (ix_listK K) (pv 0) (pv 1) (fun _ _ => rfl)))) pss_nil)
      (pss_one (ps_ret pe_int))), ?_⟩
  refine ⟨_, rfl, _, rfl, a, _, rfl, .inl hS, _, _, rfl, rfl, _, rfl, ?_⟩
  refine ite_b (fun c => ?_) (fun c => ?_)
  · have c' : k < (((ns.map V.int).length : Nat) : Int) := of_decide_eq_true c
    rw [List.length_map] at c'
    have hk : k.toNat < ns.length := by omega
    have ek : ((k.toNat : Nat) : Int) = k := by omega
    have z : atI (ns.map V.int) ((k.toNat : Nat) : Int) = some (.int ns[k.toNat]) := atI_nat (by rw [List.getElem?_map, List.getElem?_eq_getElem hk]; rfl)
    rw [ek] at z
    exact ⟨_, rfl, _, rfl, a, _, _, _, rfl, rfl, hS, z, q _ H (Same.refl _)⟩
  · exact q 0 H (Same.refl _)
def sp_law_draw : Sp := fun vs H Q _ => ∃ c k m : Int, vs = [.int c, .int k, .int m] ∧ 0 < m ∧ ∀ (r : Int) H', 0 ≤ r → r < m → Same H H' → Q (.int r) H'
theorem prime_at (k : Int) : ∃ p : Int, 0 < p ∧ atI [V.int 1000003, .int 1000033, .int 1000037, .int 1000039, .int 1000081, .int 1000099, .int 1000117, .int 1000121] (k % 8) = some (.int p) := by
  have h0 := Int.emod_nonneg k (show (8 : Int) ≠ 0 by decide)
  have h1 := Int.emod_lt_of_pos k (show (0 : Int) < 8 by decide)
  generalize k % 8 = j at h0 h1
  have e : ((j.toNat : Nat) : Int) = j := by omega
  rw [← e]
  have h2 : j.toNat < 8 := by omega
  generalize j.toNat = i at h2
  match i, h2 with
  | 0, _ => exact ⟨_, by decide, atI_nat rfl⟩
  | 1, _ => exact ⟨_, by decide, atI_nat rfl⟩
  | 2, _ => exact ⟨_, by decide, atI_nat rfl⟩
  | 3, _ => exact ⟨_, by decide, atI_nat rfl⟩
  | 4, _ => exact ⟨_, by decide, atI_nat rfl⟩
  | 5, _ => exact ⟨_, by decide, atI_nat rfl⟩
  | 6, _ => exact ⟨_, by decide, atI_nat rfl⟩
  | 7, _ => exact ⟨_, by decide, atI_nat rfl⟩
theorem ok_law_draw {P : Program} {w : World} {K : PySem.W.Frag} {mg : Str → Option Value} {base : Heap} {a : Adr} (T : Txt K mg a) : FnOk P w K mg base CX0 1 a.a_law_draw a.d_law_draw ["_law_cell", "_law_k", "_law_many"] sp_law_draw := by
  refine T.F_law_draw.ok sc_law_draw (fun vs H Q E h => ?_) (fun cdv A outer s H vs Q E hr h => ?_)
  · obtain ⟨c, k, m, rfl, _⟩ := h; rfl
  obtain ⟨c, k, m, rfl, hm, q⟩ := h
  refine ⟨_, (pss_cons (ps_set (i := 3) sc_law_draw.nd rfl (by first | exact Or.inl rfl | exact Or.inr rfl) (pe_tup (pa_cons pe_int (pa_cons pe_int (pa_cons pe_int (pa_cons pe_int (pa_cons pe_int (pa_cons pe_int (pa_cons pe_int (pa_cons pe_int pa_nil))))))))))
      (pss_cons (ps_set (i := 4) sc_law_draw.nd rfl (by first | exact Or.inl rfl | exact Or.inr rfl) (pe_op op_add (pe_op op_add (pe_op op_mul (pv 0) pe_int) (pe_op op_mul (pv 1) pe_int)) (pe_op op_mul (pe_op op_mod (pe_op op_fdiv (pv 0) pe_int) pe_int) pe_int)))
      (pss_one (ps_ret (pe_op op_mod (pe_op op_mod (pv 4) (pe_ix (ix_tupK K) (pv 3) (pe_op op_mod (pv 1) pe_int) (fun _ _ => rfl))) (pv 2)))))), ?_⟩
  refine ⟨(by show 8 ≤ sizeLine; decide), fun t ht => ?_⟩
  refine ⟨_, rfl, _, _, rfl, rfl, .inr ⟨by decide, by decide⟩, _, rfl, _, _, rfl, rfl, .inr ⟨by decide, by decide⟩, _, _, rfl, rfl, ?_⟩
  refine ⟨_, rfl, _, _, rfl, rfl, ⟨by decide, by decide⟩, _, _, rfl, rfl, (by show (0 : Int) < 1000003; decide), _, _, rfl, rfl, .inr ⟨by decide, by decide⟩, _, _, rfl, rfl, ?_⟩
  obtain ⟨p, hp, hx⟩ := prime_at k
  refine ⟨_, rfl, _, rfl, _, rfl, _, _, rfl, rfl, (by show (0 : Int) < 8; decide), t, _, _, _, rfl, rfl, SqT.of upd_same, hx, _, _, rfl, rfl, hp, _, rfl, _, _, rfl, rfl, hm, ?_⟩
  exact q _ _ (Int.emod_nonneg _ (by omega)) (Int.emod_lt_of_pos _ hm) (same_new ht _)

def ToldAt (H : Hp) (t : Addr) (n : Nat) (l : Addr) (gs : List Int) : Prop := H t = some (.tup [.int (n : Int), .ref l]) ∧ H l = some (.lst (gs.map V.int)) ∧ 1 ≤ n ∧ n ≤ 5 ∧ gs.length ≤ 40 ∧ ∀ g ∈ gs, 0 ≤ g ∧ g < ((2 ^ n : Nat) : Int)
def sp_law_told (K : PySem.W.Frag) : Sp := fun vs H Q _ => ∃ (a : Addr) (k : Int), vs = [.ref a, .int k] ∧ ScrOk K H a ∧ 0 ≤ k ∧ ∀ t n l gs H', H t = none → H l = none → Same H H' → ToldAt H' t n l gs → Q (.ref t) H'
theorem memb_at (k : Int) : ∃ n : Nat, 1 ≤ n ∧ n ≤ 5 ∧ atI [V.int 3, .int 4, .int 5, .int 4, .int 2, .int 5, .int 1] (k % 7) = some (.int (n : Int)) := by
  have h0 := Int.emod_nonneg k (show (7 : Int) ≠ 0 by decide)
  have h1 := Int.emod_lt_of_pos k (show (0 : Int) < 7 by decide)
  generalize k % 7 = j at h0 h1
  have e : ((j.toNat : Nat) : Int) = j := by omega
  rw [← e]
  have h2 : j.toNat < 7 := by omega
  generalize j.toNat = i at h2
  match i, h2 with
  | 0, _ => exact ⟨3, by decide, by decide, atI_nat rfl⟩
  | 1, _ => exact ⟨4, by decide, by decide, atI_nat rfl⟩
  | 2, _ => exact ⟨5, by decide, by decide, atI_nat rfl⟩
  | 3, _ => exact ⟨4, by decide, by decide, atI_nat rfl⟩
  | 4, _ => exact ⟨2, by decide, by decide, atI_nat rfl⟩
  | 5, _ => exact ⟨5, by decide, by decide, atI_nat rfl⟩
  | 6, _ => exact ⟨1, by decide, by decide, atI_nat rfl⟩
theorem or_range : ∀ n : Fin 6, ∀ x : Fin 32, ∀ y : Fin 32, ∀ m : Fin 5, x.val < 2 ^ n.val → y.val < 2 ^ n.val → m.val < n.val →
    (0 ≤ Builtin.bitOr (Builtin.bitAnd x.val y.val) (1 * 2 ^ ((m.val : Int)).toNat) ∧ Builtin.bitOr (Builtin.bitAnd x.val y.val) (1 * 2 ^ ((m.val : Int)).toNat) < ((2 ^ n.val : Nat) : Int)) := by decide +kernel
theorem or_ok {n : Nat} (hn : n ≤ 5) {x y m : Int} (x0 : 0 ≤ x) (x1 : x < ((2 ^ n : Nat) : Int)) (y0 : 0 ≤ y) (y1 : y < ((2 ^ n : Nat) : Int)) (m0 : 0 ≤ m) (m1 : m < n) :
    0 ≤ Builtin.bitOr (Builtin.bitAnd x y) (1 * 2 ^ m.toNat) ∧ Builtin.bitOr (Builtin.bitAnd x y) (1 * 2 ^ m.toNat) < ((2 ^ n : Nat) : Int) := by
  have h5 := two_le hn
  have e1 : ((x.toNat : Nat) : Int) = x := by omega
  have e2 : ((y.toNat : Nat) : Int) = y := by omega
  have e3 : ((m.toNat : Nat) : Int) = m := by omega
  have q := or_range ⟨n, by omega⟩ ⟨x.toNat, by omega⟩ ⟨y.toNat, by omega⟩ ⟨m.toNat, by omega⟩ (by show x.toNat < 2 ^ n; omega) (by show y.toNat < 2 ^ n; omega) (by show m.toNat < n; omega)
  simp only [e1, e2, e3] at q
  exact q
theorem sum_nonneg {ws : List Int} {b : Int} (h : ∀ w ∈ ws, 0 ≤ w ∧ w < b) : 0 ≤ ws.sum := by
  induction ws with
  | nil => exact Int.le_refl _
  | cons w r ih =>
    rw [List.sum_cons]
    have := h w List.mem_cons_self
    have := ih fun x hx => h x (List.mem_cons_of_mem _ hx)
    omega
theorem get_ws {ws : List Int} {x : Int} {n : Nat} (hl : ws.length = n) (x0 : 0 ≤ x) (x1 : x < (n : Int)) : atI (ws.map V.int) x = some (.int (ws.getD x.toNat 0)) := by
  have hk : x.toNat < ws.length := by omega
  have ek : ((x.toNat : Nat) : Int) = x := by omega
  have z : atI (ws.map V.int) ((x.toNat : Nat) : Int) = some (.int (ws.getD x.toNat 0)) := atI_nat (by rw [List.getElem?_map, List.getD_eq_getElem?_getD, List.getElem?_eq_getElem hk]; rfl)
  rw [ek] at z
  exact z
theorem ok_law_told {P : Program} {w : World} {K : PySem.W.Frag} {mg : Str → Option Value} {base : Heap} {a : Adr} (T : Txt K mg a) : FnOk P w K mg base CX0 2 a.a_law_told a.d_law_told ["_law_script", "_law_first"] (sp_law_told K) := by
  refine T.F_law_told.ok sc_law_told (fun vs H Q E h => ?_) (fun cdv A outer s H vs Q E hr h => ?_)
  · obtain ⟨a, k, rfl, _⟩ := h; rfl
  obtain ⟨a, f, rfl, hS, f0, kk⟩ := h
  refine ⟨_, (pss_cons (ps_set (i := 2) sc_law_told.nd rfl (by first | exact Or.inl rfl | exact Or.inr rfl) (pe_call (ok_law_cell_at T) hr rfl T.m_law_cell_at T.F_law_cell_at.kp (b_law_cell_at T) .nil pass0 (pa_cons (pv 0) (pa_cons (pv 1) pa_nil))))
      (pss_cons (ps_set (i := 3) sc_law_told.nd rfl (by first | exact Or.inl rfl | exact Or.inr rfl) (pe_call (ok_law_cell_at T) hr rfl T.m_law_cell_at T.F_law_cell_at.kp (b_law_cell_at T) .nil pass0 (pa_cons (pv 0) (pa_cons (pe_op op_add (pv 1) pe_int) pa_nil))))
      (pss_cons (ps_set (i := 4) sc_law_told.nd rfl (by first | exact Or.inl rfl | exact Or.inr rfl) (pe_ix (ix_tupK K) (pe_tup (pa_cons pe_int (pa_cons pe_int (pa_cons pe_int (pa_cons pe_int (pa_cons pe_int (pa_cons pe_int (pa_cons pe_int pa_nil)))))))) (pe_op op_mod (pv 2) pe_int) (fun _ _ => rfl)))
      (pss_cons (ps_set (i := 5) sc_law_told.nd rfl (by first | exact Or.inl rfl | exact Or.inr rfl) (pe_lst pa_nil))
      (pss_cons (ps_if (pt_cmpR op_eq (pe_op op_mod (pe_op op_fdiv (pv 2) pe_int) pe_int) pe_int (nomark _)) (pss_cons (ps_set (i := 6) sc_law_told.nd rfl (by first | exact Or.inl rfl | exact Or.inr rfl) (pe_lc rfl (lcOk_of (S := defScope s_law_told) (N := ["_law_script", "_law_first", "_law_cell", "_law_other_here", "_law_members", "_law_groups", "_law_weights", "_law_quota", "_law_group", "_law_k"]) (M := ["_law_script", "_law_first", "_law_cell", "_law_other_here", "_law_members", "_law_groups", "_law_weights", "_law_quota", "_law_group", "9", "_law_k"]) (by decide +kernel)) (pi_range1 rfl T.z_range (pa_cons (pv 4) pa_nil)) (fun _ _ _ _ => (pg_name (i := 10) (show List.Nodup (["_law_script", "_law_first", "_law_cell", "_law_other_here", "_law_members", "_law_groups", "_law_weights", "_law_quota", "_law_group", "9", "_law_k"] : List Str) by decide +kernel) rfl (by first | exact Or.inl rfl | exact Or.inr rfl))) (fun _ _ _ _ => pifs_nil) (fun _ _ _ _ => (pe_call (ok_law_draw T) hr rfl T.m_law_draw T.F_law_draw.kp (b_law_draw T) .nil pass0 (pa_cons (pv 3) (pa_cons (pv 10) (pa_cons pe_int pa_nil)))))))
      (pss_cons (ps_set (i := 7) sc_law_told.nd rfl (by first | exact Or.inl rfl | exact Or.inr rfl) (pe_call (ok_law_draw T) hr rfl T.m_law_draw T.F_law_draw.kp (b_law_draw T) .nil pass0 (pa_cons (pv 3) (pa_cons pe_int (pa_cons (pe_op op_add (pe_callB (call_sumK K rfl) rfl T.z_sum PyProof.Rows.boot_sum (pa_cons (pv 6) pa_nil)) pe_int) pa_nil)))))
      (pss_one (ps_for PassesOwn.never rfl (pi_range1 rfl T.z_range (pa_cons (pe_op op_shl pe_int (pv 4)) pa_nil)) (pg_name (i := 8) sc_law_told.nd rfl (by first | exact Or.inl rfl | exact Or.inr rfl)) (pss_one (ps_if (pt_cmpR op_ge (pe_callB (call_sumK K rfl) rfl T.z_sum PyProof.Rows.boot_sum (pa_cons (pe_lc rfl (lcOk_of (S := defScope s_law_told) (N := ["_law_script", "_law_first", "_law_cell", "_law_other_here", "_law_members", "_law_groups", "_law_weights", "_law_quota", "_law_group", "_law_k"]) (M := ["_law_script", "_law_first", "_law_cell", "_law_other_here", "_law_members", "_law_groups", "_law_weights", "_law_quota", "_law_group", "9", "_law_k"]) (by decide +kernel)) (pi_range1 rfl T.z_range (pa_cons (pv 4) pa_nil)) (fun _ _ _ _ => (pg_name (i := 10) (show List.Nodup (["_law_script", "_law_first", "_law_cell", "_law_other_here", "_law_members", "_law_groups", "_law_weights", "_law_quota", "_law_group", "9", "_law_k"] : List Str) by decide +kernel) rfl (by first | exact Or.inl rfl | exact Or.inr rfl))) (fun _ _ _ _ => (pifs_one (pt_cmpR op_eq (pe_op op_and (pe_op op_shr (pv 8) (pv 10)) pe_int) pe_int (nomark _)))) (fun _ _ _ _ => (pe_ix (ix_listK K) (pv 6) (pv 10) (fun _ _ => rfl)))) pa_nil)) (pv 7) (nomark _)) (pss_one (ps_expr (pe_bm PySem.F.plainAttrs_list PySem.F.slot_list_append PySem.F.type_list_append mt_append (pv 5) (pa_cons (pv 8) pa_nil)))) pss_nil)))))) (pss_one (ps_for PassesOwn.never rfl (pi_range1 rfl T.z_range (pa_cons (pe_call (ok_law_draw T) hr rfl T.m_law_draw T.F_law_draw.kp (b_law_draw T) .nil pass0 (pa_cons (pv 3) (pa_cons pe_int (pa_cons pe_int pa_nil)))) pa_nil)) (pg_name (i := 9) sc_law_told.nd rfl (by first | exact Or.inl rfl | exact Or.inr rfl)) (pss_cons (ps_set (i := 8) sc_law_told.nd rfl (by first | exact Or.inl rfl | exact Or.inr rfl) (pe_call (ok_law_draw T) hr rfl T.m_law_draw T.F_law_draw.kp (b_law_draw T) .nil pass0 (pa_cons (pv 3) (pa_cons (pe_op op_add (pv 9) pe_int) (pa_cons (pe_op op_shl pe_int (pv 4)) pa_nil)))))
      (pss_cons (ps_if (pt_cmpR op_eq (pe_op op_mod (pe_op op_fdiv (pv 2) pe_int) pe_int) pe_int (nomark _)) (pss_one (ps_set (i := 8) sc_law_told.nd rfl (by first | exact Or.inl rfl | exact Or.inr rfl) (pe_op op_or (pe_op op_and (pv 8) (pe_call (ok_law_draw T) hr rfl T.m_law_draw T.F_law_draw.kp (b_law_draw T) .nil pass0 (pa_cons (pe_op op_add (pe_op op_fdiv (pv 3) pe_int) (pe_op op_mul pe_int (pv 9))) (pa_cons pe_int (pa_cons (pe_op op_shl pe_int (pv 4)) pa_nil))))) (pe_op op_shl pe_int (pe_call (ok_law_draw T) hr rfl T.m_law_draw T.F_law_draw.kp (b_law_draw T) .nil pass0 (pa_cons (pv 3) (pa_cons (pe_op op_add (pv 9) pe_int) (pa_cons (pv 4) pa_nil)))))))) pss_nil)
      (pss_one (ps_expr (pe_bm PySem.F.plainAttrs_list PySem.F.slot_list_append PySem.F.type_list_append mt_append (pv 5) (pa_cons (pv 8) pa_nil)))))))))
      (pss_one (ps_ret (pe_tup (pa_cons (pv 4) (pa_cons (pv 5) pa_nil)))))))))), ?_⟩
  refine ⟨_, rfl, _, rfl, a, f, rfl, hS, f0, fun c H1 h1 => ?_⟩
  refine ⟨_, rfl, _, rfl, _, _, rfl, rfl, a, f + 1, rfl, hS.same h1, by omega, fun o H2 h2 => ?_⟩
  refine ⟨(by show 7 ≤ sizeLine; decide), fun t1 ht1 => ?_⟩
  obtain ⟨n, n1, n5, hx⟩ := memb_at c
  have h5 := two_le n5
  have p0 : (0 : Int) ≤ ((2 ^ n : Nat) : Int) := Int.natCast_nonneg _
  refine ⟨_, rfl, _, _, rfl, rfl, (by show (0 : Int) < 7; decide), t1, _, _, _, rfl, rfl, SqT.of upd_same, hx, ?_⟩
  generalize hHb : upd H2 t1 (.tup [V.int 3, .int 4, .int 5, .int 4, .int 2, .int 5, .int 1]) = Hb
  have sb : Same H Hb := by rw [← hHb]; exact h1.trans (h2.trans (same_new ht1 _))
  refine ⟨(by show 0 ≤ sizeLine; decide), fun g hg => ?_⟩
  have fin : ∀ (H' : Hp) (gs : List Int), Same Hb H' → H' g = some (.lst (gs.map V.int)) → gs.length ≤ 40 → (∀ x ∈ gs, 0 ≤ x ∧ x < ((2 ^ n : Nat) : Int)) → ∀ t, H' t = none → Q (.ref t) (upd H' t (.tup [.int (n : Int), .ref g])) := fun H' gs hs hg' hz hb t ht =>
    kk t n g gs _ ((sb.trans hs).free ht) (sb.free hg) (sb.trans (hs.trans (same_new ht _))) ⟨upd_same, by rw [upd_ne (ne_of_none hg' ht)]; exact hg', n1, n5, hz, hb⟩
  refine ⟨_, rfl, _, _, rfl, rfl, ⟨by decide, by decide⟩, _, _, rfl, rfl, (by show (0 : Int) < 3; decide), rfl, _, rfl, ?_⟩
  refine ite_b (fun _ => ?_) (fun _ => ?_)
  · -- by weights
    refine ⟨_, rfl, n, rfl, by omega, by omega, ?_⟩
    refine lcB_rangeP (k := n) rfl (by omega) (fun v => 0 ≤ v ∧ v < 7) (fun x x0 x1 H3 h3 R q => ?_) fun ws H3 D wl wp h3 hD => ?_
    · exact ⟨_, rfl, _, rfl, _, _, _, rfl, by decide, fun r H4 r0 r1 h4 => q r H4 ⟨r0, r1⟩ h4⟩
    have hsum := sum_nonneg wp
    have s3 : Same (upd Hb g (.lst [])) (upd H3 D (.lst (ws.map V.int))) := h3.trans (same_new hD _)
    refine ⟨_, rfl, _, rfl, D, ws, rfl, SqL.of upd_same, _, _, rfl, rfl, _, _, _, rfl, by omega, fun qu H4 q0 q1 h4 => ?_⟩
    have s4 := s3.trans h4
    refine ⟨_, rfl, _, _, rfl, rfl, shl_ok (by omega), ((2 ^ n : Nat) : Int), shl_v n, by omega, by omega, ?_⟩
    have ngD : g ≠ D := by
      intro e
      have := h3 g _ upd_same
      rw [e, hD] at this
      cases this
    refine for_range (n := 2 ^ n) (fun i σ' H' => ∃ (gs : List Int) (x : Option V), σ' = [some (.ref a), some (.int f), some (.int c), some (.int o), some (.int n), some (.ref g), some (.ref D), some (.int qu), x, none] ∧ Same Hb H' ∧
        H' g = some (.lst (gs.map V.int)) ∧ H' D = some (.lst (ws.map V.int)) ∧ gs.length ≤ i ∧ ∀ x ∈ gs, 0 ≤ x ∧ x < ((2 ^ n : Nat) : Int)) ?_ ?_ ?_
    · exact ⟨[], none, rfl, (same_new hg _).trans s4, s4 _ _ upd_same, h4 _ _ upd_same, Nat.zero_le _, fun x hx => by cases hx⟩
    · rintro i σ' H' hi ⟨gs, x, rfl, hs, hg', hD', hz, hb⟩
      refine ⟨_, rfl, n, rfl, by omega, by omega, ?_⟩
      refine lcB_range (k := n) rfl (by omega) (hasB (0 + (i : Int))) (fun y => .int (ws.getD y.toNat 0)) (fun y y0 y1 H5 h5 R q => ?_) (fun y y0 y1 _ H5 h5 R q => ?_) fun H5 D5 h5 hD5 => ?_
      · refine ⟨_, rfl, _, rfl, _, _, rfl, rfl, y0, _, _, rfl, rfl, rfl, _, rfl, ?_⟩
        have z := q H5 (Same.refl _)
        unfold hasB at z
        rw [show decide (Builtin.bitAnd ((0 + (i : Int)) / 2 ^ y.toNat) 1 = 1) = decide (V.int (Builtin.bitAnd ((0 + (i : Int)) / 2 ^ y.toNat) 1) = V.int 1) by rw [dec_int]; rfl] at z
        exact z
      · exact ⟨_, rfl, _, rfl, D, _, _, _, rfl, rfl, SqL.of (h5 _ _ hD'), get_ws wl y0 y1, q H5 (Same.refl _)⟩
      · refine ⟨D5, ((up n).filter (hasB (0 + (i : Int)))).map fun y => ws.getD y.toNat 0, rfl, SqL.of (by rw [upd_same, List.map_map]; rfl), _, rfl, _, _, rfl, rfl, _, rfl, ?_⟩
        have s5 : Same H' (upd H5 D5 (.lst (((up n).filter (hasB (0 + (i : Int)))).map fun y => .int (ws.getD y.toNat 0)))) := h5.trans (same_new hD5 _)
        refine ite_b (fun _ => ?_) (fun _ => ?_)
        · refine ⟨_, rfl, .inl ⟨rfl, _, SqL.of (s5 _ _ hg')⟩, _, rfl, g, _, _, rfl, rfl, s5 _ _ hg', small1000 (by rw [List.length_map]; omega), ?_⟩
          refine ⟨gs ++ [0 + (i : Int)], _, rfl, same_upd (hs.trans s5) hg, by rw [upd_same, List.map_append]; rfl, by rw [upd_ne ngD.symm]; exact s5 _ _ hD', by rw [List.length_append, List.length_singleton]; omega, fun x hx => ?_⟩
          rcases List.mem_append.mp hx with z | z
          · exact hb x z
          · have z' : x = 0 + (i : Int) := by simpa using z
            omega
        · exact ⟨gs, _, rfl, hs.trans s5, s5 _ _ hg', s5 _ _ hD', by omega, hb⟩
    · rintro σ' H' ⟨gs, x, rfl, hs, hg', hD', hz, hb⟩
      exact ⟨_, rfl, _, rfl, (by show 2 ≤ sizeLine; decide), fin H' gs hs hg' (by omega) hb⟩
  · -- by drawn groups
    refine ⟨_, rfl, _, _, _, rfl, by decide, fun r H3 r0 r1 h3 => ?_⟩
    refine ⟨r, rfl, by omega, by omega, ?_⟩
    have p0 : 0 < 2 ^ n := Nat.pow_pos (by decide)
    refine for_range (n := r.toNat) (fun i σ' H' => ∃ (gs : List Int) (x y : Option V), σ' = [some (.ref a), some (.int f), some (.int c), some (.int o), some (.int n), some (.ref g), none, none, x, y] ∧ Same Hb H' ∧
        H' g = some (.lst (gs.map V.int)) ∧ gs.length ≤ i ∧ ∀ x ∈ gs, 0 ≤ x ∧ x < ((2 ^ n : Nat) : Int)) ?_ ?_ ?_
    · exact ⟨[], none, none, rfl, (same_new hg _).trans h3, h3 _ _ upd_same, Nat.zero_le _, fun x hx => by cases hx⟩
    · rintro i σ' H' hi ⟨gs, x, y, rfl, hs, hg', hz, hb⟩
      refine ⟨_, rfl, _, rfl, _, _, rfl, rfl, _, rfl, _, _, rfl, rfl, shl_ok (by omega), _, _, _, rfl, by rw [pow_n]; omega, fun v H4 v0 v1 h4 => ?_⟩
      rw [pow_n] at v1
      have app : ∀ (w : Int) (z : Option V) (H5 : Hp), Same H' H5 → 0 ≤ w → w < ((2 ^ n : Nat) : Int) → ∃ (gs' : List Int) (x y : Option V), ([some (.ref a), some (.int f), some (.int c), some (.int o), some (.int n), some (.ref g), none, none, some (.int w), z] : St) = [some (.ref a), some (.int f), some (.int c), some (.int o), some (.int n), some (.ref g), none, none, x, y] ∧
          Same Hb (upd H5 g (.lst (gs.map V.int ++ [.int w]))) ∧ upd H5 g (.lst (gs.map V.int ++ [.int w])) g = some (.lst (gs'.map V.int)) ∧ gs'.length ≤ i + 1 ∧ ∀ x ∈ gs', 0 ≤ x ∧ x < ((2 ^ n : Nat) : Int) := fun w z H5 h5 w0 w1 => by
        refine ⟨gs ++ [w], _, _, rfl, same_upd (hs.trans h5) hg, by rw [upd_same, List.map_append]; rfl, by rw [List.length_append, List.length_singleton]; omega, fun x hx => ?_⟩
        rcases List.mem_append.mp hx with z | z
        · exact hb x z
        · have z' : x = w := by simpa using z
          omega
      refine ⟨_, rfl, _, _, rfl, rfl, ⟨by decide, by decide⟩, _, _, rfl, rfl, (by show (0 : Int) < 2; decide), rfl, _, rfl, ?_⟩
      refine ite_b (fun _ => ?_) (fun _ => ?_)
      · refine ⟨_, rfl, _, rfl, _, _, rfl, rfl, ⟨by decide, by decide⟩, _, rfl, _, _, rfl, rfl, .inl ⟨by decide, by decide⟩, _, _, rfl, rfl, _, rfl, _, _, rfl, rfl, shl_ok (by omega), _, _, _, rfl, by rw [pow_n]; omega, fun u H5 u0 u1 h5' => ?_⟩
        rw [pow_n] at u1
        refine ⟨_, _, rfl, rfl, _, rfl, _, rfl, _, _, rfl, rfl, _, rfl, _, _, _, rfl, by omega, fun m H6 m0 m1 h6 => ?_⟩
        refine ⟨_, _, rfl, rfl, ⟨m0, by omega, by decide⟩, _, _, rfl, rfl, ?_⟩
        have ok := or_ok n5 v0 v1 u0 u1 m0 m1
        have s6 := h4.trans (h5'.trans h6)
        exact ⟨_, rfl, .inl ⟨rfl, _, SqL.of (s6 _ _ hg')⟩, _, rfl, g, _, _, rfl, rfl, s6 _ _ hg', small1000 (by rw [List.length_map]; omega), app _ _ _ s6 ok.1 ok.2⟩
      · exact ⟨_, rfl, .inl ⟨rfl, _, SqL.of (h4 _ _ hg')⟩, _, rfl, g, _, _, rfl, rfl, h4 _ _ hg', small1000 (by rw [List.length_map]; omega), app _ _ _ h4 v0 v1⟩
    · rintro σ' H' ⟨gs, x, y, rfl, hs, hg', hz, hb⟩
      exact ⟨_, rfl, _, rfl, (by show 2 ≤ sizeLine; decide), fin H' gs hs hg' (by omega) hb⟩

def sp_law_table : Sp := fun vs H Q _ => ∃ (t : Addr) (n : Nat) (l : Addr) (gs : List Int), vs = [.ref t] ∧ ToldAt H t n l gs ∧ ∀ r H', H r = none → Same H H' → H' r = some (.lst ((tabOf n gs).map V.bl)) → Q (.ref r) H'
theorem ok_law_table {P : Program} {w : World} {K : PySem.W.Frag} {mg : Str → Option Value} {base : Heap} {a : Adr} (T : Txt K mg a) : FnOk P w K mg base CX0 1 a.a_law_table a.d_law_table ["_law_told_here"] sp_law_table := by
  refine T.F_law_table.ok sc_law_table (fun vs H Q E h => ?_) (fun cdv A outer s H vs Q E hr h => ?_)
  · obtain ⟨t, n, l, gs, rfl, _⟩ := h; rfl
  obtain ⟨t, n, l, gs, rfl, hT, k⟩ := h
  refine ⟨_, (pss_cons (ps_set (i := 1) sc_law_table.nd rfl (by first | exact Or.inl rfl | exact Or.inr rfl) (pe_lst pa_nil))
      (pss_cons (ps_for PassesOwn.never rfl (pi_range1 rfl T.z_range (pa_cons (pe_op op_shl pe_int (pe_ix (ix_tupK K) (pv 0) pe_int (fun _ _ => rfl))) pa_nil)) (pg_name (i := 2) sc_law_table.nd rfl (by first | exact Or.inl rfl | exact Or.inr rfl)) (pss_one (ps_expr (pe_bm PySem.F.plainAttrs_list PySem.F.slot_list_append PySem.F.type_list_append mt_append (pv 1) (pa_cons (pe_callB (call_anyK K rfl) rfl T.z_any PyProof.Rows.boot_any (pa_cons (pe_lc rfl (lcOk_of (S := defScope s_law_table) (N := ["_law_told_here", "_law_found", "_law_group"]) (M := ["_law_told_here", "_law_found", "_law_group", "_law_one"]) (by decide +kernel)) (pi_listK K (pe_ix (ix_tupK K) (pv 0) pe_int (fun _ _ => rfl))) (fun _ _ _ _ => (pg_name (i := 3) (show List.Nodup (["_law_told_here", "_law_found", "_law_group", "_law_one"] : List Str) by decide +kernel) rfl (by first | exact Or.inl rfl | exact Or.inr rfl))) (fun _ _ _ _ => pifs_nil) (fun _ _ _ _ => (pe_cmpR op_eq (pe_op op_and (pv 2) (pv 3)) (pv 3) (nomark _)))) pa_nil)) pa_nil)))))
      (pss_one (ps_ret (pv 1))))), ?_⟩
  obtain ⟨ht, hl, n1, n5, hz, hb⟩ := id hT
  have h5 := two_le n5
  have p0 : (0 : Int) ≤ ((2 ^ n : Nat) : Int) := Int.natCast_nonneg _
  refine ⟨(by show 0 ≤ sizeLine; decide), fun r hr' => ?_⟩
  have s0 := same_new hr' (.lst [])
  refine ⟨_, rfl, t, _, _, _, rfl, rfl, SqT.of (s0 _ _ ht), atI_nat (j := 0) rfl, _, _, rfl, rfl, shl_ok (by omega), ((2 ^ n : Nat) : Int), shl_v n, by omega, by omega, ?_⟩
  refine for_range (n := 2 ^ n) (fun i σ' H' => ∃ x : Option V, σ' = [some (.ref t), some (.ref r), x] ∧ Same H H' ∧ H' r = some (.lst (((up i).map (carrB gs)).map V.bl)) ∧ i ≤ 2 ^ n) ?_ ?_ ?_
  · exact ⟨none, rfl, s0, upd_same, Nat.zero_le _⟩
  · rintro i σ' H' hi ⟨x, rfl, hs, hr2, _⟩
    refine ⟨_, rfl, .inl ⟨rfl, _, SqL.of hr2⟩, ?_⟩
    refine ⟨_, rfl, t, _, _, _, rfl, rfl, SqT.of (hs _ _ ht), atI_nat (j := 1) rfl, l, rfl, ⟨_, SqL.of (hs _ _ hl)⟩, ?_⟩
    refine lcB_list rfl (SqL.of (hs _ _ hl)) (by rw [List.length_map]; omega) (fun _ => true) (fun x => match x with | .int o => .bl (withinB o (0 + (i : Int))) | _ => .non) (fun x hx H1 h1 R q => q H1 (Same.refl _)) (fun x hx _ H1 h1 R q => ?_) fun H1 D h1 hD => ?_
    · obtain ⟨o, _, rfl⟩ := List.mem_map.mp hx
      refine ⟨_, rfl, _, rfl, _, _, rfl, rfl, _, rfl, rfl, ?_⟩
      have z : R (.bl (withinB o (0 + (i : Int)))) H1 := q H1 (Same.refl _)
      unfold withinB at z
      rw [PyProof.Rows.bitAnd_comm, show decide (Builtin.bitAnd (0 + (i : Int)) o = o) = decide (V.int (Builtin.bitAnd (0 + (i : Int)) o) = V.int o) by rw [dec_int]; rfl] at z
      exact z
    · have s1 : Same H' (upd H1 D (.lst (((gs.map V.int).filter fun _ => true).map fun x => match x with | .int o => .bl (withinB o (0 + (i : Int))) | _ => .non))) := h1.trans (same_new hD _)
      refine ⟨D, gs.map fun o => withinB o (0 + (i : Int)), rfl, SqL.of ?_, r, _, _, rfl, rfl, s1 _ _ hr2, small1000 (by rw [List.length_map, List.length_map, up_length]; omega), ?_⟩
      · rw [upd_same, List.filter_eq_self.mpr (fun _ _ => rfl), List.map_map, List.map_map]
        rfl
      · refine ⟨_, rfl, same_upd (hs.trans s1) hr', ?_, hi⟩
        rw [upd_same, up_succ, List.map_append, List.map_append]
        have e : ((gs.map fun o => withinB o (0 + (i : Int))).any id) = carrB gs (i : Int) := by unfold carrB; rw [List.any_map, Int.zero_add]; rfl
        rw [e]
        rfl
  · rintro σ' H' ⟨x, rfl, hs, hr2, _⟩
    exact ⟨_, rfl, k r H' hr' hs hr2⟩
def sp_law_groups : Sp := fun vs H Q _ => ∃ (p q : Addr) (ns : List Int), vs = [.ref p, .ref q] ∧ H p = some (.lst (ns.map V.int)) ∧ H q = some (.lst (ns.map V.int)) ∧ ns.length ≤ 1000 ∧ ∀ H', Same H H' → Q (.bl true) H'
def sp_law_least : Sp := fun vs H Q _ => ∃ (l : Addr) (n : Nat) (tb : List Bool), vs = [.ref l, .int n] ∧ H l = some (.lst (tb.map V.bl)) ∧ n ≤ 5 ∧ tb.length = 2 ^ n ∧ ∀ r H', H r = none → Same H H' → H' r = some (.lst ((leastBy (fun g m => Builtin.bitXor g (1 * 2 ^ m.toNat)) n tb).map V.int)) → Q (.ref r) H'
def sp_law_greatest : Sp := fun vs H Q _ => ∃ (l : Addr) (n : Nat) (tb : List Bool), vs = [.ref l, .int n] ∧ H l = some (.lst (tb.map V.bl)) ∧ n ≤ 5 ∧ tb.length = 2 ^ n ∧ ∀ r H', H r = none → Same H H' → H' r = some (.lst ((greatBy (fun g m => Builtin.bitOr g (1 * 2 ^ m.toNat)) n tb).map V.int)) → Q (.ref r) H'
def sp_law_is (C : Addr) : Sp := fun vs H Q _ => ∃ (p : Addr) (n : Nat) (l : Addr) (tb : List Bool), vs = [.ref p, .int n, .ref l] ∧ CAt C H p n tb ∧ H l = some (.lst (tb.map V.bl)) ∧ ∀ H', Same H H' → Q (.bl true) H'
def sp_law (K : PySem.W.Frag) : Sp := fun vs H Q _ => ∃ (a : Addr) (ns : List Int), vs = [.ref a] ∧ SqL K H a (ns.map V.int) ∧ ns.length ≤ 63 ∧ ∀ H', Q (.bl true) H'
end Wv
namespace Wv
open PySem L2
/-! ## what is written is read -/
theorem blank_is : (Str.ofString " " : Str) = ⟨#[32]⟩ := by decide +kernel
theorem empty_is : (Str.ofString "" : Str) = ⟨#[]⟩ := by decide +kernel
theorem colon_is : cl (Str.ofString ":") = [58] := by decide +kernel
/-- the words behind the colon -/
theorem cl_words : ∀ ws : List Str, cl (Str.join "" (ws.map fun w => Str.ofString " " ++ w)) = (ws.map fun w => 32 :: cl w).flatten := by
  intro ws
  rw [show (Str.join "" (ws.map fun w => Str.ofString " " ++ w)) = Str.join ⟨#[]⟩ (ws.map fun w => Str.ofString " " ++ w) by rw [← empty_is], cl_join0, List.map_map]
  congr 1
  refine List.map_congr_left fun w _ => ?_
  show cl (Str.ofString " " ++ w) = _
  rw [cl_app, blank_is]
  rfl
theorem jn_words (c : Nat) : ∀ (x : List Nat) (ws : List (List Nat)), jn c (x :: ws) = x ++ (ws.map fun w => c :: w).flatten
  | x, [] => by simp [jn]
  | x, w :: r => by
    rw [jn_cons, jn_words c w r]
    simp
theorem fig_cl {n : Nat} (n1 : 1 ≤ n) (n5 : n ≤ 5) : cl (Str.ofString (toString (n : Int))) = [48 + n] := fig_facts ⟨n, by omega⟩ n1
theorem figN_fig : ∀ n : Fin 6, 1 ≤ n.val → figN (Str.ofString (toString (n.val : Int))) = some n.val := by decide +kernel
theorem idx_gtx_f : ∀ n : Fin 6, ∀ g : Fin 32, g.val < 2 ^ n.val → (knownL n.val).idxOf (gtx (g.val : Int)) = g.val := by decide +kernel
theorem idx_gtx {n : Nat} (hn : n ≤ 5) {g : Int} (hg : g ∈ up (2 ^ n)) : (((knownL n).idxOf (gtx g) : Nat) : Int) = g := by
  have h5 := two_le hn
  obtain ⟨g0, g1⟩ := mem_up.mp hg
  have e : ((g.toNat : Nat) : Int) = g := by omega
  have q := idx_gtx_f ⟨n, by omega⟩ ⟨g.toNat, by omega⟩ (by show g.toNat < 2 ^ n; omega)
  simp only [e] at q
  rw [q, e]
theorem in_known {n : Nat} {g : Int} (hg : g ∈ up (2 ^ n)) : (knownL n).contains (gtx g) = true := List.contains_iff_mem.mpr (List.mem_map.mpr ⟨g, hg, rfl⟩)
theorem sub_within_f : ∀ g : Fin 32, ∀ m : Fin 5, hasB (g.val : Int) (m.val : Int) = true → withinB ((g.val : Int) - 1 * 2 ^ ((m.val : Int)).toNat) (g.val : Int) = true := by decide +kernel
theorem sub_within {n : Nat} (hn : n ≤ 5) {g m : Int} (hg : g ∈ up (2 ^ n)) (hm : m ∈ ins n g) : withinB (g - 1 * 2 ^ m.toNat) g = true := by
  have h5 := two_le hn
  obtain ⟨g0, g1⟩ := mem_up.mp hg
  obtain ⟨hm1, hm2⟩ := List.mem_filter.mp hm
  obtain ⟨m0, m1⟩ := mem_up.mp hm1
  have e1 : ((g.toNat : Nat) : Int) = g := by omega
  have e2 : ((m.toNat : Nat) : Int) = m := by omega
  have q := sub_within_f ⟨g.toNat, by omega⟩ ⟨m.toNat, by omega⟩ (by simp only [e1, e2]; exact hm2)
  simpa only [e1, e2] using q
/-- each group that carries holds a least one -/
theorem has_least {n : Nat} (hn : n ≤ 5) {tb : List Bool} : ∀ (k : Nat) (g : Int), g.toNat = k → g ∈ up (2 ^ n) → at_ tb g = true → ∃ o ∈ leastBy (fun g m => g - 1 * 2 ^ m.toNat) n tb, withinB o g = true := by
  intro k
  induction k using Nat.strongRecOn with
  | _ k ih =>
    intro g hk hg ht
    cases hb : ((ins n g).map fun m => at_ tb (g - 1 * 2 ^ m.toNat)).any id with
    | false =>
      exact ⟨g, List.mem_filter.mpr ⟨hg, by rw [ht, hb]; rfl⟩, within_self hn hg⟩
    | true =>
      rw [List.any_map, List.any_eq_true] at hb
      obtain ⟨m, hm, ha⟩ := hb
      have ok := sub_ok hn hg hm
      have hp : (0 : Int) < 2 ^ m.toNat := Int.pow_pos (by decide)
      obtain ⟨g0, g1⟩ := mem_up.mp hg
      obtain ⟨o, ho, hw⟩ := ih (g - 1 * 2 ^ m.toNat).toNat (by omega) (g - 1 * 2 ^ m.toNat) rfl (mem_up.mpr ok.2) ha
      exact ⟨o, ho, within_tr hn (least_mem ho) (mem_up.mpr ok.2) hg hw (sub_within hn hg hm)⟩
theorem tab_least {n : Nat} (hn : n ≤ 5) {tb : List Bool} (hl : tb.length = 2 ^ n) (hM : Mono n tb) : tabOf n (leastBy (fun g m => g - 1 * 2 ^ m.toNat) n tb) = tb := by
  have e : tb = (up (2 ^ n)).map (at_ tb) := by
    refine List.ext_getElem? fun i => ?_
    rw [List.getElem?_map]
    by_cases hi : i < 2 ^ n
    · rw [up_get hi, List.getElem?_eq_getElem (by omega)]
      unfold at_
      rw [Option.map_some, Int.toNat_natCast, List.getD_eq_getElem?_getD, List.getElem?_eq_getElem (by omega)]
      rfl
    · rw [List.getElem?_eq_none (by omega), List.getElem?_eq_none (by rw [up_length]; omega)]
      rfl
  conv => rhs; rw [e]
  refine List.map_congr_left fun g hg => ?_
  rw [Bool.eq_iff_iff]
  unfold carrB
  rw [List.any_eq_true]
  constructor
  · rintro ⟨o, ho, hw⟩
    have h1 := (List.mem_filter.mp ho).2
    rw [Bool.and_eq_true] at h1
    exact hM o g (least_mem ho) hg hw h1.1
  · intro h
    exact has_least hn g.toNat g rfl hg h
theorem read_written {n : Nat} (n1 : 1 ≤ n) (hn : n ≤ 5) {tb : List Bool} (hl : tb.length = 2 ^ n) (hM : Mono n tb) :
    readF (wtx n tb) = some (n, leastBy (fun g m => g - 1 * 2 ^ m.toNat) n tb) ∧ (Txt.split (Txt.slice (wtx n tb) (some 2) none) " ").length ≤ 1000 ∧ (wtx n tb).length ≤ 1000 := by
  have hcl : cl (wtx n tb) = [48 + n, 58] ++ ((leastBy (fun g m => g - 1 * 2 ^ m.toNat) n tb).map fun g => 32 :: cl (gtx g)).flatten := by
    unfold wtx
    rw [cl_app, cl_app, fig_cl n1 hn, colon_is]
    have e := cl_words ((leastBy (fun g m => g - 1 * 2 ^ m.toNat) n tb).map gtx)
    rw [List.map_map, List.map_map] at e
    have e2 : ((leastBy (fun g m => g - 1 * 2 ^ m.toNat) n tb).map fun g => Str.ofString " " ++ gtx g) = (leastBy (fun g m => g - 1 * 2 ^ m.toNat) n tb).map ((fun w => Str.ofString " " ++ w) ∘ gtx) := rfl
    rw [e2, e]
    rfl
  have hT := tab_least hn hl hM
  have hmem : ∀ g ∈ leastBy (fun g m => g - 1 * 2 ^ m.toNat) n tb, g ∈ up (2 ^ n) := fun g hg => least_mem hg
  have hlen := least_len hn (f := fun g m => g - 1 * 2 ^ m.toNat) (tb := tb)
  have hwl : (wtx n tb).length ≤ 1000 := by
    unfold wtx
    rw [str_len, str_len, join_len0]
    have := words_len hn (tb := tb)
    have h1 : (Str.ofString (toString (n : Int))).length = 1 := fig_len' (by omega) (by omega)
    have h2 : (Str.ofString ":").length = 1 := by decide +kernel
    omega
  have hsp : Txt.split (Txt.slice (wtx n tb) (some 2) none) " " = Str.ofString "" :: (leastBy (fun g m => g - 1 * 2 ^ m.toNat) n tb).map gtx := by
    rw [show (Txt.split (Txt.slice (wtx n tb) (some 2) none) " ") = Txt.split (Txt.slice (wtx n tb) (some 2) none) ⟨#[32]⟩ by rw [← blank_is]]
    refine split_is (by simp) ?_ ?_
    · intro p hp
      rcases List.mem_cons.mp hp with rfl | h
      · rw [empty_is]; simp
      · obtain ⟨g, hg, rfl⟩ := List.mem_map.mp h
        exact (gtx_ok hn (hmem g hg)).1
    · have e := slice_drop (wtx n tb) 2
      rw [show (((2 : Nat) : Int)) = 2 from rfl] at e
      rw [e, hcl, List.map_cons, jn_words, empty_is, List.map_map, List.map_map]
      rfl
  have hfig : Txt.slice (wtx n tb) none (some 1) = Str.ofString (toString (n : Int)) := by
    apply ext_cl
    have e := slice_take (wtx n tb) 1
    rw [show (((1 : Nat) : Int)) = 1 from rfl] at e
    rw [e, hcl, fig_cl n1 hn]
    rfl
  refine ⟨?_, by rw [hsp, List.length_cons, List.length_map]; omega, hwl⟩
  unfold readF
  rw [hfig, figN_fig ⟨n, by omega⟩ n1]
  dsimp only
  rw [hsp, List.drop_succ_cons, List.drop_zero]
  have hall : (((leastBy (fun g m => g - 1 * 2 ^ m.toNat) n tb).map gtx).all fun w => (knownL n).contains w) = true := by
    rw [List.all_map, List.all_eq_true]
    intro g hg
    exact in_known (hmem g hg)
  have hgs : (((leastBy (fun g m => g - 1 * 2 ^ m.toNat) n tb).map gtx).map fun w => (((knownL n).idxOf w : Nat) : Int)) = leastBy (fun g m => g - 1 * 2 ^ m.toNat) n tb := by
    rw [List.map_map]
    conv => rhs; rw [← List.map_id (leastBy (fun g m => g - 1 * 2 ^ m.toNat) n tb)]
    exact List.map_congr_left fun g hg => idx_gtx hn (hmem g hg)
  rw [if_pos hall, hgs, hT, if_pos rfl]
end Wv
namespace Wv
open PySem L2
/-! ## an own reading of texts -/
def digs (g : Int) : List Nat := (ins 5 g).map fun m => 48 + m.toNat
def sg (c : Nat) : Int := ((c - 48 : Nat) : Int)
def gin (n : Nat) : Int → List Nat → Int
  | g, [] => if 0 < g then g else -1
  | g, c :: r => if 48 ≤ c ∧ c ≤ 52 ∧ sg c < (n : Int) ∧ ¬ 0 < g / 2 ^ (sg c).toNat then gin n (Builtin.bitOr g (1 * 2 ^ (sg c).toNat)) r else -1
def wordG (n : Nat) (w : Str) : Int := if w = "-" then 0 else gin n 0 (cl w)
theorem step_f : ∀ n : Fin 6, ∀ g : Fin 32, ∀ d : Fin 5, g.val < 2 ^ n.val → d.val < n.val → ¬ 0 < (g.val : Int) / 2 ^ ((d.val : Int)).toNat →
    (digs (Builtin.bitOr (g.val : Int) (1 * 2 ^ ((d.val : Int)).toNat)) = digs (g.val : Int) ++ [48 + d.val] ∧ 0 ≤ Builtin.bitOr (g.val : Int) (1 * 2 ^ ((d.val : Int)).toNat) ∧ Builtin.bitOr (g.val : Int) (1 * 2 ^ ((d.val : Int)).toNat) < ((2 ^ n.val : Nat) : Int)) := by decide +kernel
theorem gin_digs {n : Nat} (hn : n ≤ 5) : ∀ (r : List Nat) (g h : Int), g ∈ up (2 ^ n) → gin n g r = h → 0 ≤ h → h ∈ up (2 ^ n) ∧ 0 < h ∧ digs h = digs g ++ r
  | [], g, h, hg, e, h0 => by
    unfold gin at e
    split at e
    · subst e
      exact ⟨hg, by assumption, by simp⟩
    · omega
  | c :: r, g, h, hg, e, h0 => by
    unfold gin at e
    split at e
    · rename_i hc
      obtain ⟨c1, c2, c3, c4⟩ := hc
      have h5 := two_le hn
      obtain ⟨g0, g1⟩ := mem_up.mp hg
      have e1 : ((g.toNat : Nat) : Int) = g := by omega
      have q := step_f ⟨n, by omega⟩ ⟨g.toNat, by omega⟩ ⟨c - 48, by omega⟩ (by show g.toNat < 2 ^ n; omega) (by show c - 48 < n; unfold sg at c3; omega) (by simp only [e1]; exact c4)
      simp only [e1] at q
      obtain ⟨i1, i2, i3⟩ := gin_digs hn r _ h (mem_up.mpr ⟨q.2.1, q.2.2⟩) e h0
      refine ⟨i1, i2, ?_⟩
      have ec : 48 + (c - 48) = c := by omega
      have q1 : digs (Builtin.bitOr g (1 * 2 ^ (sg c).toNat)) = digs g ++ [48 + (c - 48)] := q.1
      have i4 : digs h = digs (Builtin.bitOr g (1 * 2 ^ (sg c).toNat)) ++ r := i3
      rw [i4, q1, ec]
      simp
    · omega
theorem digs_gtx : ∀ g : Fin 32, 0 < g.val → cl (gtx (g.val : Int)) = digs (g.val : Int) := by decide +kernel
theorem wordG_f : ∀ n : Fin 6, ∀ g : Fin 32, g.val < 2 ^ n.val → wordG n.val (gtx (g.val : Int)) = (g.val : Int) := by decide +kernel
theorem wordG_gtx {n : Nat} (hn : n ≤ 5) {g : Int} (hg : g ∈ up (2 ^ n)) : wordG n (gtx g) = g := by
  have h5 := two_le hn
  obtain ⟨g0, g1⟩ := mem_up.mp hg
  have e : ((g.toNat : Nat) : Int) = g := by omega
  have q := wordG_f ⟨n, by omega⟩ ⟨g.toNat, by omega⟩ (by show g.toNat < 2 ^ n; omega)
  simpa only [e] using q
theorem wordG_ok {n : Nat} (hn : n ≤ 5) {w : Str} (h0 : 0 ≤ wordG n w) : wordG n w ∈ up (2 ^ n) ∧ w = gtx (wordG n w) := by
  have h5 := two_le hn
  have z0 : (0 : Int) ∈ up (2 ^ n) := mem_up.mpr ⟨Int.le_refl _, by have := Nat.two_pow_pos n; omega⟩
  unfold wordG at h0 ⊢
  split
  · rename_i e
    exact ⟨z0, by rw [e]; rfl⟩
  · rename_i e
    rw [if_neg e] at h0
    obtain ⟨i1, i2, i3⟩ := gin_digs hn (cl w) 0 _ z0 rfl h0
    refine ⟨i1, ext_cl ?_⟩
    generalize gin n 0 (cl w) = g at i1 i2 i3
    obtain ⟨g0, g1⟩ := mem_up.mp i1
    have e1 : ((g.toNat : Nat) : Int) = g := by omega
    have q := digs_gtx ⟨g.toNat, by omega⟩ (by show 0 < g.toNat; omega)
    simp only [e1] at q
    rw [q, i3]
    have d0 : digs 0 = [] := by decide +kernel
    rw [d0, List.nil_append]
/-! ### lists of groups, rising, none within another -/
def Good (gs : List Int) : Prop := gs.Pairwise (fun x y => x < y ∧ withinB x y = false) ∧ ∀ g ∈ gs, 0 ≤ g
def okAt (gs : List Int) (k : Nat) : Bool := !(decide (gs.getD k 0 < 0) || (decide (0 < k) && decide (gs.getD k 0 ≤ gs.getD (k - 1) 0)) || (gs.take k).any fun o => withinB o (gs.getD k 0))
theorem getD_at {gs : List Int} {k : Nat} (h : k < gs.length) : gs.getD k 0 = gs[k] := by rw [List.getD_eq_getElem?_getD, List.getElem?_eq_getElem h]; rfl
theorem okAt_iff {gs : List Int} {k : Nat} (h : k < gs.length) : okAt gs k = true ↔ 0 ≤ gs[k] ∧ (∀ j (hj : j < gs.length), j + 1 = k → gs[j] < gs[k]) ∧ ∀ j (hj : j < gs.length), j < k → withinB gs[j] gs[k] = false := by
  unfold okAt
  rw [Bool.not_eq_true', Bool.or_eq_false_iff, Bool.or_eq_false_iff, getD_at h, decide_eq_false_iff_not, Bool.and_eq_false_iff, decide_eq_false_iff_not, decide_eq_false_iff_not, List.any_eq_false]
  constructor
  · rintro ⟨⟨h1, h2⟩, h3⟩
    refine ⟨by omega, fun j hj e => ?_, fun j hj hlt => ?_⟩
    · subst e
      rcases h2 with h2 | h2
      · omega
      · rw [Nat.add_sub_cancel, getD_at hj] at h2
        omega
    · have := h3 gs[j] (List.mem_take_iff_getElem.mpr ⟨j, by omega, rfl⟩)
      simpa using this
  · rintro ⟨h1, h2, h3⟩
    refine ⟨⟨by omega, ?_⟩, fun o ho => ?_⟩
    · by_cases hk : 0 < k
      · right
        have := h2 (k - 1) (by omega) (by omega)
        rw [getD_at (show k - 1 < gs.length by omega)]
        omega
      · exact .inl hk
    · obtain ⟨j, hj, rfl⟩ := List.mem_take_iff_getElem.mp ho
      have := h3 j (by omega) (by omega)
      simpa using this
theorem good_iff (gs : List Int) : ((List.range gs.length).all (okAt gs)) = true ↔ Good gs := by
  rw [List.all_eq_true]
  constructor
  · intro h
    have h' : ∀ k (hk : k < gs.length), 0 ≤ gs[k] ∧ (∀ j (hj : j < gs.length), j + 1 = k → gs[j] < gs[k]) ∧ ∀ j (hj : j < gs.length), j < k → withinB gs[j] gs[k] = false := fun k hk => (okAt_iff hk).mp (h k (List.mem_range.mpr hk))
    have rise : ∀ j i (hj : j < gs.length) (hi : i < j), gs[i] < gs[j] := by
      intro j
      induction j with
      | zero => intro i _ hi; omega
      | succ j ih =>
        intro i hj hi
        have s := (h' (j + 1) hj).2.1 j (by omega) rfl
        by_cases e : i = j
        · subst e; exact s
        · exact Int.lt_trans (ih i (by omega) (by omega)) s
    refine ⟨List.pairwise_iff_getElem.mpr fun i j hi hj hij => ⟨rise j i hj hij, (h' j hj).2.2 i hi hij⟩, fun g hg => ?_⟩
    obtain ⟨k, hk, rfl⟩ := List.mem_iff_getElem.mp hg
    exact (h' k hk).1
  · rintro ⟨h1, h2⟩ k hk
    have hk' := List.mem_range.mp hk
    have p := List.pairwise_iff_getElem.mp h1
    exact (okAt_iff hk').mpr ⟨h2 _ (List.getElem_mem hk'), fun j hj e => (p j k hj hk' (by omega)).1, fun j hj hlt => (p j k hj hk' hlt).2⟩
theorem sorted_eq : ∀ {xs ys : List Int}, xs.Pairwise (· < ·) → ys.Pairwise (· < ·) → (∀ z, z ∈ xs ↔ z ∈ ys) → xs = ys
  | [], [], _, _, _ => rfl
  | [], y :: ys, _, _, h => absurd ((h y).mpr List.mem_cons_self) (by simp)
  | x :: xs, [], _, _, h => absurd ((h x).mp List.mem_cons_self) (by simp)
  | x :: xs, y :: ys, hx, hy, h => by
    obtain ⟨x1, x2⟩ := List.pairwise_cons.mp hx
    obtain ⟨y1, y2⟩ := List.pairwise_cons.mp hy
    have e : x = y := by
      rcases List.mem_cons.mp ((h x).mp List.mem_cons_self) with e | m
      · exact e
      · rcases List.mem_cons.mp ((h y).mpr List.mem_cons_self) with e | m'
        · exact e.symm
        · have := y1 x m; have := x1 y m'; omega
    subst e
    congr 1
    refine sorted_eq x2 y2 fun z => ⟨fun m => ?_, fun m => ?_⟩
    · rcases List.mem_cons.mp ((h z).mp (List.mem_cons_of_mem _ m)) with e | q
      · subst e; have := x1 z m; omega
      · exact q
    · rcases List.mem_cons.mp ((h z).mpr (List.mem_cons_of_mem _ m)) with e | q
      · subst e; have := y1 z m; omega
      · exact q
theorem up_sorted : ∀ n, (up n).Pairwise (· < ·)
  | 0 => List.Pairwise.nil
  | n + 1 => by
    rw [up_succ]
    refine List.pairwise_append.mpr ⟨up_sorted n, by simp, fun x hx y hy => ?_⟩
    have e : y = (n : Int) := by simpa using hy
    subst e
    exact (mem_up.mp hx).2
theorem within_less_f : ∀ o : Fin 32, ∀ g : Fin 32, withinB (o.val : Int) (g.val : Int) = true → o ≠ g → ∃ m : Fin 5, hasB (g.val : Int) (m.val : Int) = true ∧ withinB (o.val : Int) ((g.val : Int) - 1 * 2 ^ ((m.val : Int)).toNat) = true := by decide +kernel
theorem has_small_f : ∀ n : Fin 6, ∀ g : Fin 32, ∀ m : Fin 5, g.val < 2 ^ n.val → hasB (g.val : Int) (m.val : Int) = true → m.val < n.val := by decide +kernel
theorem within_less {n : Nat} (hn : n ≤ 5) {o g : Int} (ho : o ∈ up (2 ^ n)) (hg : g ∈ up (2 ^ n)) (hw : withinB o g = true) (hne : o ≠ g) : ∃ m ∈ ins n g, withinB o (g - 1 * 2 ^ m.toNat) = true := by
  have h5 := two_le hn
  obtain ⟨g0, g1⟩ := mem_up.mp hg
  obtain ⟨o0, o1⟩ := mem_up.mp ho
  have e1 : ((g.toNat : Nat) : Int) = g := by omega
  have e2 : ((o.toNat : Nat) : Int) = o := by omega
  obtain ⟨m, q1, q2⟩ := within_less_f ⟨o.toNat, by omega⟩ ⟨g.toNat, by omega⟩ (by simp only [e1, e2]; exact hw) (fun z => hne (by have := congrArg Fin.val z; simp only at this; omega))
  simp only [e1, e2] at q1 q2
  have q3 := has_small_f ⟨n, by omega⟩ ⟨g.toNat, by omega⟩ m (by show g.toNat < 2 ^ n; omega) (by simp only [e1]; exact q1)
  exact ⟨(m.val : Int), List.mem_filter.mpr ⟨mem_up.mpr ⟨by omega, by have : m.val < n := q3; omega⟩, q1⟩, q2⟩
theorem within_le_f : ∀ o : Fin 32, ∀ g : Fin 32, withinB (o.val : Int) (g.val : Int) = true → o.val ≤ g.val := by decide +kernel
theorem within_le {n : Nat} (hn : n ≤ 5) {o g : Int} (ho : o ∈ up (2 ^ n)) (hg : g ∈ up (2 ^ n)) (hw : withinB o g = true) : o ≤ g := by
  have h5 := two_le hn
  obtain ⟨g0, g1⟩ := mem_up.mp hg
  obtain ⟨o0, o1⟩ := mem_up.mp ho
  have e1 : ((g.toNat : Nat) : Int) = g := by omega
  have e2 : ((o.toNat : Nat) : Int) = o := by omega
  have q := within_le_f ⟨o.toNat, by omega⟩ ⟨g.toNat, by omega⟩ (by simp only [e1, e2]; exact hw)
  have q' : o.toNat ≤ g.toNat := q
  omega
theorem good_least {n : Nat} (hn : n ≤ 5) {tb : List Bool} (hM : Mono n tb) : Good (leastBy (fun g m => g - 1 * 2 ^ m.toNat) n tb) := by
  refine ⟨?_, fun g hg => (mem_up.mp (least_mem hg)).1⟩
  have s : (leastBy (fun g m => g - 1 * 2 ^ m.toNat) n tb).Pairwise (· < ·) := (up_sorted _).sublist List.filter_sublist
  refine s.imp_of_mem fun {o g} ho hg hlt => ⟨hlt, ?_⟩
  cases hw : withinB o g with
  | false => rfl
  | true =>
    obtain ⟨m, hm, hwm⟩ := within_less hn (least_mem ho) (least_mem hg) hw (by omega)
    have ok := sub_ok hn (least_mem hg) hm
    have h1 := (List.mem_filter.mp ho).2
    have h2 := (List.mem_filter.mp hg).2
    rw [Bool.and_eq_true] at h1 h2
    have t := hM _ _ (least_mem ho) (mem_up.mpr ok.2) hwm h1.1
    have h3 := h2.2
    rw [Bool.not_eq_true', List.any_eq_false] at h3
    exact absurd t (h3 _ (List.mem_map.mpr ⟨m, hm, rfl⟩))
theorem least_good {n : Nat} (hn : n ≤ 5) {gs : List Int} (hG : Good gs) (hu : ∀ g ∈ gs, g ∈ up (2 ^ n)) : leastBy (fun g m => g - 1 * 2 ^ m.toNat) n (tabOf n gs) = gs := by
  have s1 : (leastBy (fun g m => g - 1 * 2 ^ m.toNat) n (tabOf n gs)).Pairwise (· < ·) := (up_sorted _).sublist List.filter_sublist
  have s2 : gs.Pairwise (· < ·) := hG.1.imp fun h => h.1
  have hM := mono_tab hn hu
  have anti : ∀ o ∈ gs, ∀ g ∈ gs, withinB o g = true → o = g := by
    intro o ho g hg hw
    by_cases e : o = g
    · exact e
    exfalso
    obtain ⟨i, hi, rfl⟩ := List.mem_iff_getElem.mp ho
    obtain ⟨j, hj, rfl⟩ := List.mem_iff_getElem.mp hg
    have p := List.pairwise_iff_getElem.mp hG.1
    rcases Nat.lt_trichotomy i j with h | h | h
    · have := (p i j hi hj h).2; rw [hw] at this; cases this
    · subst h; exact e rfl
    · have lt := (p j i hj hi h).1
      obtain ⟨m, hm, hwm⟩ := within_less hn (hu _ ho) (hu _ hg) hw e
      have le := within_le hn (hu _ ho) (hu _ hg) hw
      omega
  refine sorted_eq s1 s2 fun g => ⟨fun h => ?_, fun h => ?_⟩
  · have hg := least_mem h
    obtain ⟨g0, g1⟩ := mem_up.mp hg
    have h1 := (List.mem_filter.mp h).2
    rw [Bool.and_eq_true, at_tab g0 g1] at h1
    obtain ⟨o, ho, hw⟩ := List.any_eq_true.mp h1.1
    by_cases e : o = g
    · rw [← e]; exact ho
    · obtain ⟨m, hm, hwm⟩ := within_less hn (hu _ ho) hg hw e
      have ok := sub_ok hn hg hm
      have h3 := h1.2
      rw [Bool.not_eq_true', List.any_eq_false] at h3
      have h4 := h3 _ (List.mem_map.mpr ⟨m, hm, rfl⟩)
      exfalso
      apply h4
      show at_ (tabOf n gs) (g - 1 * 2 ^ m.toNat) = true
      rw [at_tab ok.2.1 ok.2.2]
      exact List.any_eq_true.mpr ⟨o, ho, hwm⟩
  · have hg := hu g h
    obtain ⟨g0, g1⟩ := mem_up.mp hg
    refine List.mem_filter.mpr ⟨hg, ?_⟩
    rw [Bool.and_eq_true, at_tab g0 g1]
    refine ⟨List.any_eq_true.mpr ⟨g, h, within_self hn hg⟩, ?_⟩
    rw [Bool.not_eq_true', List.any_eq_false]
    intro b hb
    obtain ⟨m, hm, rfl⟩ := List.mem_map.mp hb
    have ok := sub_ok hn hg hm
    intro t
    have t' : at_ (tabOf n gs) (g - 1 * 2 ^ m.toNat) = true := t
    rw [at_tab ok.2.1 ok.2.2] at t'
    obtain ⟨o, ho, hw⟩ := List.any_eq_true.mp t'
    have e := anti o ho g h (within_tr hn (hu o ho) (mem_up.mpr ok.2) hg hw (sub_within hn hg hm))
    subst e
    have le := within_le hn hg (mem_up.mpr ok.2) hw
    have hp : (0 : Int) < 2 ^ m.toNat := Int.pow_pos (by decide)
    omega
/-! ### the law's reading is the program's -/
def headL : List Str := ["1:", "2:", "3:", "4:", "5:"]
def headN (w : Str) : Option Nat := ([1, 2, 3, 4, 5] : List Nat).find? fun (n : Nat) => Str.ofString (toString (n : Int)) ++ Str.ofString ":" == w
theorem headL_is : headL = ([1, 2, 3, 4, 5] : List Nat).map fun (n : Nat) => Str.ofString (toString (n : Int)) ++ Str.ofString ":" := by decide +kernel
theorem head_mem (f : Str) : headL.contains f = (headN f).isSome := by
  rw [headL_is]
  unfold headN
  rw [List.contains_eq_any_beq, List.any_map, Bool.eq_iff_iff, List.any_eq_true, List.find?_isSome]
  constructor
  · rintro ⟨x, hx, h⟩
    exact ⟨x, hx, beq_iff_eq.mpr (beq_iff_eq.mp h).symm⟩
  · rintro ⟨x, hx, h⟩
    exact ⟨x, hx, beq_iff_eq.mpr (beq_iff_eq.mp h).symm⟩
theorem headN_some {f : Str} {n : Nat} (h : headN f = some n) : f = Str.ofString (toString (n : Int)) ++ Str.ofString ":" ∧ 1 ≤ n ∧ n ≤ 5 := by
  unfold headN at h
  have h1 := List.find?_some h
  have h2 := List.mem_of_find?_eq_some h
  refine ⟨(beq_iff_eq.mp h1).symm, ?_⟩
  simp only [List.mem_cons, List.not_mem_nil, or_false] at h2
  omega
theorem headN_fig : ∀ n : Fin 6, 1 ≤ n.val → headN (Str.ofString (toString (n.val : Int)) ++ Str.ofString ":") = some n.val := by decide +kernel
def lawIn (x : Str) : Option (Nat × List Int) :=
  match headN ((Txt.split x " ").headD "") with
  | none => none
  | some n => if ((List.range ((Txt.split x " ").drop 1).length).all (okAt (((Txt.split x " ").drop 1).map (wordG n)))) = true then some (n, ((Txt.split x " ").drop 1).map (wordG n)) else none
theorem split_blank (x : Str) : Txt.split x " " = Txt.split x ⟨#[32]⟩ := by rw [← blank_is]
/-- n members and words written out -/
theorem split_head {n : Nat} (n1 : 1 ≤ n) (hn : n ≤ 5) {x : Str} {ws : List Str} (hw : ∀ w ∈ ws, 32 ∉ cl w) (hx : cl x = [48 + n, 58] ++ (ws.map fun w => 32 :: cl w).flatten) :
    Txt.split x " " = (Str.ofString (toString (n : Int)) ++ Str.ofString ":") :: ws ∧ Txt.split (Txt.slice x (some 2) none) " " = Str.ofString "" :: ws ∧ Txt.slice x none (some 1) = Str.ofString (toString (n : Int)) := by
  have hc : cl (Str.ofString (toString (n : Int)) ++ Str.ofString ":") = [48 + n, 58] := by rw [cl_app, fig_cl n1 hn, colon_is]; rfl
  refine ⟨?_, ?_, ?_⟩
  · rw [split_blank]
    refine split_is (by simp) (fun p hp => ?_) ?_
    · rcases List.mem_cons.mp hp with rfl | h
      · rw [hc]; simp; omega
      · exact hw p h
    · rw [hx, List.map_cons, jn_words, hc, List.map_map]
      rfl
  · rw [split_blank]
    refine split_is (by simp) (fun p hp => ?_) ?_
    · rcases List.mem_cons.mp hp with rfl | h
      · rw [empty_is]; simp
      · exact hw p h
    · have e := slice_drop x 2
      rw [show (((2 : Nat) : Int)) = 2 from rfl] at e
      rw [e, hx, List.map_cons, jn_words, empty_is, List.map_map]
      rfl
  · apply ext_cl
    have e := slice_take x 1
    rw [show (((1 : Nat) : Int)) = 1 from rfl] at e
    rw [e, hx, fig_cl n1 hn]
    rfl
theorem wtx_cl {n : Nat} (n1 : 1 ≤ n) (hn : n ≤ 5) (tb : List Bool) : cl (wtx n tb) = [48 + n, 58] ++ (((leastBy (fun g m => g - 1 * 2 ^ m.toNat) n tb).map gtx).map fun w => 32 :: cl w).flatten := by
  unfold wtx
  rw [cl_app, cl_app, fig_cl n1 hn, colon_is]
  have e := cl_words ((leastBy (fun g m => g - 1 * 2 ^ m.toNat) n tb).map gtx)
  rw [List.map_map] at e
  have e2 : ((leastBy (fun g m => g - 1 * 2 ^ m.toNat) n tb).map fun g => Str.ofString " " ++ gtx g) = (leastBy (fun g m => g - 1 * 2 ^ m.toNat) n tb).map ((fun w => Str.ofString " " ++ w) ∘ gtx) := rfl
  rw [e2, e]
  rfl
theorem law_read {x : Str} {n : Nat} {gs : List Int} (h : lawIn x = some (n, gs)) : readF x = some (n, gs) ∧ 1 ≤ n ∧ n ≤ 5 ∧ Good gs ∧ (∀ g ∈ gs, g ∈ up (2 ^ n)) ∧ leastBy (fun g m => g - 1 * 2 ^ m.toNat) n (tabOf n gs) = gs := by
  unfold lawIn at h
  split at h
  · cases h
  · rename_i m hm
    split at h
    · rename_i hall
      cases h
      obtain ⟨hhead, n1, n5⟩ := headN_some hm
      have hlen : ((Txt.split x " ").drop 1).length = (((Txt.split x " ").drop 1).map (wordG n)).length := by rw [List.length_map]
      rw [hlen] at hall
      have hG := (good_iff _).mp hall
      have hne : Txt.split x " " ≠ [] := by rw [split_blank]; exact split_ne x 32
      have hcons : Txt.split x " " = (Str.ofString (toString (n : Int)) ++ Str.ofString ":") :: (Txt.split x " ").drop 1 := by
        cases e : Txt.split x " " with
        | nil => exact absurd e hne
        | cons p r =>
          rw [e] at hhead
          have : p = Str.ofString (toString (n : Int)) ++ Str.ofString ":" := hhead
          rw [this]
          rfl
      have hback := split_back x 32
      rw [← split_blank, hcons, List.map_cons, jn_words] at hback
      have hc : cl (Str.ofString (toString (n : Int)) ++ Str.ofString ":") = [48 + n, 58] := by rw [cl_app, fig_cl n1 n5, colon_is]; rfl
      rw [hc, List.map_map] at hback
      have hfree : ∀ w ∈ (Txt.split x " ").drop 1, 32 ∉ cl w := fun w hw => by
        have := List.mem_of_mem_drop hw
        rw [split_blank] at this
        exact StrLaws.split_free x 32 w this
      obtain ⟨_, hs2, hs3⟩ := split_head n1 n5 hfree hback
      generalize (Txt.split x " ").drop 1 = ws at hG hback hfree hs2 hs3
      have hww : ∀ w ∈ ws, wordG n w ∈ up (2 ^ n) ∧ w = gtx (wordG n w) := fun w hw => wordG_ok n5 (hG.2 _ (List.mem_map.mpr ⟨w, hw, rfl⟩))
      have hgu : ∀ g ∈ ws.map (wordG n), g ∈ up (2 ^ n) := fun g hg => by
        obtain ⟨w, hw, rfl⟩ := List.mem_map.mp hg
        exact (hww w hw).1
      have hL := least_good n5 hG hgu
      have hwords : ws = (ws.map (wordG n)).map gtx := by
        rw [List.map_map]
        conv => lhs; rw [← List.map_id ws]
        exact List.map_congr_left fun w hw => (hww w hw).2
      refine ⟨?_, n1, n5, hG, hgu, hL⟩
      unfold readF
      rw [hs3, figN_fig ⟨n, by omega⟩ n1]
      dsimp only
      rw [hs2, List.drop_succ_cons, List.drop_zero]
      have hidx : (ws.map fun w => (((knownL n).idxOf w : Nat) : Int)) = ws.map (wordG n) := List.map_congr_left fun w hw => by
        have q := idx_gtx n5 (hww w hw).1
        rw [← (hww w hw).2] at q
        exact q
      have hk : (ws.all fun w => (knownL n).contains w) = true := by
        rw [List.all_eq_true]
        intro w hw
        rw [(hww w hw).2]
        exact in_known (hww w hw).1
      rw [if_pos hk, hidx]
      refine if_pos (ext_cl ?_)
      rw [wtx_cl n1 n5, hL, ← hwords, hback]
      rfl
    · cases h
theorem read_law {x : Str} {n : Nat} {gs : List Int} (h : readF x = some (n, gs)) : lawIn x = some (n, gs) := by
  have hx : x = wtx n (tabOf n gs) ∧ 1 ≤ n ∧ n ≤ 5 ∧ ∀ g ∈ gs, g ∈ up (2 ^ n) := by
    unfold readF at h
    split at h
    · cases h
    · rename_i m hm
      obtain ⟨_, n1, n5⟩ := figN_some hm
      split at h
      · rename_i hall
        split at h
        · rename_i e
          cases h
          exact ⟨e.symm, n1, n5, fun g hg => mem_up.mpr (idx_ok hall g hg)⟩
        · cases h
      · cases h
  obtain ⟨hx, n1, n5, hu⟩ := hx
  have hM := mono_tab n5 hu
  have hr := (read_written n1 n5 (tabOf_length n gs) hM).1
  rw [← hx, h] at hr
  have hgs : gs = leastBy (fun g m => g - 1 * 2 ^ m.toNat) n (tabOf n gs) := (Prod.mk.inj (Option.some.inj hr)).2
  have hG := good_least n5 hM
  rw [← hgs] at hG
  have hcl := wtx_cl n1 n5 (tabOf n gs)
  rw [← hx, ← hgs] at hcl
  obtain ⟨hs1, _, _⟩ := split_head n1 n5 (ws := gs.map gtx) (fun w hw => by
    obtain ⟨g, hg, rfl⟩ := List.mem_map.mp hw
    exact (gtx_ok n5 (hu g hg)).1) hcl
  have hwg : (gs.map gtx).map (wordG n) = gs := by
    rw [List.map_map]
    conv => rhs; rw [← List.map_id gs]
    exact List.map_congr_left fun g hg => wordG_gtx n5 (hu g hg)
  unfold lawIn
  rw [hs1]
  have hh : headN (((Str.ofString (toString (n : Int)) ++ Str.ofString ":") :: gs.map gtx).headD "") = some n := headN_fig ⟨n, by omega⟩ n1
  rw [hh]
  dsimp only
  rw [List.drop_succ_cons, List.drop_zero, hwg, List.length_map, if_pos ((good_iff gs).mpr hG)]
theorem read_is_law (x : Str) : readF x = lawIn x := by
  cases h : lawIn x with
  | some p =>
    obtain ⟨n, gs⟩ := p
    exact (law_read h).1
  | none =>
    cases e : readF x with
    | none => rfl
    | some p =>
      obtain ⟨n, gs⟩ := p
      rw [read_law e] at h
      cases h
end Wv

set_option Elab.async false
set_option linter.all false
set_option maxRecDepth 100000
set_option maxHeartbeats 4000000

namespace Wv
open PySem L2
seal L2.PSs L2.PS L2.PE L2.PA L2.PT L2.PI L2.PW L2.PG L2.PGs L2.PIfs
/-! ## the law of texts -/
def OkT (z : Str) : Prop := z.length ≤ 100000 ∧ (cl z).count 32 ≤ 900
theorem jn_count (c : Nat) : ∀ ps : List (List Nat), ps.length ≤ (jn c ps).count c + 1
  | [] => Nat.zero_le _
  | [x] => by show 1 ≤ _; omega
  | x :: y :: r => by
    have h := jn_count c (y :: r)
    rw [jn_cons, List.count_append, List.count_cons_self, List.length_cons]
    omega
theorem split_count (z : Str) : (Txt.split z " ").length ≤ (cl z).count 32 + 1 := by
  rw [split_blank]
  have h := jn_count 32 ((Txt.split z ⟨#[32]⟩).map cl)
  rw [← split_back, List.length_map] at h
  exact h
theorem slice_count (z : Str) : (cl (Txt.slice z (some 2) none)).count 32 ≤ (cl z).count 32 := by
  have e := slice_drop z 2
  rw [show (((2 : Nat) : Int)) = 2 from rfl] at e
  rw [e]
  exact (List.drop_sublist 2 (cl z)).count_le 32
def sp_law_refused (K : PySem.W.Frag) : Sp := fun vs H Q _ => ∃ v : V, vs = [v] ∧ ((∃ z, v = .str z ∧ OkT z ∧ readF z = none) ∨ (∃ t, TyOf K H v (.type t) ∧ (t == "str") = false)) ∧ ∀ H', Same H H' → Q (.bl true) H'
theorem okx_law_refused {P : Program} {w : World} {K : PySem.W.Frag} {mg : Str → Option Value} {base : Heap} {a : Adr} (T : Txt K mg a) : FnOk P w K mg base (CXe P w) 8 a.a_law_refused a.d_law_refused ["_law_text"] (sp_law_refused K) := by
  refine T.F_law_refused.okX sc_law_refused (fun vs H Q E h => ?_) (fun cdv A outer s H vs Q E hr h => ?_)
  · obtain ⟨v, rfl, _⟩ := h; rfl
  obtain ⟨v, rfl, hv, k⟩ := h
  refine ⟨_, (pss_cons (ps_try (i := 1) rfl rfl rfl rfl T.m_CouncilError T.x_CouncilError sc_law_refused.nd rfl rfl (fun pn xe Eh hpass => (pss_one (ps_expr (pe_call (okx_read T) hr rfl T.m_read T.F_read.kp (b_read T) .nil hpass (pa_cons (pv 0) pa_nil))))) (fun ea => (pss_cons (ps_set (i := 2) sc_law_refused.nd rfl (by first | exact Or.inl rfl | exact Or.inr rfl) (pe_lst (pa_cons (pe_callB (call_isX K) rfl T.z_isinstance PyProof.Rows.boot_isinstance (pa_cons (pv 1) (pa_cons (pe_glob (v := .ref a.C_BadCouncil) rfl T.m_BadCouncil rfl) pa_nil))) (pa_cons (pe_callB (call_isX K) rfl T.z_isinstance PyProof.Rows.boot_isinstance (pa_cons (pv 1) (pa_cons (pe_glob (v := .ref a.C_BadGroup) rfl T.m_BadGroup rfl) pa_nil))) (pa_cons (pe_callB (call_isX K) rfl T.z_isinstance PyProof.Rows.boot_isinstance (pa_cons (pv 1) (pa_cons (pe_glob (v := .ref a.C_NoMember) rfl T.m_NoMember rfl) pa_nil))) pa_nil)))))
      (pss_cons (ps_set (i := 2) sc_law_refused.nd rfl (by first | exact Or.inl rfl | exact Or.inr rfl) (pe_op op_cat (pv 2) (pe_lst (pa_cons (pe_callB (call_isX K) rfl T.z_isinstance PyProof.Rows.boot_isinstance (pa_cons (pv 1) (pa_cons (pe_glob (v := .ref a.C_BadWeights) rfl T.m_BadWeights rfl) pa_nil))) (pa_cons (pe_callB (call_isX K) rfl T.z_isinstance PyProof.Rows.boot_isinstance (pa_cons (pv 1) (pa_cons (pe_glob (v := .ref a.C_Unlike) rfl T.m_Unlike rfl) pa_nil))) pa_nil)))))
      (pss_one (ps_ret (pe_and (pe_callB (call_isX K) rfl T.z_isinstance PyProof.Rows.boot_isinstance (pa_cons (pv 1) (pa_cons (pe_glob (v := .ref a.C_BadText) rfl T.m_BadText rfl) pa_nil))) (pe_and (pe_callB (call_isX K) rfl T.z_isinstance PyProof.Rows.boot_isinstance (pa_cons (pv 1) (pa_cons (pe_bltn (v := .ty "ValueError") rfl T.z_ValueError boot_ValueErr rfl) pa_nil))) (pe_one (pe_not (pe_callB (call_anyH K ea rfl) rfl T.z_any PyProof.Rows.boot_any (pa_cons (pv 2) pa_nil))))))))))))
      (pss_one (ps_ret pe_bl))), ?_⟩
  refine ⟨_, rfl, ?_⟩
  rcases hv with ⟨z, rfl, ⟨z1, z2⟩, hn⟩ | ⟨t, ty, ht⟩
  · refine .inl ⟨z, rfl, z1, ?_, fun n gs e => (by rw [hn] at e; cases e), fun _ H1 s1 => ?_⟩
    · have := split_count (Txt.slice z (some 2) none)
      have := slice_count z
      omega
    refine ⟨a.C_BadText, rfl, T.x_BadText, T.su_BadText_CouncilError, fun ea nea => ?_⟩
    have he : upd H1 ea (excO ea a.C_BadText) ea = some (excO ea a.C_BadText) := upd_same
    have s2 := s1.trans (same_new nea (excO ea a.C_BadText))
    generalize upd H1 ea (excO ea a.C_BadText) = H2 at he s2
    refine ⟨_, rfl, ea, _, _, _, rfl, he, T.x_BadText, .inl ⟨_, rfl, T.ki_BadText_BadCouncil⟩, ?_⟩
    refine ⟨_, rfl, ea, _, _, _, rfl, he, T.x_BadText, .inl ⟨_, rfl, T.ki_BadText_BadGroup⟩, ?_⟩
    refine ⟨_, rfl, ea, _, _, _, rfl, he, T.x_BadText, .inl ⟨_, rfl, T.ki_BadText_NoMember⟩, ?_⟩
    refine ⟨(by show 3 ≤ sizeLine; decide), fun l1 nl1 => ?_⟩
    have s3 := same_new nl1 (.lst [V.bl false, .bl false, .bl false])
    have hl1 : upd H2 l1 (.lst [V.bl false, .bl false, .bl false]) l1 = some (.lst [V.bl false, .bl false, .bl false]) := upd_same
    refine ⟨_, rfl, _, rfl, ea, _, _, _, rfl, s3 _ _ he, T.x_BadText, .inl ⟨_, rfl, T.ki_BadText_BadWeights⟩, ?_⟩
    refine ⟨_, rfl, ea, _, _, _, rfl, s3 _ _ he, T.x_BadText, .inl ⟨_, rfl, T.ki_BadText_Unlike⟩, ?_⟩
    refine ⟨(by show 2 ≤ sizeLine; decide), fun l2 nl2 => ?_⟩
    have s4 := same_new nl2 (.lst [V.bl false, .bl false])
    refine ⟨l1, l2, _, _, rfl, rfl, s4 _ _ hl1, upd_same, (by show 5 ≤ sizeLine; decide), fun l3 nl3 => ?_⟩
    have s5 := same_new nl3 (.lst ([V.bl false, .bl false, .bl false] ++ [V.bl false, .bl false]))
    have sA := s3.trans (s4.trans s5)
    refine ⟨_, rfl, ea, _, _, _, rfl, sA _ _ he, T.x_BadText, .inl ⟨_, rfl, T.ki_BadText_BadText⟩, _, rfl, iteT ?_⟩
    refine ⟨_, rfl, ea, _, _, _, rfl, sA _ _ he, T.x_BadText, .inr ⟨_, rfl, T.ki_BadText_ValueError⟩, _, rfl, iteT ?_⟩
    refine ⟨_, rfl, l3, [false, false, false, false, false], _, rfl, SqL.of (by rw [upd_same]; rfl), sA _ _ he, _, rfl, ?_⟩
    exact k _ (s2.trans sA)
  · refine .inr ⟨v, t, rfl, ty, ht, fun H1 s1 => ?_⟩
    refine ⟨a.C_BadText, rfl, T.x_BadText, T.su_BadText_CouncilError, fun ea nea => ?_⟩
    have he : upd H1 ea (excO ea a.C_BadText) ea = some (excO ea a.C_BadText) := upd_same
    have s2 := s1.trans (same_new nea (excO ea a.C_BadText))
    generalize upd H1 ea (excO ea a.C_BadText) = H2 at he s2
    refine ⟨_, rfl, ea, _, _, _, rfl, he, T.x_BadText, .inl ⟨_, rfl, T.ki_BadText_BadCouncil⟩, ?_⟩
    refine ⟨_, rfl, ea, _, _, _, rfl, he, T.x_BadText, .inl ⟨_, rfl, T.ki_BadText_BadGroup⟩, ?_⟩
    refine ⟨_, rfl, ea, _, _, _, rfl, he, T.x_BadText, .inl ⟨_, rfl, T.ki_BadText_NoMember⟩, ?_⟩
    refine ⟨(by show 3 ≤ sizeLine; decide), fun l1 nl1 => ?_⟩
    have s3 := same_new nl1 (.lst [V.bl false, .bl false, .bl false])
    have hl1 : upd H2 l1 (.lst [V.bl false, .bl false, .bl false]) l1 = some (.lst [V.bl false, .bl false, .bl false]) := upd_same
    refine ⟨_, rfl, _, rfl, ea, _, _, _, rfl, s3 _ _ he, T.x_BadText, .inl ⟨_, rfl, T.ki_BadText_BadWeights⟩, ?_⟩
    refine ⟨_, rfl, ea, _, _, _, rfl, s3 _ _ he, T.x_BadText, .inl ⟨_, rfl, T.ki_BadText_Unlike⟩, ?_⟩
    refine ⟨(by show 2 ≤ sizeLine; decide), fun l2 nl2 => ?_⟩
    have s4 := same_new nl2 (.lst [V.bl false, .bl false])
    refine ⟨l1, l2, _, _, rfl, rfl, s4 _ _ hl1, upd_same, (by show 5 ≤ sizeLine; decide), fun l3 nl3 => ?_⟩
    have s5 := same_new nl3 (.lst ([V.bl false, .bl false, .bl false] ++ [V.bl false, .bl false]))
    have sA := s3.trans (s4.trans s5)
    refine ⟨_, rfl, ea, _, _, _, rfl, sA _ _ he, T.x_BadText, .inl ⟨_, rfl, T.ki_BadText_BadText⟩, _, rfl, iteT ?_⟩
    refine ⟨_, rfl, ea, _, _, _, rfl, sA _ _ he, T.x_BadText, .inr ⟨_, rfl, T.ki_BadText_ValueError⟩, _, rfl, iteT ?_⟩
    refine ⟨_, rfl, l3, [false, false, false, false, false], _, rfl, SqL.of (by rw [upd_same]; rfl), sA _ _ he, _, rfl, ?_⟩
    exact k _ (s2.trans sA)
def sp_law_group_in : Sp := fun vs H Q _ => ∃ (w : Str) (n : Nat), vs = [.str w, .int n] ∧ ∀ H', Same H H' → Q (.int (wordG n w)) H'
theorem five_is : cl (Str.ofString "01234") = [48, 49, 50, 51, 52] := by decide +kernel
theorem sign_in (c : Nat) : (!(Builtin.Str.occurrences (Str.ofString "01234") ⟨#[c]⟩ 0 (Str.ofString "01234").length 1).isEmpty) = decide (48 ≤ c ∧ c ≤ 52) := by
  rw [StrLaws.found_one]
  have e := five_is
  unfold cl at e
  rw [e, Bool.eq_iff_iff, decide_eq_true_eq, decide_eq_true_eq]
  simp only [List.mem_cons, List.not_mem_nil, or_false]
  omega
theorem sign_int_f : ∀ d : Fin 5, PySem.intText? ⟨#[48 + d.val]⟩ = some (d.val : Int) := by decide +kernel
theorem sign_int {c : Nat} (h1 : 48 ≤ c) (h2 : c ≤ 52) : PySem.intText? ⟨#[c]⟩ = some (sg c) := by
  have q := sign_int_f ⟨c - 48, by omega⟩
  have e : 48 + (c - 48) = c := by omega
  simp only [e] at q
  exact q
theorem ok_law_group_in {P : Program} {w : World} {K : PySem.W.Frag} {mg : Str → Option Value} {base : Heap} {a : Adr} (T : Txt K mg a) : FnOk P w K mg base CX0 1 a.a_law_group_in a.d_law_group_in ["_law_word", "_law_members"] sp_law_group_in := by
  refine T.F_law_group_in.ok sc_law_group_in (fun vs H Q E h => ?_) (fun cdv A outer s H vs Q E hr h => ?_)
  · obtain ⟨w, n, rfl, _⟩ := h; rfl
  obtain ⟨w, n, rfl, k⟩ := h
  refine ⟨_, (pss_cons (ps_if (pt_cmpR op_eq (pv 0) pe_str (nomark _)) (pss_one (ps_ret pe_int)) pss_nil)
      (pss_cons (ps_set (i := 2) sc_law_group_in.nd rfl (by first | exact Or.inl rfl | exact Or.inr rfl) pe_int)
      (pss_cons (ps_for PassesOwn.never rfl (pi_str (pv 0)) (pg_name (i := 3) sc_law_group_in.nd rfl (by first | exact Or.inl rfl | exact Or.inr rfl)) (pss_cons (ps_if (PW.pt (pw_or (pt_cmpR op_notIn_str (pv 3) pe_str rfl) (pw_or (pt_cmpR op_ge (pe_callTy call_int_str rfl T.z_int PyProof.Rows.boot_int (pa_cons (pv 3) pa_nil)) (pv 1) (nomark _)) (pw_or1 (pt_cmpR op_gt (pe_op op_shr (pv 2) (pe_callTy call_int_str rfl T.z_int PyProof.Rows.boot_int (pa_cons (pv 3) pa_nil))) pe_int (nomark _)))))) (pss_one (ps_ret (pe_un un_neg pe_int))) pss_nil)
      (pss_one (ps_set (i := 2) sc_law_group_in.nd rfl (by first | exact Or.inl rfl | exact Or.inr rfl) (pe_op op_or (pv 2) (pe_op op_shl pe_int (pe_callTy call_int_str rfl T.z_int PyProof.Rows.boot_int (pa_cons (pv 3) pa_nil))))))))
      (pss_one (ps_ret (pe_ifExp (pt_cmpR op_gt (pv 2) pe_int (nomark _)) (pv 2) (pe_un un_neg pe_int))))))), ?_⟩
  refine ⟨_, rfl, rfl, _, rfl, ?_⟩
  refine ite_b (fun hc => ?_) (fun hc => ?_)
  · have e : w = "-" := V.str.inj (of_decide_eq_true hc)
    have q := k H (Same.refl _)
    unfold wordG at q
    rw [if_pos e] at q
    exact q
  have e : ¬ w = "-" := fun z => of_decide_eq_false hc (by rw [z])
  have k' : ∀ H', Same H H' → Q (.int (gin n 0 (cl w))) H' := fun H' s => by
    have q := k H' s
    unfold wordG at q
    rw [if_neg e] at q
    exact q
  refine ⟨_, rfl, w, rfl, ?_⟩
  refine for_str (z := w) (fun i σ' H' => ∃ (g : Int) (y : Option V), σ' = [some (.str w), some (.int n), some (.int g), y] ∧ Same H H' ∧ gin n 0 (cl w) = gin n g ((cl w).drop i)) ?_ ?_ ?_
  · exact ⟨0, none, rfl, Same.refl _, rfl⟩
  · rintro i c σ' H' hx ⟨g, y, rfl, hs, hg⟩
    have hx' : (cl w)[i]? = some c := by simpa using hx
    have ed : (cl w).drop i = c :: (cl w).drop (i + 1) := by
      obtain ⟨hlt, e⟩ := List.getElem?_eq_some_iff.mp hx'
      rw [List.drop_eq_getElem_cons hlt, e]
    rw [ed] at hg
    have hg : gin n 0 (cl w) = if 48 ≤ c ∧ c ≤ 52 ∧ sg c < (n : Int) ∧ ¬ 0 < g / 2 ^ (sg c).toNat then gin n (Builtin.bitOr g (1 * 2 ^ (sg c).toNat)) ((cl w).drop (i + 1)) else -1 := hg
    have bad : ¬ (48 ≤ c ∧ c ≤ 52 ∧ sg c < (n : Int) ∧ ¬ 0 < g / 2 ^ (sg c).toNat) → Q (.int (-1)) H' := fun hb => by
      rw [if_neg hb] at hg
      have q := k' H' hs
      rw [hg] at q
      exact q
    have len1 : (⟨#[c]⟩ : Str).length ≤ 640 := by show 1 ≤ 640; decide
    have s0 : 0 ≤ sg c := by unfold sg; omega
    refine ⟨_, rfl, _, _, rfl, rfl, _, rfl, ?_⟩
    rw [sign_in]
    by_cases h1 : 48 ≤ c ∧ c ≤ 52
    · rw [decide_eq_true h1]
      refine iteF ?_
      have hi := sign_int h1.1 h1.2
      have s4 : sg c ≤ 4 := by unfold sg; omega
      refine ⟨_, rfl, _, _, rfl, hi, len1, _, rfl, _, _, rfl, rfl, _, rfl, ?_⟩
      by_cases h2 : sg c < (n : Int)
      · refine ite_f (decide_eq_false (by omega)) ?_
        refine ⟨_, rfl, _, rfl, _, _, rfl, hi, len1, _, _, rfl, rfl, s0, _, _, rfl, rfl, _, rfl, ?_⟩
        by_cases h3 : 0 < g / 2 ^ (sg c).toNat
        · refine ite_t (decide_eq_true h3) ?_
          exact ⟨_, rfl, bad fun z => z.2.2.2 h3⟩
        · refine ite_f (decide_eq_false h3) ?_
          refine ⟨_, rfl, _, rfl, _, _, rfl, hi, len1, _, _, rfl, rfl, ⟨s0, by omega, by decide⟩, _, _, rfl, rfl, ?_⟩
          refine ⟨_, _, rfl, hs, ?_⟩
          rw [hg, if_pos ⟨h1.1, h1.2, h2, h3⟩]
      · refine ite_t (decide_eq_true (by omega)) (iteT ?_)
        exact ⟨_, rfl, bad fun z => h2 z.2.2.1⟩
    · rw [decide_eq_false h1]
      refine iteT (iteT ?_)
      exact ⟨_, rfl, bad fun z => h1 ⟨z.1, z.2.1⟩⟩
  · rintro σ' H' ⟨g, y, rfl, hs, hg⟩
    rw [show w.length = (cl w).length from (cl_len w).symm, List.drop_length] at hg
    have hg : gin n 0 (cl w) = if 0 < g then g else -1 := hg
    have q := k' H' hs
    rw [hg] at q
    refine ⟨_, rfl, _, _, rfl, rfl, _, rfl, ?_⟩
    by_cases h : 0 < g
    · rw [if_pos h] at q
      exact ite_t (decide_eq_true h) ⟨_, rfl, q⟩
    · rw [if_neg h] at q
      exact ite_f (decide_eq_false h) ⟨_, rfl, q⟩
end Wv

set_option Elab.async false
set_option linter.all false
set_option maxRecDepth 100000
set_option maxHeartbeats 4000000

namespace Wv
open PySem L2
seal L2.PSs L2.PS L2.PE L2.PA L2.PT L2.PI L2.PW L2.PG L2.PGs L2.PIfs
theorem cut_take0 (xs : List V) {k : Nat} (h : k ≤ xs.length) : cutV xs none (some (0 + (k : Int))) = xs.take k := by
  unfold cutV
  rw [Int.zero_add]
  have h1 : ¬ ((k : Int) < 0) := by omega
  simp only [HT.sIx, h1, if_false, Int.toNat_natCast, Nat.min_eq_left h, List.drop_zero, Nat.sub_zero]
def sp_law_in : Sp := fun vs H Q _ => ∃ x : Str, vs = [.str x] ∧ x.length ≤ 100000 ∧ (Txt.split x " ").length ≤ 1000 ∧ (lawIn x = none → ∀ H', Same H H' → Q .non H') ∧
  (∀ n gs, lawIn x = some (n, gs) → ∀ t l H', Same H H' → H' t = some (.tup [.int (n : Int), .ref l]) → H' l = some (.lst (gs.map V.int)) → Q (.ref t) H')
theorem head_first : ∀ n : Fin 6, 1 ≤ n.val → (Str.ofString (toString (n.val : Int)) ++ Str.ofString ":").cps.toList[0]? = some (48 + n.val) := by decide +kernel
theorem fig_sign : ∀ n : Fin 6, PySem.intText? ⟨#[48 + n.val]⟩ = some (n.val : Int) := by decide +kernel
theorem ok_law_in {P : Program} {w : World} {K : PySem.W.Frag} {mg : Str → Option Value} {base : Heap} {a : Adr} (T : Txt K mg a) : FnOk P w K mg base CX0 2 a.a_law_in a.d_law_in ["_law_text"] sp_law_in := by
  refine T.F_law_in.ok sc_law_in (fun vs H Q E h => ?_) (fun cdv A outer s H vs Q E hr h => ?_)
  · obtain ⟨x, rfl, _⟩ := h; rfl
  obtain ⟨x, rfl, hx, hw, k1, k2⟩ := h
  refine ⟨_, (pss_cons (ps_set (i := 1) sc_law_in.nd rfl (by first | exact Or.inl rfl | exact Or.inr rfl) (pe_bm PySem.F.plainAttrs_str PySem.F.slot_str_split PySem.F.type_str_split mt_split (pv 0) (pa_cons pe_str pa_nil)))
      (pss_cons (ps_if (pt_cmpR (op_notInK K) (pe_ix (ix_listK K) (pv 1) pe_int (fun _ _ => rfl)) (pe_lst (pa_cons pe_str (pa_cons pe_str (pa_cons pe_str (pa_cons pe_str (pa_cons pe_str pa_nil)))))) rfl) (pss_one (ps_ret pe_non)) pss_nil)
      (pss_cons (ps_set (i := 2) sc_law_in.nd rfl (by first | exact Or.inl rfl | exact Or.inr rfl) (pe_lc rfl (lcOk_of (S := defScope s_law_in) (N := ["_law_text", "_law_words", "_law_groups", "_law_k"]) (M := ["_law_text", "_law_words", "_law_groups", "_law_k", "_law_word"]) (by decide +kernel)) (pi_listK K (pe_slice (sl_listK K) (pv 1) (po_some pe_int) po_none)) (fun _ _ _ _ => (pg_name (i := 4) (show List.Nodup (["_law_text", "_law_words", "_law_groups", "_law_k", "_law_word"] : List Str) by decide +kernel) rfl (by first | exact Or.inl rfl | exact Or.inr rfl))) (fun _ _ _ _ => pifs_nil) (fun _ _ _ _ => (pe_call (ok_law_group_in T) hr rfl T.m_law_group_in T.F_law_group_in.kp (b_law_group_in T) .nil pass0 (pa_cons (pv 4) (pa_cons (pe_callTy call_int_str rfl T.z_int PyProof.Rows.boot_int (pa_cons (pe_ix ix_str (pe_ix (ix_listK K) (pv 1) pe_int (fun _ _ => rfl)) pe_int (fun _ _ => rfl)) pa_nil)) pa_nil))))))
      (pss_cons (ps_for PassesOwn.never rfl (pi_range1 rfl T.z_range (pa_cons (pe_callB (call_lenK K) rfl T.z_len PySem.boot_len (pa_cons (pv 2) pa_nil)) pa_nil)) (pg_name (i := 3) sc_law_in.nd rfl (by first | exact Or.inl rfl | exact Or.inr rfl)) (pss_cons (ps_if (PW.pt (pw_or (pt_cmpR op_lt (pe_ix (ix_listK K) (pv 2) (pv 3) (fun _ _ => rfl)) pe_int (nomark _)) (pw_or1 (PW.pt (pw_and (pt_cmpR op_gt (pv 3) pe_int (nomark _)) (pw_and1 (pt_cmpR op_ge (pe_ix (ix_listK K) (pv 2) (pe_op op_sub (pv 3) pe_int) (fun _ _ => rfl)) (pe_ix (ix_listK K) (pv 2) (pv 3) (fun _ _ => rfl)) (nomark _)))))))) (pss_one (ps_ret pe_non)) pss_nil)
      (pss_one (ps_if (pt_val (pe_callB (call_anyK K rfl) rfl T.z_any PyProof.Rows.boot_any (pa_cons (pe_lc rfl (lcOk_of (S := defScope s_law_in) (N := ["_law_text", "_law_words", "_law_groups", "_law_k"]) (M := ["_law_text", "_law_words", "_law_groups", "_law_k", "_law_one"]) (by decide +kernel)) (pi_listK K (pe_slice (sl_listK K) (pv 2) po_none (po_some (pv 3)))) (fun _ _ _ _ => (pg_name (i := 4) (show List.Nodup (["_law_text", "_law_words", "_law_groups", "_law_k", "_law_one"] : List Str) by decide +kernel) rfl (by first | exact Or.inl rfl | exact Or.inr rfl))) (fun _ _ _ _ => pifs_nil) (fun _ _ _ _ => (pe_cmpR op_eq (pe_op op_and (pe_ix (ix_listK K) (pv 2) (pv 3) (fun _ _ => rfl)) (pv 4)) (pv 4) (nomark _)))) pa_nil))) (pss_one (ps_ret pe_non)) pss_nil))))
      (pss_one (ps_ret (pe_tup (pa_cons (pe_callTy call_int_str rfl T.z_int PyProof.Rows.boot_int (pa_cons (pe_ix ix_str (pe_ix (ix_listK K) (pv 1) pe_int (fun _ _ => rfl)) pe_int (fun _ _ => rfl)) pa_nil)) (pa_cons (pv 2) pa_nil))))))))), ?_⟩
  have big : (sizeLine : Nat) = 16777216 := by decide
  refine ⟨_, rfl, rfl, x, _, rfl, rfl, (by decide +kernel), by omega, fun w nw => ?_⟩
  have hne : Txt.split x (Str.ofString " ") ≠ [] := by rw [show Txt.split x (Str.ofString " ") = Txt.split x ⟨#[32]⟩ from split_blank x]; exact split_ne x 32
  have hlaw : lawIn x = match headN ((Txt.split x (Str.ofString " ")).headD "") with
    | none => none
    | some n => if ((List.range ((Txt.split x (Str.ofString " ")).drop 1).length).all (okAt (((Txt.split x (Str.ofString " ")).drop 1).map (wordG n)))) = true then some (n, ((Txt.split x (Str.ofString " ")).drop 1).map (wordG n)) else none := rfl
  generalize Txt.split x (Str.ofString " ") = ps at hne hlaw hw
  cases ps with
  | nil => exact absurd rfl hne
  | cons p ws =>
    have hlaw2 : lawIn x = match headN p with
      | none => none
      | some n => if ((List.range ws.length).all (okAt (ws.map (wordG n)))) = true then some (n, ws.map (wordG n)) else none := hlaw
    clear hlaw
    have hwl : ws.length ≤ 1000 := by rw [List.length_cons] at hw; omega
    have s1 := same_new nw (.lst ((p :: ws).map V.str))
    have hw1 : upd H w (.lst ((p :: ws).map V.str)) w = some (.lst (.str p :: ws.map V.str)) := upd_same
    generalize upd H w (.lst ((p :: ws).map V.str)) = H1 at s1 hw1
    refine ⟨_, rfl, w, _, _, _, rfl, rfl, SqL.of hw1, atI_nat (j := 0) rfl, (by show 5 ≤ sizeLine; decide), fun hl nhl => ?_⟩
    have s2 := same_new nhl (.lst [V.str "1:", .str "2:", .str "3:", .str "4:", .str "5:"])
    refine ⟨hl, _, rfl, .inl (SqL.of (show upd H1 hl (.lst [V.str "1:", .str "2:", .str "3:", .str "4:", .str "5:"]) hl = some (.lst (headL.map V.str)) from upd_same)), rfl, flat_strs headL, _, rfl, ?_⟩
    have hw2 := s2 _ _ hw1
    dsimp only [if_true]
    rw [inV_strs, head_mem]
    cases eh : headN p with
    | none =>
      rw [eh] at hlaw2
      exact iteT (k1 hlaw2 _ (s1.trans s2))
    | some n =>
      rw [eh] at hlaw2
      have hlaw : lawIn x = if ((List.range ws.length).all (okAt (ws.map (wordG n)))) = true then some (n, ws.map (wordG n)) else none := hlaw2
      clear hlaw2
      obtain ⟨rfl, n1, n5⟩ := headN_some eh
      have hf := head_first ⟨n, by omega⟩ n1
      have hfi := fig_sign ⟨n, by omega⟩
      have hpl : (Str.ofString (toString (n : Int)) ++ Str.ofString ":").length ≤ sizeLine := by
        rw [← cl_len, cl_app, fig_cl n1 n5, colon_is]; show 2 ≤ sizeLine; decide
      have len1 : (⟨#[48 + n]⟩ : Str).length ≤ 640 := by show 1 ≤ 640; decide
      refine iteF ?_
      generalize upd H1 hl (.lst [V.str "1:", .str "2:", .str "3:", .str "4:", .str "5:"]) = H2 at s2 hw2
      have s02 := s1.trans s2
      -- the groups
      refine ⟨_, rfl, 1, rfl, w, _, rfl, SqL.of hw2, fun v nv => ?_⟩
      rw [cut_drop1]
      have s3 := same_new nv (.lst ((V.str (Str.ofString (toString (n : Int)) ++ Str.ofString ":") :: ws.map V.str).drop 1))
      have hv3 : upd H2 v (.lst ((V.str (Str.ofString (toString (n : Int)) ++ Str.ofString ":") :: ws.map V.str).drop 1)) v = some (.lst (ws.map V.str)) := upd_same
      generalize upd H2 v (.lst ((V.str (Str.ofString (toString (n : Int)) ++ Str.ofString ":") :: ws.map V.str).drop 1)) = H3 at s3 hv3
      have hw3 := s3 _ _ hw2
      refine ⟨v, rfl, ⟨_, SqL.of hv3⟩, ?_⟩
      refine lcB_list rfl (SqL.of hv3) (by rw [List.length_map]; exact hwl) (fun _ => true) (fun x => match x with | .str y => .int (wordG n y) | _ => .non) (fun x hx Ha ha R q => q Ha (Same.refl _)) (fun x hx _ Ha ha R q => ?_) fun Ha D ha hD => ?_
      · obtain ⟨y, hy, rfl⟩ := List.mem_map.mp hx
        exact ⟨_, rfl, _, rfl, w, _, _, _, rfl, rfl, SqL.of (ha _ _ hw3), atI_nat (j := 0) rfl, _, _, _, rfl, rfl, hpl, atI_nat (j := 0) hf, _, _, rfl, hfi, len1, y, n, rfl, fun Hb hb => q Hb hb⟩
      have eD : (((ws.map V.str).filter fun _ => true).map fun x => match x with | .str y => V.int (wordG n y) | _ => .non) = (ws.map (wordG n)).map V.int := by
        rw [List.filter_eq_self.mpr (fun _ _ => rfl), List.map_map, List.map_map]
        rfl
      rw [eD]
      have s4 : Same H3 (upd Ha D (.lst ((ws.map (wordG n)).map V.int))) := ha.trans (same_new hD _)
      have hD4 : upd Ha D (.lst ((ws.map (wordG n)).map V.int)) D = some (.lst ((ws.map (wordG n)).map V.int)) := upd_same
      generalize upd Ha D (.lst ((ws.map (wordG n)).map V.int)) = H4 at s4 hD4
      have hw4 := s4 _ _ hw3
      have s04 := s02.trans (s3.trans s4)
      have hgl : (ws.map (wordG n)).length = ws.length := List.length_map ..
      rw [← hgl] at hlaw hwl
      generalize ws.map (wordG n) = gs at hD4 hgl hlaw hwl
      refine ⟨_, rfl, D, _, rfl, .inl (SqL.of hD4), (gs.length : Int), by rw [List.length_map], by omega, by omega, ?_⟩
      refine for_range (n := gs.length) (fun i σ' H' => ∃ y : Option V, σ' = [some (.str x), some (.ref w), some (.ref D), y] ∧ Same H4 H' ∧ ∀ j < i, okAt gs j = true) ?_ ?_ ?_
      · exact ⟨none, rfl, Same.refl _, fun j hj => by omega⟩
      · rintro i σ' H' hi ⟨y, rfl, hs, hok⟩
        have hDi := hs _ _ hD4
        have at0 : atI (gs.map V.int) (0 + (i : Int)) = some (.int (gs.getD i 0)) := by
          have z := get_ws (ws := gs) (x := 0 + (i : Int)) (n := gs.length) rfl (by omega) (by omega)
          rw [show (0 + (i : Int)).toNat = i by omega] at z
          exact z
        have none_ : okAt gs i = false → lawIn x = none := fun h => by
          rw [hlaw]
          refine if_neg ?_
          rw [List.all_eq_true]
          intro z
          have := z i (List.mem_range.mpr hi)
          rw [h] at this
          cases this
        have hdef : okAt gs i = !(decide (gs.getD i 0 < 0) || (decide (0 < i) && decide (gs.getD i 0 ≤ gs.getD (i - 1) 0)) || (gs.take i).any fun o => withinB o (gs.getD i 0)) := rfl
        refine ⟨_, rfl, _, rfl, D, _, _, _, rfl, rfl, SqL.of hDi, at0, _, _, rfl, rfl, _, rfl, ?_⟩
        by_cases h1 : gs.getD i 0 < 0
        · exact ite_t (decide_eq_true h1) (iteT (k1 (none_ (by rw [hdef, decide_eq_true h1]; rfl)) _ (s04.trans hs)))
        refine ite_f (decide_eq_false h1) ?_
        refine ⟨_, rfl, _, _, rfl, rfl, _, rfl, ?_⟩
        have at1 : 0 < i → atI (gs.map V.int) (0 + (i : Int) - 1) = some (.int (gs.getD (i - 1) 0)) := fun hp => by
          have z := get_ws (ws := gs) (x := 0 + (i : Int) - 1) (n := gs.length) rfl (by omega) (by omega)
          rw [show (0 + (i : Int) - 1).toNat = i - 1 by omega] at z
          exact z
        by_cases hi0 : 0 < i
        · refine ite_t (decide_eq_true (by omega)) ?_
          refine ⟨_, rfl, _, rfl, _, _, rfl, rfl, D, _, _, _, rfl, rfl, SqL.of hDi, at1 hi0, _, rfl, _, rfl, D, _, _, _, rfl, rfl, SqL.of hDi, at0, _, _, rfl, rfl, _, rfl, ?_⟩
          by_cases h2 : gs.getD i 0 ≤ gs.getD (i - 1) 0
          · exact ite_t (decide_eq_true h2) (k1 (none_ (by rw [hdef, decide_eq_true h2, decide_eq_true hi0, decide_eq_false h1]; rfl)) _ (s04.trans hs))
          refine ite_f (decide_eq_false h2) ?_
          have hsec : (decide (0 < i) && decide (gs.getD i 0 ≤ gs.getD (i - 1) 0)) = false := by rw [decide_eq_false h2, Bool.and_false]
          refine ⟨_, rfl, _, rfl, _, rfl, D, _, rfl, SqL.of hDi, fun v' nv' => ?_⟩
          rw [cut_take0 _ (by rw [List.length_map]; omega)]
          have t1 : Same H' (upd H' v' (.lst ((gs.map V.int).take i))) := same_new nv' _
          have ht1 : upd H' v' (.lst ((gs.map V.int).take i)) v' = some (.lst ((gs.take i).map V.int)) := by rw [upd_same, List.map_take]
          generalize upd H' v' (.lst ((gs.map V.int).take i)) = Hc at t1 ht1
          refine ⟨v', rfl, ⟨_, SqL.of ht1⟩, ?_⟩
          refine lcB_list rfl (SqL.of ht1) (by rw [List.length_map, List.length_take]; omega) (fun _ => true) (fun x => match x with | .int o => .bl (withinB o (gs.getD i 0)) | _ => .non) (fun x hx Hd hd R q => q Hd (Same.refl _)) (fun x hx _ Hd hd R q => ?_) fun Hd D2 hd hD2 => ?_
          · obtain ⟨o, ho, rfl⟩ := List.mem_map.mp hx
            refine ⟨_, rfl, _, rfl, D, _, _, _, rfl, rfl, SqL.of (hd _ _ (t1 _ _ hDi)), at0, _, rfl, _, _, rfl, rfl, _, rfl, rfl, ?_⟩
            have z : R (.bl (withinB o (gs.getD i 0))) Hd := q Hd (Same.refl _)
            unfold withinB at z
            rw [PyProof.Rows.bitAnd_comm, show decide (Builtin.bitAnd (gs.getD i 0) o = o) = decide (V.int (Builtin.bitAnd (gs.getD i 0) o) = V.int o) by rw [dec_int]; rfl] at z
            exact z
          · refine ⟨D2, (gs.take i).map fun o => withinB o (gs.getD i 0), rfl, SqL.of ?_, _, rfl, ?_⟩
            · rw [upd_same, List.filter_eq_self.mpr (fun _ _ => rfl), List.map_map, List.map_map]
              rfl
            · have ea : (((gs.take i).map fun o => withinB o (gs.getD i 0)).any id) = (gs.take i).any fun o => withinB o (gs.getD i 0) := by rw [List.any_map]; rfl
              have s5 := hs.trans (t1.trans (hd.trans (same_new hD2 (.lst ((((gs.take i).map V.int).filter fun _ => true).map fun x => match x with | .int o => V.bl (withinB o (gs.getD i 0)) | _ => .non)))))
              rw [ea]
              cases h3 : (gs.take i).any fun o => withinB o (gs.getD i 0) with
              | true => exact iteT (k1 (none_ (by rw [hdef, h3, Bool.or_true]; rfl)) _ (s04.trans s5))
              | false =>
                refine iteF ⟨_, rfl, s5, fun j hj => ?_⟩
                by_cases ej : j = i
                · subst ej
                  rw [hdef, decide_eq_false h1, h3, hsec]
                  rfl
                · exact hok j (by omega)
        · refine ite_f (decide_eq_false (by omega)) (iteF ?_)
          have hsec : (decide (0 < i) && decide (gs.getD i 0 ≤ gs.getD (i - 1) 0)) = false := by rw [decide_eq_false hi0, Bool.false_and]
          refine ⟨_, rfl, _, rfl, _, rfl, D, _, rfl, SqL.of hDi, fun v' nv' => ?_⟩
          rw [cut_take0 _ (by rw [List.length_map]; omega)]
          have t1 : Same H' (upd H' v' (.lst ((gs.map V.int).take i))) := same_new nv' _
          have ht1 : upd H' v' (.lst ((gs.map V.int).take i)) v' = some (.lst ((gs.take i).map V.int)) := by rw [upd_same, List.map_take]
          generalize upd H' v' (.lst ((gs.map V.int).take i)) = Hc at t1 ht1
          refine ⟨v', rfl, ⟨_, SqL.of ht1⟩, ?_⟩
          refine lcB_list rfl (SqL.of ht1) (by rw [List.length_map, List.length_take]; omega) (fun _ => true) (fun x => match x with | .int o => .bl (withinB o (gs.getD i 0)) | _ => .non) (fun x hx Hd hd R q => q Hd (Same.refl _)) (fun x hx _ Hd hd R q => ?_) fun Hd D2 hd hD2 => ?_
          · obtain ⟨o, ho, rfl⟩ := List.mem_map.mp hx
            refine ⟨_, rfl, _, rfl, D, _, _, _, rfl, rfl, SqL.of (hd _ _ (t1 _ _ hDi)), at0, _, rfl, _, _, rfl, rfl, _, rfl, rfl, ?_⟩
            have z : R (.bl (withinB o (gs.getD i 0))) Hd := q Hd (Same.refl _)
            unfold withinB at z
            rw [PyProof.Rows.bitAnd_comm, show decide (Builtin.bitAnd (gs.getD i 0) o = o) = decide (V.int (Builtin.bitAnd (gs.getD i 0) o) = V.int o) by rw [dec_int]; rfl] at z
            exact z
          · refine ⟨D2, (gs.take i).map fun o => withinB o (gs.getD i 0), rfl, SqL.of ?_, _, rfl, ?_⟩
            · rw [upd_same, List.filter_eq_self.mpr (fun _ _ => rfl), List.map_map, List.map_map]
              rfl
            · have ea : (((gs.take i).map fun o => withinB o (gs.getD i 0)).any id) = (gs.take i).any fun o => withinB o (gs.getD i 0) := by rw [List.any_map]; rfl
              have s5 := hs.trans (t1.trans (hd.trans (same_new hD2 (.lst ((((gs.take i).map V.int).filter fun _ => true).map fun x => match x with | .int o => V.bl (withinB o (gs.getD i 0)) | _ => .non)))))
              rw [ea]
              cases h3 : (gs.take i).any fun o => withinB o (gs.getD i 0) with
              | true => exact iteT (k1 (none_ (by rw [hdef, h3, Bool.or_true]; rfl)) _ (s04.trans s5))
              | false =>
                refine iteF ⟨_, rfl, s5, fun j hj => ?_⟩
                by_cases ej : j = i
                · subst ej
                  rw [hdef, decide_eq_false h1, h3, hsec]
                  rfl
                · exact hok j (by omega)
      · rintro σ' H' ⟨y, rfl, hs, hok⟩
        refine ⟨_, rfl, w, _, _, _, rfl, rfl, SqL.of (hs _ _ hw4), atI_nat (j := 0) rfl, _, _, _, rfl, rfl, hpl, atI_nat (j := 0) hf, _, _, rfl, hfi, len1, _, rfl, (by show 2 ≤ sizeLine; decide), fun t nt => ?_⟩
        have hall : ((List.range gs.length).all (okAt gs)) = true := List.all_eq_true.mpr fun j hj => hok j (List.mem_range.mp hj)
        rw [if_pos hall] at hlaw
        refine k2 n gs hlaw t D _ (s04.trans (hs.trans (same_new nt _))) upd_same ?_
        exact same_new nt _ _ _ (hs _ _ hD4)
end Wv

set_option Elab.async false
set_option linter.all false
set_option maxRecDepth 100000
set_option maxHeartbeats 4000000

namespace Wv
open PySem L2
seal L2.PSs L2.PS L2.PE L2.PA L2.PT L2.PI L2.PW L2.PG L2.PGs L2.PIfs
def sp_law_right : Sp := fun vs H Q _ => ∃ x : Str, vs = [.str x] ∧ OkT x ∧ ∀ H', Same H H' → Q (.bl true) H'
theorem good_len {n : Nat} (hn : n ≤ 5) {gs : List Int} (hG : Good gs) (hu : ∀ g ∈ gs, g ∈ up (2 ^ n)) : gs.length ≤ 32 := by
  rw [← least_good hn hG hu]
  exact least_len hn
theorem ok_law_right {P : Program} {w : World} {K : PySem.W.Frag} {mg : Str → Option Value} {base : Heap} {a : Adr} (T : Txt K mg a) : FnOk P w K mg base CX0 9 a.a_law_right a.d_law_right ["_law_text"] sp_law_right := by
  refine T.F_law_right.ok sc_law_right (fun vs H Q E h => ?_) (fun cdv A outer s H vs Q E hr h => ?_)
  · obtain ⟨x, rfl, _⟩ := h; rfl
  obtain ⟨x, rfl, hx, k⟩ := h
  refine ⟨_, (pss_cons (ps_set (i := 1) sc_law_right.nd rfl (by first | exact Or.inl rfl | exact Or.inr rfl) (pe_call (ok_law_in T) (hr.mono (by decide)) rfl T.m_law_in T.F_law_in.kp (b_law_in T) .nil pass0 (pa_cons (pv 0) pa_nil)))
      (pss_cons (ps_if (pt_cmpR op_isN (pv 1) pe_non (nomark _)) (pss_one (ps_ret (pe_call (okx_law_refused T) hr rfl T.m_law_refused T.F_law_refused.kp (b_law_refused T) .nil passF (pa_cons (pv 0) pa_nil)))) pss_nil)
      (pss_cons (ps_set (i := 2) sc_law_right.nd rfl (by first | exact Or.inl rfl | exact Or.inr rfl) (pe_call (okx_read T) (hr.mono (by decide)) rfl T.m_read T.F_read.kp (b_read T) .nil passF (pa_cons (pv 0) pa_nil)))
      (pss_cons (ps_if (PW.pt (pw_or (pt_cmpR op_ne (pe_fldK K (pv 2) rfl) (pe_ix (ix_tupK K) (pv 1) pe_int (fun _ _ => rfl)) (nomark _)) (pw_or1 (pt_cmpR (op_neLK K hr.units0) (pe_meth0 (pv 2) T.cl_Council T.mt_Council_least (ok_Council_least T) (hr.mono (by decide)) (b_Council_least T) .nil pass0) (pe_ix (ix_tupK K) (pv 1) pe_int (fun _ _ => rfl)) (nomark _))))) (pss_one (ps_ret pe_bl)) pss_nil)
      (pss_one (ps_ret (pe_cmpR (op_eqSame K hr.units0) (pe_lc rfl (lcOk_of (S := defScope s_law_right) (N := ["_law_text", "_law_due", "_law_council"]) (M := ["_law_text", "_law_due", "_law_council", "_law_group"]) (by decide +kernel)) (pi_range1 rfl T.z_range (pa_cons (pe_op op_shl pe_int (pe_ix (ix_tupK K) (pv 1) pe_int (fun _ _ => rfl))) pa_nil)) (fun _ _ _ _ => (pg_name (i := 3) (show List.Nodup (["_law_text", "_law_due", "_law_council", "_law_group"] : List Str) by decide +kernel) rfl (by first | exact Or.inl rfl | exact Or.inr rfl))) (fun _ _ _ _ => pifs_nil) (fun _ _ _ _ => (pe_meth (pv 2) T.cl_Council T.mt_Council_carries (ok_Council_carries T) (hr.mono (by decide)) (b_Council_carries T) .nil pass0 (pa_cons (pv 3) pa_nil)))) (pe_call (ok_law_table T) (hr.mono (by decide)) rfl T.m_law_table T.F_law_table.kp (b_law_table T) .nil pass0 (pa_cons (pv 1) pa_nil)) (nomark _)))))))), ?_⟩
  have hs1 := split_count x
  have hs2 := split_count (Txt.slice x (some 2) none)
  have hs3 := slice_count x
  obtain ⟨x1, x2⟩ := id hx
  refine ⟨_, rfl, x, rfl, x1, by omega, fun hn H1 s1 => ?_, fun n gs hl t l H1 s1 ht hgs => ?_⟩
  · refine ⟨_, rfl, rfl, _, rfl, ?_⟩
    refine ite_t (decide_eq_true rfl) ?_
    exact ⟨_, rfl, _, rfl, .inl ⟨x, rfl, hx, by rw [read_is_law]; exact hn⟩, fun H2 s2 => k _ (s1.trans s2)⟩
  · obtain ⟨hr', n1, n5, hG, hu, hL⟩ := law_read hl
    have h5 := two_le n5
    have p0 : (0 : Int) ≤ ((2 ^ n : Nat) : Int) := Int.natCast_nonneg _
    have hlen := good_len n5 hG hu
    refine ⟨_, rfl, rfl, _, rfl, ?_⟩
    refine ite_f (decide_eq_false (fun z => by cases z)) ?_
    refine ⟨_, rfl, .inl ⟨x, rfl, x1, by omega, fun n' gs' e q H2 nq s2 c2 => ?_, fun e => (by rw [hr'] at e; cases e)⟩⟩
    rw [hr'] at e
    cases e
    obtain ⟨⟨dx, tt, h1, h2⟩, _⟩ := id c2
    refine ⟨_, rfl, q, a.C_Council, dx, _, _, rfl, h1, T.cl_Council, T.n_Council_members, flds_m _ _, _, rfl, t, _, _, _, rfl, rfl, SqT.of (s2 _ _ ht), atI_nat (j := 0) rfl, rfl, _, rfl, ?_⟩
    refine ite_f (by rw [decide_eq_true rfl]; rfl) ?_
    refine ⟨_, rfl, q, dx, _, rfl, h1, flds_no _ _ (by decide +kernel) (by decide +kernel), q, n, _, rfl, c2, fun r H3 nr s3 hr3 => ?_⟩
    rw [hL] at hr3
    refine ⟨_, rfl, t, _, _, _, rfl, rfl, SqT.of (s3 _ _ (s2 _ _ ht)), atI_nat (j := 1) rfl, r, l, gs, gs, rfl, rfl, SqL.of hr3, SqL.of (s3 _ _ (s2 _ _ hgs)), _, rfl, ?_⟩
    refine ite_f (by rw [decide_eq_true rfl]; rfl) ?_
    have s13 := s2.trans s3
    have c3 := c2.same s3
    refine ⟨_, rfl, t, _, _, _, rfl, rfl, SqT.of (s13 _ _ ht), atI_nat (j := 0) rfl, _, _, rfl, rfl, shl_ok (by omega), ((2 ^ n : Nat) : Int), by rw [shl_v], by omega, by omega, ?_⟩
    refine lcB_range (k := 2 ^ n) rfl (by omega) (fun _ => true) (fun g => .bl (at_ (tabOf n gs) g)) (fun g g0 g1 Ha ha R z => z Ha (Same.refl _)) (fun g g0 g1 _ Ha ha R z => ?_) fun Ha D ha hD => ?_
    · have ca := c3.same ha
      obtain ⟨⟨dxa, ta, h1a, h2a⟩, _⟩ := id ca
      exact ⟨_, rfl, q, dxa, _, rfl, h1a, flds_no _ _ (by decide +kernel) (by decide +kernel), _, rfl, q, n, _, _, rfl, ca, g0, g1, fun Hb hb => z Hb hb⟩
    have eD : (((up (2 ^ n)).filter fun _ => true).map fun g => V.bl (at_ (tabOf n gs) g)) = (tabOf n gs).map V.bl := by
      rw [List.filter_eq_self.mpr (fun _ _ => rfl)]
      unfold tabOf
      rw [List.map_map]
      refine List.map_congr_left fun g hg => ?_
      obtain ⟨g0, g1⟩ := mem_up.mp hg
      show V.bl (at_ (tabOf n gs) g) = V.bl (carrB gs g)
      rw [at_tab g0 g1]
    rw [eD]
    have s4 : Same H3 (upd Ha D (.lst ((tabOf n gs).map V.bl))) := ha.trans (same_new hD _)
    have hD4 : upd Ha D (.lst ((tabOf n gs).map V.bl)) D = some (.lst ((tabOf n gs).map V.bl)) := upd_same
    generalize upd Ha D (.lst ((tabOf n gs).map V.bl)) = H4 at s4 hD4
    have s14 := s13.trans s4
    refine ⟨_, rfl, t, n, l, gs, rfl, ⟨s14 _ _ ht, s14 _ _ hgs, n1, n5, by omega, fun g hg => mem_up.mp (hu g hg)⟩, fun r2 H5 nr2 s5 hr5 => ?_⟩
    refine ⟨D, r2, _, rfl, rfl, SqL.of (s5 _ _ hD4), SqL.of hr5, ?_, ?_⟩
    · rw [List.all_map, List.all_eq_true]
      intro b _
      rfl
    · exact k _ (s1.trans (s14.trans s5))
def sp_law_other : Sp := fun vs H Q _ => ∃ (x : Str) (c k : Int), vs = [.str x, .int c, .int k] ∧ x.length ≤ 300 ∧ ∀ y H', y.length ≤ 2 * x.length + 1 → Same H H' → Q (.str y) H'
theorem signs_len : (Str.ofString "0123456:- x" ++ Str.ofString "\t\n+").length = 14 := by decide +kernel
theorem ok_law_other {P : Program} {w : World} {K : PySem.W.Frag} {mg : Str → Option Value} {base : Heap} {a : Adr} (T : Txt K mg a) : FnOk P w K mg base CX0 2 a.a_law_other a.d_law_other ["_law_text", "_law_cell", "_law_k"] sp_law_other := by
  refine T.F_law_other.ok sc_law_other (fun vs H Q E h => ?_) (fun cdv A outer s H vs Q E hr h => ?_)
  · obtain ⟨x, c, k, rfl, _⟩ := h; rfl
  obtain ⟨x, c, k, rfl, hx, q⟩ := h
  refine ⟨_, (pss_cons (ps_set (i := 3) sc_law_other.nd rfl (by first | exact Or.inl rfl | exact Or.inr rfl) (pe_call (ok_law_draw T) hr rfl T.m_law_draw T.F_law_draw.kp (b_law_draw T) .nil pass0 (pa_cons (pv 1) (pa_cons (pv 2) (pa_cons (pe_op op_add (pe_callB call_len_str rfl T.z_len PySem.boot_len (pa_cons (pv 0) pa_nil)) pe_int) pa_nil)))))
      (pss_cons (ps_set (i := 4) sc_law_other.nd rfl (by first | exact Or.inl rfl | exact Or.inr rfl) (pe_op op_add_str pe_str pe_str))
      (pss_cons (ps_set (i := 4) sc_law_other.nd rfl (by first | exact Or.inl rfl | exact Or.inr rfl) (pe_ix ix_str (pv 4) (pe_call (ok_law_draw T) hr rfl T.m_law_draw T.F_law_draw.kp (b_law_draw T) .nil pass0 (pa_cons (pv 1) (pa_cons (pe_op op_add (pv 2) pe_int) (pa_cons (pe_callB call_len_str rfl T.z_len PySem.boot_len (pa_cons (pv 4) pa_nil)) pa_nil)))) (fun _ _ => rfl)))
      (pss_cons (ps_set (i := 5) sc_law_other.nd rfl (by first | exact Or.inl rfl | exact Or.inr rfl) (pe_call (ok_law_draw T) hr rfl T.m_law_draw T.F_law_draw.kp (b_law_draw T) .nil pass0 (pa_cons (pv 1) (pa_cons (pe_op op_add (pv 2) pe_int) (pa_cons pe_int pa_nil)))))
      (pss_cons (ps_if (pt_cmpR op_eq (pv 5) pe_int (nomark _)) (pss_one (ps_ret (pe_op op_add_str (pe_op op_add_str (pe_slice sl_str (pv 0) po_none (po_some (pv 3))) (pv 4)) (pe_slice sl_str (pv 0) (po_some (pv 3)) po_none)))) pss_nil)
      (pss_one (ps_ret (pe_op op_add_str (pe_op op_add_str (pe_slice sl_str (pv 0) po_none (po_some (pv 3))) (pe_ix (ix_listK K) (pe_lst (pa_cons pe_str (pa_cons (pv 4) pa_nil))) (pe_op op_sub (pv 5) pe_int) (fun _ _ => rfl))) (pe_slice sl_str (pv 0) (po_some (pe_op op_add (pv 3) pe_int)) po_none))))))))), ?_⟩
  have big : (sizeLine : Nat) = 16777216 := by decide
  refine ⟨_, rfl, _, rfl, _, rfl, x, rfl, by omega, _, _, rfl, rfl, c, k, _, rfl, by omega, fun at_' H1 a0 a1 s1 => ?_⟩
  refine ⟨_, _, rfl, rfl, (by decide +kernel), ?_⟩
  refine ⟨_, rfl, _, rfl, _, rfl, _, _, rfl, rfl, _, rfl, _, rfl, (by rw [signs_len]; omega), c, _, _, rfl, (by rw [signs_len]; decide), fun i H2 i0 i1 s2 => ?_⟩
  rw [signs_len] at i1
  have hi : i.toNat < (Str.ofString "0123456:- x" ++ Str.ofString "\t\n+").cps.toList.length := by
    have := signs_len
    rw [← cl_len] at this
    show i.toNat < (cl _).length
    omega
  have hat : atI (Str.ofString "0123456:- x" ++ Str.ofString "\t\n+").cps.toList i = some ((Str.ofString "0123456:- x" ++ Str.ofString "\t\n+").cps.toList[i.toNat]) := by
    have e : ((i.toNat : Nat) : Int) = i := by omega
    have z : atI (Str.ofString "0123456:- x" ++ Str.ofString "\t\n+").cps.toList ((i.toNat : Nat) : Int) = some _ := atI_nat (List.getElem?_eq_getElem hi)
    rw [e] at z
    exact z
  generalize (Str.ofString "0123456:- x" ++ Str.ofString "\t\n+").cps.toList[i.toNat] = ch at hat
  refine ⟨_, _, ch, rfl, rfl, (by rw [signs_len]; omega), hat, ?_⟩
  refine ⟨_, rfl, _, rfl, _, _, rfl, rfl, c, _, 3, rfl, by decide, fun way H3 w0 w1 s3 => ?_⟩
  have s03 := s1.trans (s2.trans s3)
  have l1 := slice_len x none (some at_')
  have l2 := slice_len x (some at_') none
  have l3 := slice_len x (some (at_' + 1)) none
  have lc : (⟨#[ch]⟩ : Str).length = 1 := rfl
  refine ⟨_, rfl, rfl, _, rfl, ?_⟩
  refine ite_b (fun hc => ?_) (fun hc => ?_)
  · refine ⟨_, rfl, _, rfl, _, rfl, x, rfl, by omega, _, rfl, _, _, rfl, rfl, by omega, _, rfl, _, rfl, _, rfl, x, rfl, by omega, _, _, rfl, rfl, (by rw [str_len]; omega), ?_⟩
    exact q _ H3 (by rw [str_len, str_len]; omega) s03
  · have hw : way ≠ 0 := fun z => of_decide_eq_false hc (by rw [z])
    refine ⟨_, rfl, _, rfl, _, rfl, x, rfl, by omega, _, rfl, (by show 2 ≤ sizeLine; decide), fun l nl => ?_⟩
    have s4 := same_new nl (.lst [V.str "", .str ⟨#[ch]⟩])
    have hl : upd H3 l (.lst [V.str "", .str ⟨#[ch]⟩]) l = some (.lst [V.str "", .str ⟨#[ch]⟩]) := upd_same
    generalize upd H3 l (.lst [V.str "", .str ⟨#[ch]⟩]) = H4 at s4 hl
    have pick : ∃ z : Str, atI [V.str "", .str ⟨#[ch]⟩] (way - 1) = some (.str z) ∧ z.length ≤ 1 := by
      have : way = 1 ∨ way = 2 := by omega
      rcases this with rfl | rfl
      · exact ⟨_, atI_nat (j := 0) rfl, by decide +kernel⟩
      · exact ⟨_, atI_nat (j := 1) rfl, Nat.le_of_eq lc⟩
    obtain ⟨z, hz, zl⟩ := pick
    refine ⟨_, rfl, _, _, rfl, rfl, l, _, _, _, rfl, rfl, SqL.of hl, hz, _, _, rfl, rfl, by omega, _, rfl, _, rfl, _, _, rfl, rfl, _, rfl, x, rfl, by omega, _, _, rfl, rfl, (by rw [str_len]; omega), ?_⟩
    exact q _ H4 (by rw [str_len, str_len]; omega) (s03.trans s4)
/-! ### some texts, by their signs -/
def few1 : List Str := [⟨#[]⟩, ⟨#[51]⟩, ⟨#[51, 58]⟩, ⟨#[48, 58]⟩, ⟨#[54, 58]⟩, ⟨#[51, 58, 32]⟩, ⟨#[32, 51, 58]⟩, ⟨#[51, 58, 48]⟩, ⟨#[51, 58, 32, 48]⟩, ⟨#[51, 58, 32, 45]⟩, ⟨#[51, 58, 32, 45, 32, 48]⟩, ⟨#[51, 58, 32, 48, 32, 48]⟩, ⟨#[51, 58, 32, 49, 32, 48]⟩, ⟨#[51, 58, 32, 48, 32, 48, 49]⟩]
def few2 : List Str := [⟨#[51, 58, 32, 48, 49, 32, 48]⟩, ⟨#[51, 58, 32, 48, 49, 32, 49, 50]⟩, ⟨#[51, 58, 32, 49, 50, 32, 48, 49]⟩, ⟨#[51, 58, 32, 49, 48]⟩, ⟨#[51, 58, 32, 48, 48]⟩, ⟨#[51, 58, 32, 51]⟩, ⟨#[51, 58, 32, 48, 49, 50]⟩, ⟨#[51, 58, 32, 32, 48]⟩, ⟨#[51, 32, 58, 32, 48]⟩, ⟨#[51, 59, 32, 48]⟩]
def few3 : List Str := [⟨#[48, 51, 58, 32, 48]⟩, ⟨#[53, 58, 32, 48, 49, 50, 51, 52]⟩, ⟨#[53, 58, 32, 52, 32, 48, 49, 50, 51]⟩, ⟨#[53, 58, 32, 48, 49, 50, 51, 32, 52]⟩, ⟨#[51, 58, 32, 45, 45]⟩, ⟨#[51, 58, 32, 45, 48]⟩, ⟨#[51, 58, 32, 97]⟩, ⟨#[51, 58, 9, 48]⟩, ⟨#[51, 58, 32, 48, 10]⟩]
def few4 : List Str := [⟨#[49, 48, 58, 32, 48]⟩]
theorem few_ok : ∀ z ∈ few1 ++ few2 ++ few3 ++ few4, z.length ≤ 100000 ∧ (cl z).count 32 ≤ 900 := by decide +kernel
theorem foldl_app (b : Array Nat) : ∀ (k : Nat) (acc : Array Nat), ((List.replicate k b).foldl (fun x y => x ++ y) acc).toList = acc.toList ++ (List.replicate k b.toList).flatten
  | 0, acc => by simp
  | k + 1, acc => by
    rw [List.replicate_succ, List.foldl_cons, foldl_app b k (acc ++ b), List.replicate_succ, List.flatten_cons, Array.toList_append, List.append_assoc]
theorem flat_one (x : Nat) : ∀ k : Nat, (List.replicate k [x]).flatten = List.replicate k x
  | 0 => rfl
  | k + 1 => by rw [List.replicate_succ, List.flatten_cons, flat_one x k, List.replicate_succ]; rfl
theorem zeros_cl : cl (Txt.mul (Str.ofString "0") 4000) = List.replicate 4000 48 := by
  have e : (Str.ofString "0") = ⟨#[48]⟩ := by decide +kernel
  unfold Txt.mul
  rw [if_neg (by decide), if_neg (by rw [e]; decide)]
  show (List.foldl (fun x y => x ++ y) #[] (List.replicate (4000 : Int).toNat (Str.ofString "0").cps)).toList = _
  rw [foldl_app, e]
  show [] ++ (List.replicate 4000 [48]).flatten = _
  rw [flat_one, List.nil_append]
theorem zeros_ok : OkT (Str.ofString "3: " ++ Txt.mul (Str.ofString "0") 4000) := by
  have e : cl (Str.ofString "3: ") = [51, 58, 32] := by decide +kernel
  constructor
  · rw [← cl_len, cl_app, zeros_cl, e, List.length_append, List.length_replicate]
    decide
  · rw [cl_app, zeros_cl, e, List.count_append, List.count_replicate]
    decide
theorem ok_len {z : Str} (h : z.length ≤ 900) : OkT z := by
  refine ⟨by omega, ?_⟩
  have := List.count_le_length (a := 32) (l := cl z)
  rw [cl_len] at this
  omega
theorem wtx_len {n : Nat} (hn : n ≤ 5) (tb : List Bool) : (wtx n tb).length ≤ 194 := by
  unfold wtx
  rw [str_len, str_len, join_len0]
  have := words_len hn (tb := tb)
  have h1 : (Str.ofString (toString (n : Int))).length = 1 := fig_len' (by omega) (by omega)
  have h2 : (Str.ofString ":").length = 1 := by decide +kernel
  omega
theorem ok_law {P : Program} {w : World} {K : PySem.W.Frag} {mg : Str → Option Value} {base : Heap} {a : Adr} (T : Txt K mg a) : FnOk P w K mg base CX0 10 a.a_law a.d_law ["_law_script"] (sp_law K) := by
  refine T.F_law.ok sc_law (fun vs H Q E h => ?_) (fun cdv A outer s H vs Q E hr h => ?_)
  · obtain ⟨a, ns, rfl, _⟩ := h; rfl
  obtain ⟨sc, ns, rfl, hS0, hz0, kend⟩ := h
  have hS : ScrOk K H sc := ⟨ns, hS0, hz0⟩
  refine ⟨_, (pss_cons (ps_set (i := 1) sc_law.nd rfl (by first | exact Or.inl rfl | exact Or.inr rfl) (pe_call (ok_law_told T) (hr.mono (by decide)) rfl T.m_law_told T.F_law_told.kp (b_law_told T) .nil pass0 (pa_cons (pv 0) (pa_cons pe_int pa_nil))))
      (pss_cons (ps_set (i := 2) sc_law.nd rfl (by first | exact Or.inl rfl | exact Or.inr rfl) (pe_call (ok_written T) (hr.mono (by decide)) rfl T.m_written T.F_written.kp (b_written T) .nil pass0 (pa_cons (pe_make T.mk_Council (ok_Council_init T) (hr.mono (by decide)) rfl T.m_Council (b_Council_init T) .nil pass0 (pa_cons (pe_ix (ix_tupK K) (pv 1) pe_int (fun _ _ => rfl)) (pa_cons (pe_ix (ix_tupK K) (pv 1) pe_int (fun _ _ => rfl)) pa_nil))) pa_nil)))
      (pss_cons (ps_set (i := 3) sc_law.nd rfl (by first | exact Or.inl rfl | exact Or.inr rfl) (pe_call (ok_law_cell_at T) (hr.mono (by decide)) rfl T.m_law_cell_at T.F_law_cell_at.kp (b_law_cell_at T) .nil pass0 (pa_cons (pv 0) (pa_cons pe_int pa_nil))))
      (pss_cons (ps_set (i := 4) sc_law.nd rfl (by first | exact Or.inl rfl | exact Or.inr rfl) (pe_lst (pa_cons pe_str (pa_cons pe_str (pa_cons pe_str (pa_cons pe_str (pa_cons pe_str (pa_cons pe_str (pa_cons pe_str (pa_cons pe_str (pa_cons pe_str (pa_cons pe_str (pa_cons pe_str (pa_cons pe_str (pa_cons pe_str (pa_cons pe_str pa_nil))))))))))))))))
      (pss_cons (ps_set (i := 4) sc_law.nd rfl (by first | exact Or.inl rfl | exact Or.inr rfl) (pe_op op_cat (pv 4) (pe_lst (pa_cons pe_str (pa_cons pe_str (pa_cons pe_str (pa_cons pe_str (pa_cons pe_str (pa_cons pe_str (pa_cons pe_str (pa_cons pe_str (pa_cons pe_str (pa_cons pe_str pa_nil)))))))))))))
      (pss_cons (ps_set (i := 4) sc_law.nd rfl (by first | exact Or.inl rfl | exact Or.inr rfl) (pe_op op_cat (pv 4) (pe_lst (pa_cons pe_str (pa_cons pe_str (pa_cons pe_str (pa_cons pe_str (pa_cons pe_str (pa_cons pe_str (pa_cons pe_str (pa_cons pe_str (pa_cons pe_str pa_nil))))))))))))
      (pss_cons (ps_set (i := 4) sc_law.nd rfl (by first | exact Or.inl rfl | exact Or.inr rfl) (pe_op op_cat (pv 4) (pe_lst (pa_cons pe_str (pa_cons (pe_op op_add_str pe_str (pe_op op_rep_str pe_str pe_int)) pa_nil)))))
      (pss_cons (ps_for PassesOwn.never rfl (pi_listK K (pe_op op_cat (pv 4) (pe_lst (pa_cons (pv 2) (pa_cons (pe_call (ok_law_other T) (hr.mono (by decide)) rfl T.m_law_other T.F_law_other.kp (b_law_other T) .nil pass0 (pa_cons (pv 2) (pa_cons (pv 3) (pa_cons pe_int pa_nil)))) (pa_cons (pe_call (ok_law_other T) (hr.mono (by decide)) rfl T.m_law_other T.F_law_other.kp (b_law_other T) .nil pass0 (pa_cons (pv 2) (pa_cons (pv 3) (pa_cons pe_int pa_nil)))) pa_nil)))))) (pg_name (i := 5) sc_law.nd rfl (by first | exact Or.inl rfl | exact Or.inr rfl)) (pss_one (ps_if (pt_not (pt_val (pe_call (ok_law_right T) hr rfl T.m_law_right T.F_law_right.kp (b_law_right T) .nil pass0 (pa_cons (pv 5) pa_nil)))) (pss_one (ps_ret pe_bl)) pss_nil)))
      (pss_one (ps_ret (pe_callB (call_allK K rfl) rfl T.z_all PyProof.Rows.boot_all (pa_cons (pe_lc rfl (lcOk_of (S := defScope s_law) (N := ["_law_script", "_law_told_here", "_law_text", "_law_cell", "_law_few", "_law_other_here"]) (M := ["_law_script", "_law_told_here", "_law_text", "_law_cell", "_law_few", "_law_other_here", "_law_thing"]) (by decide +kernel)) (pi_listK K (pe_lst (pa_cons pe_non (pa_cons pe_int (pa_cons (pe_lst (pa_cons pe_str pa_nil)) (pa_cons pe_bl pa_nil)))))) (fun _ _ _ _ => (pg_name (i := 6) (show List.Nodup (["_law_script", "_law_told_here", "_law_text", "_law_cell", "_law_few", "_law_other_here", "_law_thing"] : List Str) by decide +kernel) rfl (by first | exact Or.inl rfl | exact Or.inr rfl))) (fun _ _ _ _ => pifs_nil) (fun _ _ _ _ => (pe_call (okx_law_refused T) (hr.mono (by decide)) rfl T.m_law_refused T.F_law_refused.kp (b_law_refused T) .nil passF (pa_cons (pv 6) pa_nil)))) pa_nil)))))))))))), ?_⟩
  have big : (sizeLine : Nat) = 16777216 := by decide
  refine ⟨_, rfl, sc, 0, rfl, hS, Int.le_refl 0, fun t n l gs H1 nt nl h1 hT => ?_⟩
  obtain ⟨ht, hl, n1, n5, hz, hb⟩ := id hT
  refine ⟨_, rfl, t, _, _, _, rfl, rfl, SqT.of ht, atI_nat (j := 0) rfl, _, rfl, t, _, _, _, rfl, rfl, SqT.of ht, atI_nat (j := 1) rfl, fun x dx nx ndx nex => ?_⟩
  have s4 : Same H1 (upd (upd H1 dx (.own x)) x (.ins a.C_Council dx [])) := (same_new ndx _).trans (same_new (by rw [upd_ne (Ne.symm nex)]; exact nx) _)
  refine ⟨x, dx, n, l, gs, rfl, upd_same, n1, n5, s4 _ _ hl, ⟨by omega, hb⟩, fun H4 c0 kp4 => ⟨rfl, ?_⟩⟩
  have s14 : Same H1 H4 := fun b o hb' => kp4 b o (s4 b o hb') (ne_of_none hb' nx)
  refine ⟨x, n, _, rfl, c0, fun H5 h5 => ?_⟩
  have wl := wtx_len n5 (tabOf n gs)
  generalize wtx n (tabOf n gs) = wt at wl
  refine ⟨_, rfl, sc, 2, rfl, hS.same (h1.trans (s14.trans h5)), by decide, fun c G0 h6 => ?_⟩
  -- the texts
  refine ⟨(by show 14 ≤ sizeLine; decide), fun f1 nf1 => ?_⟩
  have s1 := same_new nf1 (.lst (few1.map V.str))
  have hf1 : upd G0 f1 (.lst (few1.map V.str)) f1 = some (.lst (few1.map V.str)) := upd_same
  refine ⟨_, rfl, (by show 10 ≤ sizeLine; decide), fun l2 nl2 => ?_⟩
  have s2 := same_new nl2 (.lst (few2.map V.str))
  refine ⟨f1, l2, few1.map V.str, few2.map V.str, rfl, rfl, s2 _ _ hf1, upd_same, (by show 24 ≤ sizeLine; decide), fun f2 nf2 => ?_⟩
  have s3 := same_new nf2 (.lst (few1.map V.str ++ few2.map V.str))
  refine ⟨_, rfl, (by show 9 ≤ sizeLine; decide), fun l3 nl3 => ?_⟩
  have s4' := same_new nl3 (.lst (few3.map V.str))
  refine ⟨f2, l3, few1.map V.str ++ few2.map V.str, few3.map V.str, rfl, rfl, s4' _ _ upd_same, upd_same, (by show 33 ≤ sizeLine; decide), fun f3 nf3 => ?_⟩
  have s5 := same_new nf3 (.lst (few1.map V.str ++ few2.map V.str ++ few3.map V.str))
  have zl : (Str.ofString "0").length = 1 := by decide +kernel
  have z3 : (Str.ofString "3: ").length = 3 := by decide +kernel
  have zm : (Txt.mul (Str.ofString "0") 4000).length = 4000 := by rw [← cl_len, zeros_cl, List.length_replicate]
  refine ⟨_, rfl, _, _, rfl, rfl, by decide, by decide, by rw [zl]; decide, by rw [zl]; decide, _, _, rfl, rfl, by rw [z3, zm]; omega, (by show 2 ≤ sizeLine; decide), fun l4 nl4 => ?_⟩
  have s6 := same_new nl4 (.lst ((few4 ++ [Str.ofString "3: " ++ Txt.mul (Str.ofString "0") 4000]).map V.str))
  refine ⟨f3, l4, few1.map V.str ++ few2.map V.str ++ few3.map V.str, (few4 ++ [Str.ofString "3: " ++ Txt.mul (Str.ofString "0") 4000]).map V.str, rfl, rfl, s6 _ _ upd_same, upd_same, (by show 35 ≤ sizeLine; decide), fun f4 nf4 => ?_⟩
  have s7 := same_new nf4 (.lst (few1.map V.str ++ few2.map V.str ++ few3.map V.str ++ (few4 ++ [Str.ofString "3: " ++ Txt.mul (Str.ofString "0") 4000]).map V.str))
  have sX := s1.trans (s2.trans (s3.trans (s4'.trans (s5.trans (s6.trans s7)))))
  have good : ∀ v ∈ (few1.map V.str ++ few2.map V.str ++ few3.map V.str ++ (few4 ++ [Str.ofString "3: " ++ Txt.mul (Str.ofString "0") 4000]).map V.str), ∃ z : Str, v = .str z ∧ OkT z := by
    intro v hv
    have e : (few1.map V.str ++ few2.map V.str ++ few3.map V.str ++ (few4 ++ [Str.ofString "3: " ++ Txt.mul (Str.ofString "0") 4000]).map V.str) = (few1 ++ few2 ++ few3 ++ few4 ++ [Str.ofString "3: " ++ Txt.mul (Str.ofString "0") 4000]).map V.str := by simp only [List.map_append, List.append_assoc]
    rw [e] at hv
    obtain ⟨z, hz, rfl⟩ := List.mem_map.mp hv
    refine ⟨z, rfl, ?_⟩
    rcases List.mem_append.mp hz with h | h
    · exact few_ok z h
    · have ez : z = Str.ofString "3: " ++ Txt.mul (Str.ofString "0") 4000 := by simpa using h
      rw [ez]
      exact zeros_ok
  have hlen4 : (few1.map V.str ++ few2.map V.str ++ few3.map V.str ++ (few4 ++ [Str.ofString "3: " ++ Txt.mul (Str.ofString "0") 4000]).map V.str).length = 35 := rfl
  refine ⟨_, rfl, _, rfl, _, rfl, _, rfl, wt, c, 0, rfl, by omega, fun y1 Ha ly1 ha => ?_⟩
  refine ⟨_, rfl, _, rfl, wt, c, 1, rfl, by omega, fun y2 Hb ly2 hb2 => ?_⟩
  refine ⟨(by show 3 ≤ sizeLine; decide), fun l5 nl5 => ?_⟩
  have s8 := (ha.trans hb2).trans (same_new nl5 (.lst [V.str wt, .str y1, .str y2]))
  have sY : Same G0 (upd Hb l5 (.lst [V.str wt, .str y1, .str y2])) := sX.trans s8
  have hf4 : upd Hb l5 (.lst [V.str wt, .str y1, .str y2]) f4 = some (.lst (few1.map V.str ++ few2.map V.str ++ few3.map V.str ++ (few4 ++ [Str.ofString "3: " ++ Txt.mul (Str.ofString "0") 4000]).map V.str)) := s8 _ _ upd_same
  have hl5 : upd Hb l5 (.lst [V.str wt, .str y1, .str y2]) l5 = some (.lst [V.str wt, .str y1, .str y2]) := upd_same
  generalize upd Hb l5 (.lst [V.str wt, .str y1, .str y2]) = Hc at sY hf4 hl5
  clear s8 sX s7 s6 s5 s4' s3 s2 s1 hf1 ha hb2
  generalize (few1.map V.str ++ few2.map V.str ++ few3.map V.str ++ (few4 ++ [Str.ofString "3: " ++ Txt.mul (Str.ofString "0") 4000]).map V.str) = XS at hf4 good hlen4
  refine ⟨f4, l5, XS, [V.str wt, .str y1, .str y2], rfl, rfl, hf4, hl5, (by rw [hlen4]; show 38 ≤ sizeLine; decide), fun f5 nf5 => ?_⟩
  have goodA : ∀ v ∈ XS ++ [V.str wt, .str y1, .str y2], ∃ z : Str, v = .str z ∧ OkT z := by
    intro v hv
    rcases List.mem_append.mp hv with h | h
    · exact good v h
    · simp only [List.mem_cons, List.not_mem_nil, or_false] at h
      rcases h with rfl | rfl | rfl
      · exact ⟨_, rfl, ok_len (by omega)⟩
      · exact ⟨_, rfl, ok_len (by omega)⟩
      · exact ⟨_, rfl, ok_len (by omega)⟩
  refine ⟨f5, rfl, ⟨_, SqL.of upd_same⟩, ?_⟩
  refine for_list (xs := XS ++ [V.str wt, .str y1, .str y2]) (fun i σ' H' => ∃ y : Option V, σ' = [some (.ref sc), some (.ref t), some (.str wt), some (.int c), some (.ref f4), y] ∧ H' f5 = some (.lst (XS ++ [V.str wt, .str y1, .str y2]))) ?_ ?_ ?_ ?_
  · exact ⟨none, rfl, upd_same⟩
  · rintro i σ' H' _ ⟨y, rfl, hf⟩
    exact SqL.of hf
  · rintro i v σ' H' hx ⟨y, rfl, hf⟩
    obtain ⟨z, rfl, ok⟩ := goodA v (List.mem_of_getElem? hx)
    refine ⟨_, rfl, z, rfl, ok, fun H2 s2 => ⟨_, rfl, iteF ?_⟩⟩
    exact ⟨_, rfl, s2 _ _ hf⟩
  rintro σ' H6 ⟨y, rfl, hf⟩
  refine ⟨(by show 1 ≤ sizeLine; decide), fun p np => ?_⟩
  have t1 := same_new np (.lst [V.str "3:"])
  have hp : upd H6 p (.lst [V.str "3:"]) p = some (.lst [V.str "3:"]) := upd_same
  generalize upd H6 p (.lst [V.str "3:"]) = H7 at t1 hp
  refine ⟨(by show 4 ≤ sizeLine; decide), fun q nq => ?_⟩
  have t2 := same_new nq (.lst [V.non, .int 3, .ref p, .bl true])
  have hq : upd H7 q (.lst [V.non, .int 3, .ref p, .bl true]) q = some (.lst [V.non, .int 3, .ref p, .bl true]) := upd_same
  generalize upd H7 q (.lst [V.non, .int 3, .ref p, .bl true]) = H8 at t2 hq
  refine ⟨q, rfl, ⟨_, SqL.of hq⟩, ?_⟩
  refine lcB_list rfl (SqL.of hq) (by show 4 ≤ 1000; decide) (fun _ => true) (fun _ => .bl true) (fun v hv Ha ha R z => z Ha (Same.refl _)) (fun v hv _ Ha ha R z => ?_) fun Ha D ha hD => ?_
  · simp only [List.mem_cons, List.not_mem_nil, or_false] at hv
    rcases hv with rfl | rfl | rfl | rfl
    · exact ⟨_, rfl, _, rfl, .inr ⟨_, .non, rfl⟩, fun Hd hd => z Hd hd⟩
    · exact ⟨_, rfl, _, rfl, .inr ⟨_, .int _, rfl⟩, fun Hd hd => z Hd hd⟩
    · exact ⟨_, rfl, _, rfl, .inr ⟨_, .lst (ha _ _ (t2 _ _ hp)), rfl⟩, fun Hd hd => z Hd hd⟩
    · exact ⟨_, rfl, _, rfl, .inr ⟨_, .bl _, rfl⟩, fun Hd hd => z Hd hd⟩
  · refine ⟨D, [true, true, true, true], rfl, SqL.of upd_same, ?_⟩
    exact kend _
end Wv

set_option Elab.async false
set_option linter.all false
set_option maxRecDepth 100000
set_option maxHeartbeats 4000000

namespace Wv
open PySem L2
theorem txt_mk {K : PySem.W.Frag} {h : Heap} {mg : Str → Option Value} (X : K.In h) (G : h.Ns mainGlobals mg)
    {C_Council C_CouncilError C_BadText C_BadCouncil C_BadGroup C_NoMember C_Unlike C_BadWeights : Addr}
    {f_wall f_is_whole f_everybody f_is_group f_groups_of f_has f_members_of f_within f_Council_init f_Council_carries f_Council_least f_Council_is_least f_refuse_bad_council f_has_one_within f_written f_group_text f_read f_members_read f_groups_read f_law_cell_at f_law_draw f_law_told f_law_table f_law_refused f_law_group_in f_law_in f_law_right f_law_other f_law : Addr}
    {od_wall an_wall od_is_whole an_is_whole od_everybody an_everybody od_is_group an_is_group od_groups_of an_groups_of od_has an_has od_members_of an_members_of od_within an_within od_Council_init an_Council_init od_Council_carries an_Council_carries od_Council_least an_Council_least od_Council_is_least an_Council_is_least od_refuse_bad_council an_refuse_bad_council od_has_one_within an_has_one_within od_written an_written od_group_text an_group_text od_read an_read od_members_read an_members_read od_groups_read an_groups_read od_law_cell_at an_law_cell_at od_law_draw an_law_draw od_law_told an_law_told od_law_table an_law_table od_law_refused an_law_refused od_law_group_in an_law_group_in od_law_in an_law_in od_law_right an_law_right od_law_other an_law_other od_law an_law : Option Addr} {sl_wall sl_is_whole sl_everybody sl_is_group sl_groups_of sl_has sl_members_of sl_within sl_Council_init sl_Council_carries sl_Council_least sl_Council_is_least sl_refuse_bad_council sl_has_one_within sl_written sl_group_text sl_read sl_members_read sl_groups_read sl_law_cell_at sl_law_draw sl_law_told sl_law_table sl_law_refused sl_law_group_in sl_law_in sl_law_right sl_law_other sl_law : Array (Option Value)}
    {oc_wall kV_wall dc_wall pm_wall cd_wall ct_wall oc_is_whole kV_is_whole dc_is_whole pm_is_whole cd_is_whole ct_is_whole oc_everybody kV_everybody dc_everybody pm_everybody cd_everybody ct_everybody oc_is_group kV_is_group dc_is_group pm_is_group cd_is_group ct_is_group oc_groups_of kV_groups_of dc_groups_of pm_groups_of cd_groups_of ct_groups_of oc_has kV_has dc_has pm_has cd_has ct_has oc_members_of kV_members_of dc_members_of pm_members_of cd_members_of ct_members_of oc_within kV_within dc_within pm_within cd_within ct_within oc_Council_init kV_Council_init dc_Council_init pm_Council_init cd_Council_init ct_Council_init oc_Council_carries kV_Council_carries dc_Council_carries pm_Council_carries cd_Council_carries ct_Council_carries oc_Council_least kV_Council_least dc_Council_least pm_Council_least cd_Council_least ct_Council_least oc_Council_is_least kV_Council_is_least dc_Council_is_least pm_Council_is_least cd_Council_is_least ct_Council_is_least oc_refuse_bad_council kV_refuse_bad_council dc_refuse_bad_council pm_refuse_bad_council cd_refuse_bad_council ct_refuse_bad_council oc_has_one_within kV_has_one_within dc_has_one_within pm_has_one_within cd_has_one_within ct_has_one_within oc_written kV_written dc_written pm_written cd_written ct_written oc_group_text kV_group_text dc_group_text pm_group_text cd_group_text ct_group_text oc_read kV_read dc_read pm_read cd_read ct_read oc_members_read kV_members_read dc_members_read pm_members_read cd_members_read ct_members_read oc_groups_read kV_groups_read dc_groups_read pm_groups_read cd_groups_read ct_groups_read oc_law_cell_at kV_law_cell_at dc_law_cell_at pm_law_cell_at cd_law_cell_at ct_law_cell_at oc_law_draw kV_law_draw dc_law_draw pm_law_draw cd_law_draw ct_law_draw oc_law_told kV_law_told dc_law_told pm_law_told cd_law_told ct_law_told oc_law_table kV_law_table dc_law_table pm_law_table cd_law_table ct_law_table oc_law_refused kV_law_refused dc_law_refused pm_law_refused cd_law_refused ct_law_refused oc_law_group_in kV_law_group_in dc_law_group_in pm_law_group_in cd_law_group_in ct_law_group_in oc_law_in kV_law_in dc_law_in pm_law_in cd_law_in ct_law_in oc_law_right kV_law_right dc_law_right pm_law_right cd_law_right ct_law_right oc_law_other kV_law_other dc_law_other pm_law_other cd_law_other ct_law_other oc_law kV_law dc_law pm_law cd_law ct_law : Value}
    {t_MOST_MEMBERS t_NOBODY : Tok}
    (aC_Council : PySem.W.nsIn K mainGlobals "Council" = some (some (.ref C_Council)))
    (aC_CouncilError : PySem.W.nsIn K mainGlobals "CouncilError" = some (some (.ref C_CouncilError)))
    (aC_BadText : PySem.W.nsIn K mainGlobals "BadText" = some (some (.ref C_BadText)))
    (aC_BadCouncil : PySem.W.nsIn K mainGlobals "BadCouncil" = some (some (.ref C_BadCouncil)))
    (aC_BadGroup : PySem.W.nsIn K mainGlobals "BadGroup" = some (some (.ref C_BadGroup)))
    (aC_NoMember : PySem.W.nsIn K mainGlobals "NoMember" = some (some (.ref C_NoMember)))
    (aC_Unlike : PySem.W.nsIn K mainGlobals "Unlike" = some (some (.ref C_Unlike)))
    (aC_BadWeights : PySem.W.nsIn K mainGlobals "BadWeights" = some (some (.ref C_BadWeights)))
    (a_wall : PySem.W.nsIn K mainGlobals "_wall" = some (some (.ref f_wall)))
    (l_wall : K.lookup f_wall = some ⟨oc_wall, od_wall, .func (PySem.W.fnOf "_wall" "_wall" (defArgs s_wall) (defBody s_wall) (defScope s_wall) .none kV_wall dc_wall pm_wall an_wall cd_wall ct_wall), sl_wall⟩)
    (c_wall : PySem.W.codeIn K cd_wall "_wall" = true)
    (k_wall : PySem.W.keepIn K (.ref f_wall) = true)
    (a_is_whole : PySem.W.nsIn K mainGlobals "is_whole" = some (some (.ref f_is_whole)))
    (l_is_whole : K.lookup f_is_whole = some ⟨oc_is_whole, od_is_whole, .func (PySem.W.fnOf "is_whole" "is_whole" (defArgs s_is_whole) (defBody s_is_whole) (defScope s_is_whole) .none kV_is_whole dc_is_whole pm_is_whole an_is_whole cd_is_whole ct_is_whole), sl_is_whole⟩)
    (c_is_whole : PySem.W.codeIn K cd_is_whole "is_whole" = true)
    (k_is_whole : PySem.W.keepIn K (.ref f_is_whole) = true)
    (a_everybody : PySem.W.nsIn K mainGlobals "everybody" = some (some (.ref f_everybody)))
    (l_everybody : K.lookup f_everybody = some ⟨oc_everybody, od_everybody, .func (PySem.W.fnOf "everybody" "everybody" (defArgs s_everybody) (defBody s_everybody) (defScope s_everybody) .none kV_everybody dc_everybody pm_everybody an_everybody cd_everybody ct_everybody), sl_everybody⟩)
    (c_everybody : PySem.W.codeIn K cd_everybody "everybody" = true)
    (k_everybody : PySem.W.keepIn K (.ref f_everybody) = true)
    (a_is_group : PySem.W.nsIn K mainGlobals "is_group" = some (some (.ref f_is_group)))
    (l_is_group : K.lookup f_is_group = some ⟨oc_is_group, od_is_group, .func (PySem.W.fnOf "is_group" "is_group" (defArgs s_is_group) (defBody s_is_group) (defScope s_is_group) .none kV_is_group dc_is_group pm_is_group an_is_group cd_is_group ct_is_group), sl_is_group⟩)
    (c_is_group : PySem.W.codeIn K cd_is_group "is_group" = true)
    (k_is_group : PySem.W.keepIn K (.ref f_is_group) = true)
    (a_groups_of : PySem.W.nsIn K mainGlobals "groups_of" = some (some (.ref f_groups_of)))
    (l_groups_of : K.lookup f_groups_of = some ⟨oc_groups_of, od_groups_of, .func (PySem.W.fnOf "groups_of" "groups_of" (defArgs s_groups_of) (defBody s_groups_of) (defScope s_groups_of) .none kV_groups_of dc_groups_of pm_groups_of an_groups_of cd_groups_of ct_groups_of), sl_groups_of⟩)
    (c_groups_of : PySem.W.codeIn K cd_groups_of "groups_of" = true)
    (k_groups_of : PySem.W.keepIn K (.ref f_groups_of) = true)
    (a_has : PySem.W.nsIn K mainGlobals "has" = some (some (.ref f_has)))
    (l_has : K.lookup f_has = some ⟨oc_has, od_has, .func (PySem.W.fnOf "has" "has" (defArgs s_has) (defBody s_has) (defScope s_has) .none kV_has dc_has pm_has an_has cd_has ct_has), sl_has⟩)
    (c_has : PySem.W.codeIn K cd_has "has" = true)
    (k_has : PySem.W.keepIn K (.ref f_has) = true)
    (a_members_of : PySem.W.nsIn K mainGlobals "members_of" = some (some (.ref f_members_of)))
    (l_members_of : K.lookup f_members_of = some ⟨oc_members_of, od_members_of, .func (PySem.W.fnOf "members_of" "members_of" (defArgs s_members_of) (defBody s_members_of) (defScope s_members_of) .none kV_members_of dc_members_of pm_members_of an_members_of cd_members_of ct_members_of), sl_members_of⟩)
    (c_members_of : PySem.W.codeIn K cd_members_of "members_of" = true)
    (k_members_of : PySem.W.keepIn K (.ref f_members_of) = true)
    (a_within : PySem.W.nsIn K mainGlobals "within" = some (some (.ref f_within)))
    (l_within : K.lookup f_within = some ⟨oc_within, od_within, .func (PySem.W.fnOf "within" "within" (defArgs s_within) (defBody s_within) (defScope s_within) .none kV_within dc_within pm_within an_within cd_within ct_within), sl_within⟩)
    (c_within : PySem.W.codeIn K cd_within "within" = true)
    (k_within : PySem.W.keepIn K (.ref f_within) = true)
    (a_Council_init : PySem.W.findIn K (.ref C_Council) "__init__" = some (some (.ref f_Council_init)))
    (i_Council_init : PySem.W.isFn K (.ref f_Council_init) = true)
    (l_Council_init : K.lookup f_Council_init = some ⟨oc_Council_init, od_Council_init, .func (PySem.W.fnOf "__init__" "Council.__init__" (defArgs s_Council_init) (defBody s_Council_init) (defScope s_Council_init) .none kV_Council_init dc_Council_init pm_Council_init an_Council_init cd_Council_init ct_Council_init), sl_Council_init⟩)
    (c_Council_init : PySem.W.codeIn K cd_Council_init "Council.__init__" = true)
    (k_Council_init : PySem.W.keepIn K (.ref f_Council_init) = true)
    (a_Council_carries : PySem.W.findIn K (.ref C_Council) "carries" = some (some (.ref f_Council_carries)))
    (i_Council_carries : PySem.W.isFn K (.ref f_Council_carries) = true)
    (l_Council_carries : K.lookup f_Council_carries = some ⟨oc_Council_carries, od_Council_carries, .func (PySem.W.fnOf "carries" "Council.carries" (defArgs s_Council_carries) (defBody s_Council_carries) (defScope s_Council_carries) .none kV_Council_carries dc_Council_carries pm_Council_carries an_Council_carries cd_Council_carries ct_Council_carries), sl_Council_carries⟩)
    (c_Council_carries : PySem.W.codeIn K cd_Council_carries "Council.carries" = true)
    (k_Council_carries : PySem.W.keepIn K (.ref f_Council_carries) = true)
    (a_Council_least : PySem.W.findIn K (.ref C_Council) "least" = some (some (.ref f_Council_least)))
    (i_Council_least : PySem.W.isFn K (.ref f_Council_least) = true)
    (l_Council_least : K.lookup f_Council_least = some ⟨oc_Council_least, od_Council_least, .func (PySem.W.fnOf "least" "Council.least" (defArgs s_Council_least) (defBody s_Council_least) (defScope s_Council_least) .none kV_Council_least dc_Council_least pm_Council_least an_Council_least cd_Council_least ct_Council_least), sl_Council_least⟩)
    (c_Council_least : PySem.W.codeIn K cd_Council_least "Council.least" = true)
    (k_Council_least : PySem.W.keepIn K (.ref f_Council_least) = true)
    (a_Council_is_least : PySem.W.findIn K (.ref C_Council) "is_least" = some (some (.ref f_Council_is_least)))
    (i_Council_is_least : PySem.W.isFn K (.ref f_Council_is_least) = true)
    (l_Council_is_least : K.lookup f_Council_is_least = some ⟨oc_Council_is_least, od_Council_is_least, .func (PySem.W.fnOf "is_least" "Council.is_least" (defArgs s_Council_is_least) (defBody s_Council_is_least) (defScope s_Council_is_least) .none kV_Council_is_least dc_Council_is_least pm_Council_is_least an_Council_is_least cd_Council_is_least ct_Council_is_least), sl_Council_is_least⟩)
    (c_Council_is_least : PySem.W.codeIn K cd_Council_is_least "Council.is_least" = true)
    (k_Council_is_least : PySem.W.keepIn K (.ref f_Council_is_least) = true)
    (a_refuse_bad_council : PySem.W.nsIn K mainGlobals "refuse_bad_council" = some (some (.ref f_refuse_bad_council)))
    (l_refuse_bad_council : K.lookup f_refuse_bad_council = some ⟨oc_refuse_bad_council, od_refuse_bad_council, .func (PySem.W.fnOf "refuse_bad_council" "refuse_bad_council" (defArgs s_refuse_bad_council) (defBody s_refuse_bad_council) (defScope s_refuse_bad_council) .none kV_refuse_bad_council dc_refuse_bad_council pm_refuse_bad_council an_refuse_bad_council cd_refuse_bad_council ct_refuse_bad_council), sl_refuse_bad_council⟩)
    (c_refuse_bad_council : PySem.W.codeIn K cd_refuse_bad_council "refuse_bad_council" = true)
    (k_refuse_bad_council : PySem.W.keepIn K (.ref f_refuse_bad_council) = true)
    (a_has_one_within : PySem.W.nsIn K mainGlobals "has_one_within" = some (some (.ref f_has_one_within)))
    (l_has_one_within : K.lookup f_has_one_within = some ⟨oc_has_one_within, od_has_one_within, .func (PySem.W.fnOf "has_one_within" "has_one_within" (defArgs s_has_one_within) (defBody s_has_one_within) (defScope s_has_one_within) .none kV_has_one_within dc_has_one_within pm_has_one_within an_has_one_within cd_has_one_within ct_has_one_within), sl_has_one_within⟩)
    (c_has_one_within : PySem.W.codeIn K cd_has_one_within "has_one_within" = true)
    (k_has_one_within : PySem.W.keepIn K (.ref f_has_one_within) = true)
    (a_written : PySem.W.nsIn K mainGlobals "written" = some (some (.ref f_written)))
    (l_written : K.lookup f_written = some ⟨oc_written, od_written, .func (PySem.W.fnOf "written" "written" (defArgs s_written) (defBody s_written) (defScope s_written) .none kV_written dc_written pm_written an_written cd_written ct_written), sl_written⟩)
    (c_written : PySem.W.codeIn K cd_written "written" = true)
    (k_written : PySem.W.keepIn K (.ref f_written) = true)
    (a_group_text : PySem.W.nsIn K mainGlobals "group_text" = some (some (.ref f_group_text)))
    (l_group_text : K.lookup f_group_text = some ⟨oc_group_text, od_group_text, .func (PySem.W.fnOf "group_text" "group_text" (defArgs s_group_text) (defBody s_group_text) (defScope s_group_text) .none kV_group_text dc_group_text pm_group_text an_group_text cd_group_text ct_group_text), sl_group_text⟩)
    (c_group_text : PySem.W.codeIn K cd_group_text "group_text" = true)
    (k_group_text : PySem.W.keepIn K (.ref f_group_text) = true)
    (a_read : PySem.W.nsIn K mainGlobals "read" = some (some (.ref f_read)))
    (l_read : K.lookup f_read = some ⟨oc_read, od_read, .func (PySem.W.fnOf "read" "read" (defArgs s_read) (defBody s_read) (defScope s_read) .none kV_read dc_read pm_read an_read cd_read ct_read), sl_read⟩)
    (c_read : PySem.W.codeIn K cd_read "read" = true)
    (k_read : PySem.W.keepIn K (.ref f_read) = true)
    (a_members_read : PySem.W.nsIn K mainGlobals "members_read" = some (some (.ref f_members_read)))
    (l_members_read : K.lookup f_members_read = some ⟨oc_members_read, od_members_read, .func (PySem.W.fnOf "members_read" "members_read" (defArgs s_members_read) (defBody s_members_read) (defScope s_members_read) .none kV_members_read dc_members_read pm_members_read an_members_read cd_members_read ct_members_read), sl_members_read⟩)
    (c_members_read : PySem.W.codeIn K cd_members_read "members_read" = true)
    (k_members_read : PySem.W.keepIn K (.ref f_members_read) = true)
    (a_groups_read : PySem.W.nsIn K mainGlobals "groups_read" = some (some (.ref f_groups_read)))
    (l_groups_read : K.lookup f_groups_read = some ⟨oc_groups_read, od_groups_read, .func (PySem.W.fnOf "groups_read" "groups_read" (defArgs s_groups_read) (defBody s_groups_read) (defScope s_groups_read) .none kV_groups_read dc_groups_read pm_groups_read an_groups_read cd_groups_read ct_groups_read), sl_groups_read⟩)
    (c_groups_read : PySem.W.codeIn K cd_groups_read "groups_read" = true)
    (k_groups_read : PySem.W.keepIn K (.ref f_groups_read) = true)
    (a_law_cell_at : PySem.W.nsIn K mainGlobals "_law_cell_at" = some (some (.ref f_law_cell_at)))
    (l_law_cell_at : K.lookup f_law_cell_at = some ⟨oc_law_cell_at, od_law_cell_at, .func (PySem.W.fnOf "_law_cell_at" "_law_cell_at" (defArgs s_law_cell_at) (defBody s_law_cell_at) (defScope s_law_cell_at) .none kV_law_cell_at dc_law_cell_at pm_law_cell_at an_law_cell_at cd_law_cell_at ct_law_cell_at), sl_law_cell_at⟩)
    (c_law_cell_at : PySem.W.codeIn K cd_law_cell_at "_law_cell_at" = true)
    (k_law_cell_at : PySem.W.keepIn K (.ref f_law_cell_at) = true)
    (a_law_draw : PySem.W.nsIn K mainGlobals "_law_draw" = some (some (.ref f_law_draw)))
    (l_law_draw : K.lookup f_law_draw = some ⟨oc_law_draw, od_law_draw, .func (PySem.W.fnOf "_law_draw" "_law_draw" (defArgs s_law_draw) (defBody s_law_draw) (defScope s_law_draw) .none kV_law_draw dc_law_draw pm_law_draw an_law_draw cd_law_draw ct_law_draw), sl_law_draw⟩)
    (c_law_draw : PySem.W.codeIn K cd_law_draw "_law_draw" = true)
    (k_law_draw : PySem.W.keepIn K (.ref f_law_draw) = true)
    (a_law_told : PySem.W.nsIn K mainGlobals "_law_told" = some (some (.ref f_law_told)))
    (l_law_told : K.lookup f_law_told = some ⟨oc_law_told, od_law_told, .func (PySem.W.fnOf "_law_told" "_law_told" (defArgs s_law_told) (defBody s_law_told) (defScope s_law_told) .none kV_law_told dc_law_told pm_law_told an_law_told cd_law_told ct_law_told), sl_law_told⟩)
    (c_law_told : PySem.W.codeIn K cd_law_told "_law_told" = true)
    (k_law_told : PySem.W.keepIn K (.ref f_law_told) = true)
    (a_law_table : PySem.W.nsIn K mainGlobals "_law_table" = some (some (.ref f_law_table)))
    (l_law_table : K.lookup f_law_table = some ⟨oc_law_table, od_law_table, .func (PySem.W.fnOf "_law_table" "_law_table" (defArgs s_law_table) (defBody s_law_table) (defScope s_law_table) .none kV_law_table dc_law_table pm_law_table an_law_table cd_law_table ct_law_table), sl_law_table⟩)
    (c_law_table : PySem.W.codeIn K cd_law_table "_law_table" = true)
    (k_law_table : PySem.W.keepIn K (.ref f_law_table) = true)
    (a_law_refused : PySem.W.nsIn K mainGlobals "_law_refused" = some (some (.ref f_law_refused)))
    (l_law_refused : K.lookup f_law_refused = some ⟨oc_law_refused, od_law_refused, .func (PySem.W.fnOf "_law_refused" "_law_refused" (defArgs s_law_refused) (defBody s_law_refused) (defScope s_law_refused) .none kV_law_refused dc_law_refused pm_law_refused an_law_refused cd_law_refused ct_law_refused), sl_law_refused⟩)
    (c_law_refused : PySem.W.codeIn K cd_law_refused "_law_refused" = true)
    (k_law_refused : PySem.W.keepIn K (.ref f_law_refused) = true)
    (a_law_group_in : PySem.W.nsIn K mainGlobals "_law_group_in" = some (some (.ref f_law_group_in)))
    (l_law_group_in : K.lookup f_law_group_in = some ⟨oc_law_group_in, od_law_group_in, .func (PySem.W.fnOf "_law_group_in" "_law_group_in" (defArgs s_law_group_in) (defBody s_law_group_in) (defScope s_law_group_in) .none kV_law_group_in dc_law_group_in pm_law_group_in an_law_group_in cd_law_group_in ct_law_group_in), sl_law_group_in⟩)
    (c_law_group_in : PySem.W.codeIn K cd_law_group_in "_law_group_in" = true)
    (k_law_group_in : PySem.W.keepIn K (.ref f_law_group_in) = true)
    (a_law_in : PySem.W.nsIn K mainGlobals "_law_in" = some (some (.ref f_law_in)))
    (l_law_in : K.lookup f_law_in = some ⟨oc_law_in, od_law_in, .func (PySem.W.fnOf "_law_in" "_law_in" (defArgs s_law_in) (defBody s_law_in) (defScope s_law_in) .none kV_law_in dc_law_in pm_law_in an_law_in cd_law_in ct_law_in), sl_law_in⟩)
    (c_law_in : PySem.W.codeIn K cd_law_in "_law_in" = true)
    (k_law_in : PySem.W.keepIn K (.ref f_law_in) = true)
    (a_law_right : PySem.W.nsIn K mainGlobals "_law_right" = some (some (.ref f_law_right)))
    (l_law_right : K.lookup f_law_right = some ⟨oc_law_right, od_law_right, .func (PySem.W.fnOf "_law_right" "_law_right" (defArgs s_law_right) (defBody s_law_right) (defScope s_law_right) .none kV_law_right dc_law_right pm_law_right an_law_right cd_law_right ct_law_right), sl_law_right⟩)
    (c_law_right : PySem.W.codeIn K cd_law_right "_law_right" = true)
    (k_law_right : PySem.W.keepIn K (.ref f_law_right) = true)
    (a_law_other : PySem.W.nsIn K mainGlobals "_law_other" = some (some (.ref f_law_other)))
    (l_law_other : K.lookup f_law_other = some ⟨oc_law_other, od_law_other, .func (PySem.W.fnOf "_law_other" "_law_other" (defArgs s_law_other) (defBody s_law_other) (defScope s_law_other) .none kV_law_other dc_law_other pm_law_other an_law_other cd_law_other ct_law_other), sl_law_other⟩)
    (c_law_other : PySem.W.codeIn K cd_law_other "_law_other" = true)
    (k_law_other : PySem.W.keepIn K (.ref f_law_other) = true)
    (a_law : PySem.W.nsIn K mainGlobals "law" = some (some (.ref f_law)))
    (l_law : K.lookup f_law = some ⟨oc_law, od_law, .func (PySem.W.fnOf "law" "law" (defArgs s_law) (defBody s_law) (defScope s_law) .none kV_law dc_law pm_law an_law cd_law ct_law), sl_law⟩)
    (c_law : PySem.W.codeIn K cd_law "law" = true)
    (k_law : PySem.W.keepIn K (.ref f_law) = true)
    (pg_Council : PySem.W.plainGet K C_Council Str.empty = true)
    (hd_Council : PySem.W.hasDictIn K C_Council = true)
    (po_Council : PySem.W.plainOver K C_Council = true)
    (sa_Council : PySem.W.findIn K (.ref C_Council) "__setattr__" = some (some (.builtin "object.__setattr__")))
    (mk_Council : PySem.W.makesIn K C_Council = true)
    (kc_Council : PySem.W.keepIn K (.ref C_Council) = true)
    (xe_CouncilError : PySem.W.excIn K C_CouncilError bmV "ValueError.__new__" = true)
    (xg_CouncilError : PySem.W.findIn K (.ref C_CouncilError) "__getattribute__" = some (some (.builtin "BaseException.__getattribute__")))
    (xn_CouncilError : PySem.W.findIn K (.ref C_CouncilError) "__getattr__" = some none)
    (xc_CouncilError : PySem.W.findIn K (.ref C_CouncilError) "__class__" = some (some (.builtin "object.__class__")))
    (xb_CouncilError : PySem.W.mroIn K C_CouncilError (.type "BaseException") = some true)
    (xo_CouncilError : PySem.W.mroIn K C_CouncilError (.type "object") = some true)
    (xe_BadText : PySem.W.excIn K C_BadText bmV "ValueError.__new__" = true)
    (xg_BadText : PySem.W.findIn K (.ref C_BadText) "__getattribute__" = some (some (.builtin "BaseException.__getattribute__")))
    (xn_BadText : PySem.W.findIn K (.ref C_BadText) "__getattr__" = some none)
    (xc_BadText : PySem.W.findIn K (.ref C_BadText) "__class__" = some (some (.builtin "object.__class__")))
    (xb_BadText : PySem.W.mroIn K C_BadText (.type "BaseException") = some true)
    (xo_BadText : PySem.W.mroIn K C_BadText (.type "object") = some true)
    (xe_BadCouncil : PySem.W.excIn K C_BadCouncil bmV "ValueError.__new__" = true)
    (xe_BadGroup : PySem.W.excIn K C_BadGroup bmV "ValueError.__new__" = true)
    (xe_NoMember : PySem.W.excIn K C_NoMember bmV "ValueError.__new__" = true)
    (xe_Unlike : PySem.W.excIn K C_Unlike bmV "ValueError.__new__" = true)
    (xe_BadWeights : PySem.W.excIn K C_BadWeights bmV "ValueError.__new__" = true)
    (ks_BadText : PySem.W.mroIn K C_BadText (.ref C_BadText) = some true)
    (ki_BadText_BadCouncil : PySem.W.mroIn K C_BadText (.ref C_BadCouncil) = some false)
    (ki_BadText_BadGroup : PySem.W.mroIn K C_BadText (.ref C_BadGroup) = some false)
    (ki_BadText_NoMember : PySem.W.mroIn K C_BadText (.ref C_NoMember) = some false)
    (ki_BadText_BadWeights : PySem.W.mroIn K C_BadText (.ref C_BadWeights) = some false)
    (ki_BadText_Unlike : PySem.W.mroIn K C_BadText (.ref C_Unlike) = some false)
    (ki_BadText_BadText : PySem.W.mroIn K C_BadText (.ref C_BadText) = some true)
    (ki_BadText_ValueError : PySem.W.mroIn K C_BadText (.type "ValueError") = some true)
    (su_BadText_CouncilError : PySem.W.mroIn K C_BadText (.ref C_CouncilError) = some true)
    (n_Council_members : PySem.W.findIn K (.ref C_Council) "members" = some none)
    (n_Council_table : PySem.W.findIn K (.ref C_Council) "table" = some none)
    (g_MOST_MEMBERS : PySem.W.nsIn K mainGlobals "MOST_MEMBERS" = some (some (.int 5 t_MOST_MEMBERS)))
    (g_NOBODY : PySem.W.nsIn K mainGlobals "NOBODY" = some (some (.str "-" t_NOBODY)))
    (z_ValueError : PySem.W.nsIn K mainGlobals "ValueError" = some none)
    (z_all : PySem.W.nsIn K mainGlobals "all" = some none)
    (z_any : PySem.W.nsIn K mainGlobals "any" = some none)
    (z_bool : PySem.W.nsIn K mainGlobals "bool" = some none)
    (z_int : PySem.W.nsIn K mainGlobals "int" = some none)
    (z_isinstance : PySem.W.nsIn K mainGlobals "isinstance" = some none)
    (z_len : PySem.W.nsIn K mainGlobals "len" = some none)
    (z_list : PySem.W.nsIn K mainGlobals "list" = some none)
    (z_range : PySem.W.nsIn K mainGlobals "range" = some none)
    (z_str : PySem.W.nsIn K mainGlobals "str" = some none)
    (z_sum : PySem.W.nsIn K mainGlobals "sum" = some none)
    (z_tuple : PySem.W.nsIn K mainGlobals "tuple" = some none)
    : ∃ a : Adr, Txt K mg a ∧ mg "law" = some (.ref a.a_law) ∧ ∃ (kV doc pm : Value) (an : Option Addr) (cdv ct : Value), a.d_law = PySem.W.fnOf "law" "law" (defArgs s_law) (defBody s_law) (defScope s_law) .none kV doc pm an cdv ct := by
  refine ⟨{ C_Council := C_Council, C_CouncilError := C_CouncilError, C_BadText := C_BadText, C_BadCouncil := C_BadCouncil, C_BadGroup := C_BadGroup, C_NoMember := C_NoMember, C_Unlike := C_Unlike, C_BadWeights := C_BadWeights, a_wall := f_wall, d_wall := PySem.W.fnOf "_wall" "_wall" (defArgs s_wall) (defBody s_wall) (defScope s_wall) .none kV_wall dc_wall pm_wall an_wall cd_wall ct_wall, a_is_whole := f_is_whole, d_is_whole := PySem.W.fnOf "is_whole" "is_whole" (defArgs s_is_whole) (defBody s_is_whole) (defScope s_is_whole) .none kV_is_whole dc_is_whole pm_is_whole an_is_whole cd_is_whole ct_is_whole, a_everybody := f_everybody, d_everybody := PySem.W.fnOf "everybody" "everybody" (defArgs s_everybody) (defBody s_everybody) (defScope s_everybody) .none kV_everybody dc_everybody pm_everybody an_everybody cd_everybody ct_everybody, a_is_group := f_is_group, d_is_group := PySem.W.fnOf "is_group" "is_group" (defArgs s_is_group) (defBody s_is_group) (defScope s_is_group) .none kV_is_group dc_is_group pm_is_group an_is_group cd_is_group ct_is_group, a_groups_of := f_groups_of, d_groups_of := PySem.W.fnOf "groups_of" "groups_of" (defArgs s_groups_of) (defBody s_groups_of) (defScope s_groups_of) .none kV_groups_of dc_groups_of pm_groups_of an_groups_of cd_groups_of ct_groups_of, a_has := f_has, d_has := PySem.W.fnOf "has" "has" (defArgs s_has) (defBody s_has) (defScope s_has) .none kV_has dc_has pm_has an_has cd_has ct_has, a_members_of := f_members_of, d_members_of := PySem.W.fnOf "members_of" "members_of" (defArgs s_members_of) (defBody s_members_of) (defScope s_members_of) .none kV_members_of dc_members_of pm_members_of an_members_of cd_members_of ct_members_of, a_within := f_within, d_within := PySem.W.fnOf "within" "within" (defArgs s_within) (defBody s_within) (defScope s_within) .none kV_within dc_within pm_within an_within cd_within ct_within, a_Council_init := f_Council_init, d_Council_init := PySem.W.fnOf "__init__" "Council.__init__" (defArgs s_Council_init) (defBody s_Council_init) (defScope s_Council_init) .none kV_Council_init dc_Council_init pm_Council_init an_Council_init cd_Council_init ct_Council_init, a_Council_carries := f_Council_carries, d_Council_carries := PySem.W.fnOf "carries" "Council.carries" (defArgs s_Council_carries) (defBody s_Council_carries) (defScope s_Council_carries) .none kV_Council_carries dc_Council_carries pm_Council_carries an_Council_carries cd_Council_carries ct_Council_carries, a_Council_least := f_Council_least, d_Council_least := PySem.W.fnOf "least" "Council.least" (defArgs s_Council_least) (defBody s_Council_least) (defScope s_Council_least) .none kV_Council_least dc_Council_least pm_Council_least an_Council_least cd_Council_least ct_Council_least, a_Council_is_least := f_Council_is_least, d_Council_is_least := PySem.W.fnOf "is_least" "Council.is_least" (defArgs s_Council_is_least) (defBody s_Council_is_least) (defScope s_Council_is_least) .none kV_Council_is_least dc_Council_is_least pm_Council_is_least an_Council_is_least cd_Council_is_least ct_Council_is_least, a_refuse_bad_council := f_refuse_bad_council, d_refuse_bad_council := PySem.W.fnOf "refuse_bad_council" "refuse_bad_council" (defArgs s_refuse_bad_council) (defBody s_refuse_bad_council) (defScope s_refuse_bad_council) .none kV_refuse_bad_council dc_refuse_bad_council pm_refuse_bad_council an_refuse_bad_council cd_refuse_bad_council ct_refuse_bad_council, a_has_one_within := f_has_one_within, d_has_one_within := PySem.W.fnOf "has_one_within" "has_one_within" (defArgs s_has_one_within) (defBody s_has_one_within) (defScope s_has_one_within) .none kV_has_one_within dc_has_one_within pm_has_one_within an_has_one_within cd_has_one_within ct_has_one_within, a_written := f_written, d_written := PySem.W.fnOf "written" "written" (defArgs s_written) (defBody s_written) (defScope s_written) .none kV_written dc_written pm_written an_written cd_written ct_written, a_group_text := f_group_text, d_group_text := PySem.W.fnOf "group_text" "group_text" (defArgs s_group_text) (defBody s_group_text) (defScope s_group_text) .none kV_group_text dc_group_text pm_group_text an_group_text cd_group_text ct_group_text, a_read := f_read, d_read := PySem.W.fnOf "read" "read" (defArgs s_read) (defBody s_read) (defScope s_read) .none kV_read dc_read pm_read an_read cd_read ct_read, a_members_read := f_members_read, d_members_read := PySem.W.fnOf "members_read" "members_read" (defArgs s_members_read) (defBody s_members_read) (defScope s_members_read) .none kV_members_read dc_members_read pm_members_read an_members_read cd_members_read ct_members_read, a_groups_read := f_groups_read, d_groups_read := PySem.W.fnOf "groups_read" "groups_read" (defArgs s_groups_read) (defBody s_groups_read) (defScope s_groups_read) .none kV_groups_read dc_groups_read pm_groups_read an_groups_read cd_groups_read ct_groups_read, a_law_cell_at := f_law_cell_at, d_law_cell_at := PySem.W.fnOf "_law_cell_at" "_law_cell_at" (defArgs s_law_cell_at) (defBody s_law_cell_at) (defScope s_law_cell_at) .none kV_law_cell_at dc_law_cell_at pm_law_cell_at an_law_cell_at cd_law_cell_at ct_law_cell_at, a_law_draw := f_law_draw, d_law_draw := PySem.W.fnOf "_law_draw" "_law_draw" (defArgs s_law_draw) (defBody s_law_draw) (defScope s_law_draw) .none kV_law_draw dc_law_draw pm_law_draw an_law_draw cd_law_draw ct_law_draw, a_law_told := f_law_told, d_law_told := PySem.W.fnOf "_law_told" "_law_told" (defArgs s_law_told) (defBody s_law_told) (defScope s_law_told) .none kV_law_told dc_law_told pm_law_told an_law_told cd_law_told ct_law_told, a_law_table := f_law_table, d_law_table := PySem.W.fnOf "_law_table" "_law_table" (defArgs s_law_table) (defBody s_law_table) (defScope s_law_table) .none kV_law_table dc_law_table pm_law_table an_law_table cd_law_table ct_law_table, a_law_refused := f_law_refused, d_law_refused := PySem.W.fnOf "_law_refused" "_law_refused" (defArgs s_law_refused) (defBody s_law_refused) (defScope s_law_refused) .none kV_law_refused dc_law_refused pm_law_refused an_law_refused cd_law_refused ct_law_refused, a_law_group_in := f_law_group_in, d_law_group_in := PySem.W.fnOf "_law_group_in" "_law_group_in" (defArgs s_law_group_in) (defBody s_law_group_in) (defScope s_law_group_in) .none kV_law_group_in dc_law_group_in pm_law_group_in an_law_group_in cd_law_group_in ct_law_group_in, a_law_in := f_law_in, d_law_in := PySem.W.fnOf "_law_in" "_law_in" (defArgs s_law_in) (defBody s_law_in) (defScope s_law_in) .none kV_law_in dc_law_in pm_law_in an_law_in cd_law_in ct_law_in, a_law_right := f_law_right, d_law_right := PySem.W.fnOf "_law_right" "_law_right" (defArgs s_law_right) (defBody s_law_right) (defScope s_law_right) .none kV_law_right dc_law_right pm_law_right an_law_right cd_law_right ct_law_right, a_law_other := f_law_other, d_law_other := PySem.W.fnOf "_law_other" "_law_other" (defArgs s_law_other) (defBody s_law_other) (defScope s_law_other) .none kV_law_other dc_law_other pm_law_other an_law_other cd_law_other ct_law_other, a_law := f_law, d_law := PySem.W.fnOf "law" "law" (defArgs s_law) (defBody s_law) (defScope s_law) .none kV_law dc_law pm_law an_law cd_law ct_law, t_MOST_MEMBERS := t_MOST_MEMBERS, t_NOBODY := t_NOBODY }, ?_, PySem.W.mg_of X G a_law, _, _, _, _, _, _, rfl⟩
  exact { cl_Council := ⟨pg_Council, hd_Council, po_Council, sa_Council⟩, m_Council := PySem.W.mg_of X G aC_Council, mk_Council := ⟨mk_Council, a_Council_init, i_Council_init, kc_Council⟩, m_CouncilError := PySem.W.mg_of X G aC_CouncilError, x_CouncilError := ⟨xe_CouncilError, xg_CouncilError, xn_CouncilError, xc_CouncilError, xb_CouncilError, xo_CouncilError⟩, m_BadText := PySem.W.mg_of X G aC_BadText, x_BadText := ⟨xe_BadText, xg_BadText, xn_BadText, xc_BadText, xb_BadText, xo_BadText⟩, m_BadCouncil := PySem.W.mg_of X G aC_BadCouncil, m_BadGroup := PySem.W.mg_of X G aC_BadGroup, m_NoMember := PySem.W.mg_of X G aC_NoMember, m_Unlike := PySem.W.mg_of X G aC_Unlike, m_BadWeights := PySem.W.mg_of X G aC_BadWeights, ki_BadText_BadCouncil := kit_own2 xe_BadCouncil ks_BadText ki_BadText_BadCouncil, ki_BadText_BadGroup := kit_own2 xe_BadGroup ks_BadText ki_BadText_BadGroup, ki_BadText_NoMember := kit_own2 xe_NoMember ks_BadText ki_BadText_NoMember, ki_BadText_BadWeights := kit_own2 xe_BadWeights ks_BadText ki_BadText_BadWeights, ki_BadText_Unlike := kit_own2 xe_Unlike ks_BadText ki_BadText_Unlike, ki_BadText_BadText := kit_own ⟨xe_BadText, xg_BadText, xn_BadText, xc_BadText, xb_BadText, xo_BadText⟩ ks_BadText ki_BadText_BadText, ki_BadText_ValueError := kit_ty kit_VE ki_BadText_ValueError, su_BadText_CouncilError := su_BadText_CouncilError, n_Council_members := n_Council_members, n_Council_table := n_Council_table, F_wall := fun_mk (st := s_wall) l_wall c_wall k_wall, m_wall := PySem.W.mg_of X G a_wall, F_is_whole := fun_mk (st := s_is_whole) l_is_whole c_is_whole k_is_whole, m_is_whole := PySem.W.mg_of X G a_is_whole, F_everybody := fun_mk (st := s_everybody) l_everybody c_everybody k_everybody, m_everybody := PySem.W.mg_of X G a_everybody, F_is_group := fun_mk (st := s_is_group) l_is_group c_is_group k_is_group, m_is_group := PySem.W.mg_of X G a_is_group, F_groups_of := fun_mk (st := s_groups_of) l_groups_of c_groups_of k_groups_of, m_groups_of := PySem.W.mg_of X G a_groups_of, F_has := fun_mk (st := s_has) l_has c_has k_has, m_has := PySem.W.mg_of X G a_has, F_members_of := fun_mk (st := s_members_of) l_members_of c_members_of k_members_of, m_members_of := PySem.W.mg_of X G a_members_of, F_within := fun_mk (st := s_within) l_within c_within k_within, m_within := PySem.W.mg_of X G a_within, F_Council_init := fun_mk (st := s_Council_init) l_Council_init c_Council_init k_Council_init, F_Council_carries := fun_mk (st := s_Council_carries) l_Council_carries c_Council_carries k_Council_carries, mt_Council_carries := ⟨a_Council_carries, i_Council_carries, k_Council_carries⟩, F_Council_least := fun_mk (st := s_Council_least) l_Council_least c_Council_least k_Council_least, mt_Council_least := ⟨a_Council_least, i_Council_least, k_Council_least⟩, F_Council_is_least := fun_mk (st := s_Council_is_least) l_Council_is_least c_Council_is_least k_Council_is_least, mt_Council_is_least := ⟨a_Council_is_least, i_Council_is_least, k_Council_is_least⟩, F_refuse_bad_council := fun_mk (st := s_refuse_bad_council) l_refuse_bad_council c_refuse_bad_council k_refuse_bad_council, m_refuse_bad_council := PySem.W.mg_of X G a_refuse_bad_council, F_has_one_within := fun_mk (st := s_has_one_within) l_has_one_within c_has_one_within k_has_one_within, m_has_one_within := PySem.W.mg_of X G a_has_one_within, F_written := fun_mk (st := s_written) l_written c_written k_written, m_written := PySem.W.mg_of X G a_written, F_group_text := fun_mk (st := s_group_text) l_group_text c_group_text k_group_text, m_group_text := PySem.W.mg_of X G a_group_text, F_read := fun_mk (st := s_read) l_read c_read k_read, m_read := PySem.W.mg_of X G a_read, F_members_read := fun_mk (st := s_members_read) l_members_read c_members_read k_members_read, m_members_read := PySem.W.mg_of X G a_members_read, F_groups_read := fun_mk (st := s_groups_read) l_groups_read c_groups_read k_groups_read, m_groups_read := PySem.W.mg_of X G a_groups_read, F_law_cell_at := fun_mk (st := s_law_cell_at) l_law_cell_at c_law_cell_at k_law_cell_at, m_law_cell_at := PySem.W.mg_of X G a_law_cell_at, F_law_draw := fun_mk (st := s_law_draw) l_law_draw c_law_draw k_law_draw, m_law_draw := PySem.W.mg_of X G a_law_draw, F_law_told := fun_mk (st := s_law_told) l_law_told c_law_told k_law_told, m_law_told := PySem.W.mg_of X G a_law_told, F_law_table := fun_mk (st := s_law_table) l_law_table c_law_table k_law_table, m_law_table := PySem.W.mg_of X G a_law_table, F_law_refused := fun_mk (st := s_law_refused) l_law_refused c_law_refused k_law_refused, m_law_refused := PySem.W.mg_of X G a_law_refused, F_law_group_in := fun_mk (st := s_law_group_in) l_law_group_in c_law_group_in k_law_group_in, m_law_group_in := PySem.W.mg_of X G a_law_group_in, F_law_in := fun_mk (st := s_law_in) l_law_in c_law_in k_law_in, m_law_in := PySem.W.mg_of X G a_law_in, F_law_right := fun_mk (st := s_law_right) l_law_right c_law_right k_law_right, m_law_right := PySem.W.mg_of X G a_law_right, F_law_other := fun_mk (st := s_law_other) l_law_other c_law_other k_law_other, m_law_other := PySem.W.mg_of X G a_law_other, F_law := fun_mk (st := s_law) l_law c_law k_law, m_law := PySem.W.mg_of X G a_law, g_MOST_MEMBERS := PySem.W.mg_of X G g_MOST_MEMBERS, g_NOBODY := PySem.W.mg_of X G g_NOBODY, z_ValueError := PySem.W.mg_none_of X G z_ValueError, z_all := PySem.W.mg_none_of X G z_all, z_any := PySem.W.mg_none_of X G z_any, z_bool := PySem.W.mg_none_of X G z_bool, z_int := PySem.W.mg_none_of X G z_int, z_isinstance := PySem.W.mg_none_of X G z_isinstance, z_len := PySem.W.mg_none_of X G z_len, z_list := PySem.W.mg_none_of X G z_list, z_range := PySem.W.mg_none_of X G z_range, z_str := PySem.W.mg_none_of X G z_str, z_sum := PySem.W.mg_none_of X G z_sum, z_tuple := PySem.W.mg_none_of X G z_tuple }
theorem walk {l : PySem.W.OpenLaw} {q : Program} {loose : List Str} {XP : (Str → Option Value) → Heap → Prop} {YP : World → Heap → Prop} {d : DefRec} {K : Params → PySem.W.Frag} (hn : l.most = some 63) (hdf : d.params.defaults = [])
    (hY : ∀ (w : World) (h : Heap), YP w h → (K w.params).In h)
    (F : ∀ (w : World) (mg : Str → Option Value) (fa : Addr) (h : Heap), (K w.params).In h → h.Ns mainGlobals mg → mg d.name = some (.ref fa) → mg "law" = some (.ref fa) ∧ ∃ a : Adr, Txt (K w.params) mg a ∧ mg "law" = some (.ref a.a_law) ∧ ∃ (kV doc pm : Value) (an : Option Addr) (cdv ct : Value), a.d_law = PySem.W.fnOf "law" "law" (defArgs s_law) (defBody s_law) (defScope s_law) .none kV doc pm an cdv ct) :
    PySem.W.WalkO q loose XP YP l.row.toRowW d [] (fun f vs => PySem.call f vs) := by
  refine L2.walk_of (n := 63) (k := 10) (x := "_law_script") (CX := fun _ => CX0) (sp := fun w => sp_law (K w.params)) hn (by decide) hdf ⟨rfl, by decide, by decide⟩ hY (fun w mg fa h KX G hmg => ?_) (fun _ _ a ns hl _ hS => ⟨a, ns, rfl, hS, hl, fun _ => rfl⟩) fun _ _ _ _ _ z => z
  obtain ⟨e1, a, T, e2, kV, doc, pm, an, cdv, ct, e3⟩ := F w mg fa h KX G hmg
  have e := e1.symm.trans e2
  cases e
  refine ⟨a.d_law, fun s u => ?_, fun base _ _ => ok_law T⟩
  rw [e3]
  exact .of_eq rfl
end Wv
open PySem PySem.W PyProof.Rows
set_option maxRecDepth 100000 in
set_option maxHeartbeats 0 in
theorem PySem.Challenge.cw_weighvote_k07_texts_misread_holds : PySem.Challenge.rw_weighvote_k07_texts_misread.Holds := by
  w_on; o_law; k_head; (case hw => w_witness2)
  k_fill
  refine Wv.walk (l := PySem.Challenge.rw_weighvote_k07_texts_misread) rfl rfl (fun w h Y => PySem.W.kIn_of Y) ?F
  case F =>
    intro w mg fa h KX G hmg
    refine ⟨hmg, ?_⟩
    refine' Wv.txt_mk KX G ?aC_Council ?aC_CouncilError ?aC_BadText ?aC_BadCouncil ?aC_BadGroup ?aC_NoMember ?aC_Unlike ?aC_BadWeights ?a_wall ?l_wall ?c_wall ?k_wall ?a_is_whole ?l_is_whole ?c_is_whole ?k_is_whole ?a_everybody ?l_everybody ?c_everybody ?k_everybody ?a_is_group ?l_is_group ?c_is_group ?k_is_group ?a_groups_of ?l_groups_of ?c_groups_of ?k_groups_of ?a_has ?l_has ?c_has ?k_has ?a_members_of ?l_members_of ?c_members_of ?k_members_of ?a_within ?l_within ?c_within ?k_within ?a_Council_init ?i_Council_init ?l_Council_init ?c_Council_init ?k_Council_init ?a_Council_carries ?i_Council_carries ?l_Council_carries ?c_Council_carries ?k_Council_carries ?a_Council_least ?i_Council_least ?l_Council_least ?c_Council_least ?k_Council_least ?a_Council_is_least ?i_Council_is_least ?l_Council_is_least ?c_Council_is_least ?k_Council_is_least ?a_refuse_bad_council ?l_refuse_bad_council ?c_refuse_bad_council ?k_refuse_bad_council ?a_has_one_within ?l_has_one_within ?c_has_one_within ?k_has_one_within ?a_written ?l_written ?c_written ?k_written ?a_group_text ?l_group_text ?c_group_text ?k_group_text ?a_read ?l_read ?c_read ?k_read ?a_members_read ?l_members_read ?c_members_read ?k_members_read ?a_groups_read ?l_groups_read ?c_groups_read ?k_groups_read ?a_law_cell_at ?l_law_cell_at ?c_law_cell_at ?k_law_cell_at ?a_law_draw ?l_law_draw ?c_law_draw ?k_law_draw ?a_law_told ?l_law_told ?c_law_told ?k_law_told ?a_law_table ?l_law_table ?c_law_table ?k_law_table ?a_law_refused ?l_law_refused ?c_law_refused ?k_law_refused ?a_law_group_in ?l_law_group_in ?c_law_group_in ?k_law_group_in ?a_law_in ?l_law_in ?c_law_in ?k_law_in ?a_law_right ?l_law_right ?c_law_right ?k_law_right ?a_law_other ?l_law_other ?c_law_other ?k_law_other ?a_law ?l_law ?c_law ?k_law ?pg_Council ?hd_Council ?po_Council ?sa_Council ?mk_Council ?kc_Council ?xe_CouncilError ?xg_CouncilError ?xn_CouncilError ?xc_CouncilError ?xb_CouncilError ?xo_CouncilError ?xe_BadText ?xg_BadText ?xn_BadText ?xc_BadText ?xb_BadText ?xo_BadText ?xe_BadCouncil ?xe_BadGroup ?xe_NoMember ?xe_Unlike ?xe_BadWeights ?ks_BadText ?ki_BadText_BadCouncil ?ki_BadText_BadGroup ?ki_BadText_NoMember ?ki_BadText_BadWeights ?ki_BadText_Unlike ?ki_BadText_BadText ?ki_BadText_ValueError ?su_BadText_CouncilError ?n_Council_members ?n_Council_table ?g_MOST_MEMBERS ?g_NOBODY ?z_ValueError ?z_all ?z_any ?z_bool ?z_int ?z_isinstance ?z_len ?z_list ?z_range ?z_str ?z_sum ?z_tuple
    (case aC_Council => k_is)
    (case aC_CouncilError => k_is)
    (case aC_BadText => k_is)
    (case aC_BadCouncil => k_is)
    (case aC_BadGroup => k_is)
    (case aC_NoMember => k_is)
    (case aC_Unlike => k_is)
    (case aC_BadWeights => k_is)
    (case a_wall => k_is)
    (case l_wall => k_is)
    (case c_wall => k_is)
    (case k_wall => k_is)
    (case a_is_whole => k_is)
    (case l_is_whole => k_is)
    (case c_is_whole => k_is)
    (case k_is_whole => k_is)
    (case a_everybody => k_is)
    (case l_everybody => k_is)
    (case c_everybody => k_is)
    (case k_everybody => k_is)
    (case a_is_group => k_is)
    (case l_is_group => k_is)
    (case c_is_group => k_is)
    (case k_is_group => k_is)
    (case a_groups_of => k_is)
    (case l_groups_of => k_is)
    (case c_groups_of => k_is)
    (case k_groups_of => k_is)
    (case a_has => k_is)
    (case l_has => k_is)
    (case c_has => k_is)
    (case k_has => k_is)
    (case a_members_of => k_is)
    (case l_members_of => k_is)
    (case c_members_of => k_is)
    (case k_members_of => k_is)
    (case a_within => k_is)
    (case l_within => k_is)
    (case c_within => k_is)
    (case k_within => k_is)
    (case a_Council_init => k_is)
    (case i_Council_init => k_is)
    (case l_Council_init => k_is)
    (case c_Council_init => k_is)
    (case k_Council_init => k_is)
    (case a_Council_carries => k_is)
    (case i_Council_carries => k_is)
    (case l_Council_carries => k_is)
    (case c_Council_carries => k_is)
    (case k_Council_carries => k_is)
    (case a_Council_least => k_is)
    (case i_Council_least => k_is)
    (case l_Council_least => k_is)
    (case c_Council_least => k_is)
    (case k_Council_least => k_is)
    (case a_Council_is_least => k_is)
    (case i_Council_is_least => k_is)
    (case l_Council_is_least => k_is)
    (case c_Council_is_least => k_is)
    (case k_Council_is_least => k_is)
    (case a_refuse_bad_council => k_is)
    (case l_refuse_bad_council => k_is)
    (case c_refuse_bad_council => k_is)
    (case k_refuse_bad_council => k_is)
    (case a_has_one_within => k_is)
    (case l_has_one_within => k_is)
    (case c_has_one_within => k_is)
    (case k_has_one_within => k_is)
    (case a_written => k_is)
    (case l_written => k_is)
    (case c_written => k_is)
    (case k_written => k_is)
    (case a_group_text => k_is)
    (case l_group_text => k_is)
    (case c_group_text => k_is)
    (case k_group_text => k_is)
    (case a_read => k_is)
    (case l_read => k_is)
    (case c_read => k_is)
    (case k_read => k_is)
    (case a_members_read => k_is)
    (case l_members_read => k_is)
    (case c_members_read => k_is)
    (case k_members_read => k_is)
    (case a_groups_read => k_is)
    (case l_groups_read => k_is)
    (case c_groups_read => k_is)
    (case k_groups_read => k_is)
    (case a_law_cell_at => k_is)
    (case l_law_cell_at => k_is)
    (case c_law_cell_at => k_is)
    (case k_law_cell_at => k_is)
    (case a_law_draw => k_is)
    (case l_law_draw => k_is)
    (case c_law_draw => k_is)
    (case k_law_draw => k_is)
    (case a_law_told => k_is)
    (case l_law_told => k_is)
    (case c_law_told => k_is)
    (case k_law_told => k_is)
    (case a_law_table => k_is)
    (case l_law_table => k_is)
    (case c_law_table => k_is)
    (case k_law_table => k_is)
    (case a_law_refused => k_is)
    (case l_law_refused => k_is)
    (case c_law_refused => k_is)
    (case k_law_refused => k_is)
    (case a_law_group_in => k_is)
    (case l_law_group_in => k_is)
    (case c_law_group_in => k_is)
    (case k_law_group_in => k_is)
    (case a_law_in => k_is)
    (case l_law_in => k_is)
    (case c_law_in => k_is)
    (case k_law_in => k_is)
    (case a_law_right => k_is)
    (case l_law_right => k_is)
    (case c_law_right => k_is)
    (case k_law_right => k_is)
    (case a_law_other => k_is)
    (case l_law_other => k_is)
    (case c_law_other => k_is)
    (case k_law_other => k_is)
    (case a_law => k_is)
    (case l_law => k_is)
    (case c_law => k_is)
    (case k_law => k_is)
    (case pg_Council => k_is)
    (case hd_Council => k_is)
    (case po_Council => k_is)
    (case sa_Council => k_is)
    (case mk_Council => k_is)
    (case kc_Council => k_is)
    (case xe_CouncilError => k_exc)
    (case xg_CouncilError => k_is)
    (case xn_CouncilError => k_is)
    (case xc_CouncilError => k_is)
    (case xb_CouncilError => k_is)
    (case xo_CouncilError => k_is)
    (case xe_BadText => k_exc)
    (case xg_BadText => k_is)
    (case xn_BadText => k_is)
    (case xc_BadText => k_is)
    (case xb_BadText => k_is)
    (case xo_BadText => k_is)
    (case xe_BadCouncil => k_exc)
    (case xe_BadGroup => k_exc)
    (case xe_NoMember => k_exc)
    (case xe_Unlike => k_exc)
    (case xe_BadWeights => k_exc)
    (case ks_BadText => k_is)
    (case ki_BadText_BadCouncil => k_is)
    (case ki_BadText_BadGroup => k_is)
    (case ki_BadText_NoMember => k_is)
    (case ki_BadText_BadWeights => k_is)
    (case ki_BadText_Unlike => k_is)
    (case ki_BadText_BadText => k_is)
    (case ki_BadText_ValueError => k_is)
    (case su_BadText_CouncilError => k_is)
    (case n_Council_members => k_is)
    (case n_Council_table => k_is)
    (case g_MOST_MEMBERS => k_is)
    (case g_NOBODY => k_is)
    (case z_ValueError => k_is)
    (case z_all => k_is)
    (case z_any => k_is)
    (case z_bool => k_is)
    (case z_int => k_is)
    (case z_isinstance => k_is)
    (case z_len => k_is)
    (case z_list => k_is)
    (case z_range => k_is)
    (case z_str => k_is)
    (case z_sum => k_is)
    (case z_tuple => k_is)
