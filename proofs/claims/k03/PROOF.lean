import PyProof.Rows.All
import Wide.All
import OpenK.AllK
import Wide.FinOn
import Lean
import PyProof.EqAt
import PyProof.EqKinds
import PyProof.TupleCall
import PyProof.Rows.BitMore
import KE.KDictSum
import PyProof.Rows.SetFrom
import PyProof.ForAny
import PySem.Challenge.RW_weighvote_k03_whole_telling
set_option Elab.async false
set_option linter.all false
set_option maxRecDepth 100000
/-! THE HAND LAYER, for ints, bools, texts, own classes, LISTS and tuples (index, slices, in, append, pop ..), calls, loops. Paste it whole ahead of your own text; what your proof does not reach may be deleted. -/
namespace L2
open PySem PySem.Spec PyProof.Rows

/-- a key: an int or a str -/
abbrev Key := Sum Int Str
def keyIs : Key → Value → Bool
  | .inl k, v => Value.isInt k v
  | .inr x, v => Value.isStrOf x v
def keyH (w : World) : Key → Int
  | .inl k => hashInt k
  | .inr x => hashStr w x
theorem keyIs_shape : ∀ {k : Key} {v : Value}, keyIs k v = true → (∃ i t, k = Sum.inl i ∧ v = Value.int i t) ∨ (∃ x t, k = Sum.inr x ∧ v = Value.str x t)
  | .inl i, v, h => by
    obtain ⟨t, e⟩ := Value.isInt_shape (k := i) (v := v) h
    exact .inl ⟨i, t, rfl, e⟩
  | .inr x, v, h => by
    obtain ⟨t, e⟩ := Value.isStrOf_shape (x := x) (v := v) h
    exact .inr ⟨x, t, rfl, e⟩
theorem key_ll (a b : Int) : decide ((Sum.inl a : Key) = Sum.inl b) = (a == b) := by
  by_cases e : a = b
  · subst e; simp
  · have h : ¬ (Sum.inl a : Key) = Sum.inl b := fun q => e (Sum.inl.inj q)
    rw [decide_eq_false h]
    exact (beq_eq_false_iff_ne.mpr e).symm
theorem key_rr (a b : Str) : decide ((Sum.inr a : Key) = Sum.inr b) = decide (a = b) := by
  by_cases e : a = b
  · subst e; simp
  · have h : ¬ (Sum.inr a : Key) = Sum.inr b := fun q => e (Sum.inr.inj q)
    rw [decide_eq_false h, decide_eq_false e]
theorem key_lr (a : Int) (b : Str) : decide ((Sum.inl a : Key) = Sum.inr b) = false := decide_eq_false (fun q => nomatch q)
theorem key_rl (a : Str) (b : Int) : decide ((Sum.inr a : Key) = Sum.inl b) = false := decide_eq_false (fun q => nomatch q)

def mixKind (prog : Program) (w : World) : PySem.KeyKind prog w Key where
  is := keyIs
  hash := keyH w
  inj := fun v a b ha hb => by
    rcases keyIs_shape ha with ⟨i, t, rfl, rfl⟩ | ⟨x, t, rfl, rfl⟩
    · rcases keyIs_shape hb with ⟨j, u, rfl, e⟩ | ⟨y, u, rfl, e⟩
      · injection e with e1 _; rw [e1]
      · exact nomatch e
    · rcases keyIs_shape hb with ⟨j, u, rfl, e⟩ | ⟨y, u, rfl, e⟩
      · exact nomatch e
      · injection e with e1 _; rw [e1]
  byValue := fun k v h => by
    rcases keyIs_shape h with ⟨i, t, rfl, rfl⟩ | ⟨x, t, rfl, rfl⟩ <;> rfl
  pyHash := fun hv h => by
    rcases keyIs_shape hv with ⟨i, t, rfl, rfl⟩ | ⟨x, t, rfl, rfl⟩
    · exact wpAny_pyHash_int h
    · exact wpAny_pyHash_str h
  eqBool := fun hu hv h => by
    rcases keyIs_shape hu with ⟨i, t, rfl, rfl⟩ | ⟨x, t, rfl, rfl⟩
    · rcases keyIs_shape hv with ⟨j, u, rfl, rfl⟩ | ⟨y, u, rfl, rfl⟩
      · rw [key_ll] at h; exact wpAny_eqBool_int h
      · rw [key_lr] at h; exact SeqAt.EqAt.int_str i t y u _ _ _ _ h
    · rcases keyIs_shape hv with ⟨j, u, rfl, rfl⟩ | ⟨y, u, rfl, rfl⟩
      · rw [key_rl] at h; exact SeqAt.EqAt.str_int x t j u _ _ _ _ h
      · rw [key_rr] at h; exact wpAny_eqBool_str h
  «strs» := fun k x t v h => by
    rcases keyIs_shape h with ⟨i, u, rfl, e⟩ | ⟨y, u, rfl, e⟩
    · exact nomatch e
    · injection e with e1 _
      subst e1
      cases v <;> rfl

end L2

namespace L2
open PySem PySem.Spec PyProof.Rows

/-- a value, without the heap -/
inductive V where
  | non | bl (b : Bool) | int (i : Int) | str (x : Str) | byt (b : Array UInt8) | flt (b : UInt64) | ref (a : Addr) | ty (n : String)
  deriving DecidableEq

def RelV : V → Value → Prop
  | .non, u => u = Value.none
  | .bl b, u => u = Value.bool b
  | .int i, u => ∃ t, u = Value.int i t
  | .str x, u => ∃ t, u = Value.str x t
  | .byt b, u => ∃ t, u = Value.bytes b t
  | .flt b, u => ∃ t, u = Value.float b t
  | .ref a, u => u = Value.ref a
  | .ty n, u => u = Value.type n

abbrev Vals : List V → List Value → Prop := Paired RelV
theorem Vals.length {xs : List V} {us : List Value} (r : Vals xs us) : xs.length = us.length := Paired.length r
theorem Vals.get : ∀ {xs : List V} {us : List Value} {i : Nat} {x : V}, Vals xs us → xs[i]? = some x → ∃ u, us[i]? = some u ∧ RelV x u
  | _, _, _, _, .nil, e => by simp at e
  | _, _, 0, _, .cons r _, e => by simp at e; subst e; exact ⟨_, rfl, r⟩
  | _, _, i + 1, x, .cons _ t, e => by
    obtain ⟨u, h1, h2⟩ := Vals.get (i := i) (x := x) t (by simpa using e)
    exact ⟨u, by simpa using h1, h2⟩
theorem Vals.set {x : V} {u : Value} (r : RelV x u) : ∀ {xs : List V} {us : List Value} (i : Nat), Vals xs us → Vals (xs.set i x) (us.set i u)
  | _, _, _, .nil => .nil
  | _, _, 0, .cons _ t => .cons r t
  | _, _, i + 1, .cons q t => .cons q (Vals.set r i t)
theorem Vals.append : ∀ {xs ys : List V} {us ws : List Value}, Vals xs us → Vals ys ws → Vals (xs ++ ys) (us ++ ws)
  | _, _, _, _, .nil, s => s
  | _, _, _, _, .cons r t, s => .cons r (Vals.append t s)
theorem Vals.take : ∀ {xs : List V} {us : List Value} (n : Nat), Vals xs us → Vals (xs.take n) (us.take n)
  | _, _, 0, _ => .nil
  | _, _, _ + 1, .nil => .nil
  | _, _, n + 1, .cons r t => .cons r (Vals.take n t)
theorem Vals.drop : ∀ {xs : List V} {us : List Value} (n : Nat), Vals xs us → Vals (xs.drop n) (us.drop n)
  | _, _, 0, r => r
  | _, _, _ + 1, .nil => .nil
  | _, _, n + 1, .cons _ t => Vals.drop n t
def RelO : Option V → Option Value → Prop
  | some v, some u => RelV v u
  | none, none => True
  | _, _ => False
def KV {κ : Type} : List (κ × V) → List (κ × Value) → Prop := Paired fun (p : κ × V) (q : κ × Value) => p.1 = q.1 ∧ RelV p.2 q.2

/-- a key of a dict (00_mix): an int or a text -/
def kV : Key → V
  | .inl i => .int i
  | .inr x => .str x

/-- what stands at a tracked address -/
inductive HO where
  /-- a list -/
  | lst (xs : List V)
  /-- a tuple (never changes) -/
  | tup (xs : List V)
  /-- a dict whose keys are ints and texts; one whose keys are tuples of ints and texts (the empty one is both) -/
  | dK (kvs : List (Key × V)) | dT (kvs : List (List Key × V))
  /-- a set of ints: its members, its size -/
  | set (S : Int → Bool) (n : Nat)
  /-- an instance of the class at C, its dict at dx, its attributes -/
  | ins (C dx : Addr) (fs : List (Str × V))
  /-- the dict of the instance at x -/
  | own (x : Addr)
  /-- the dict of an exception -/
  | xd (fs : List (Str × V))
  /-- a bound method, f of x -/
  | met (f x : Addr)
  /-- a range object lo, lo + 1, .. below hi -/
  | rng (lo hi : Int)
  /-- a thing that is known to the object (the script; a dict while a loop walks it): read, never written while it is so -/
  | frz (o : Obj) (u : HO)
  /-- a code object's table -/
  | tbl (ps : Array Value)
  /-- any other thing, by what is true of its one object (a def of one's own: SetO a S n := HO.ext fun h => ..) -/
  | ext (φ : Heap → Prop)

abbrev Hp := Addr → Option HO
def upd (H : Hp) (a : Addr) (o : HO) : Hp := fun b => if b = a then some o else H b
theorem upd_same {H : Hp} {a : Addr} {o : HO} : upd H a o a = some o := by unfold upd; rw [if_pos rfl]
theorem upd_ne {H : Hp} {a b : Addr} {o : HO} (h : b ≠ a) : upd H a o b = H b := by unfold upd; rw [if_neg h]
/-- two objects of different content stand apart -/
theorem ne_of {H : Hp} {a b : Addr} {o u : HO} (h : H a = some o) (h' : H b = some u) (d : o ≠ u) : a ≠ b := by
  intro e; subst e; rw [h] at h'; exact d (Option.some.inj h')
theorem ne_of_none {H : Hp} {a b : Addr} {o : HO} (h : H a = some o) (h' : H b = none) : a ≠ b := by
  intro e; subst e; rw [h] at h'; cases h'

section
variable (P : Program) (w : World)
def ObjOk (H : Hp) (h : Heap) (a : Addr) : HO → Prop
  | .lst xs => xs.length ≤ sizeLine ∧ ∃ (its : List Value) (n : Nat), Vals xs its ∧ h.get? a = some { cls := .type "list", data := .seq its.toArray n }
  | .tup xs => xs.length ≤ sizeLine ∧ ∃ its : List Value, Vals xs its ∧ IsTup h a its.toArray
  | .dK kvs => kvs.length ≤ sizeLine ∧ (a == sysModules) = false ∧ ∃ vs, KV kvs vs ∧ h.DictOf (mixKind P w) a vs
  | .dT kvs => kvs.length ≤ sizeLine ∧ (a == sysModules) = false ∧ ∃ xs : List (List Key × Addr × Value),
      Paired (fun (p : List Key × V) (q : List Key × Addr × Value) => p.1 = q.1 ∧ H q.2.1 = some (.tup (p.1.map kV)) ∧ RelV p.2 q.2.2) kvs xs ∧
      ∃ o es ep, h.get? a = some o ∧ o.ExactDict ∧ o.data = .dict es ep ∧ es.toList = xs.map (entryOfKey (tupleKind (mixKind P w))) ∧ (xs.map (·.1)).Nodup
  | .set S n => h.SetOf (intKind P w) a S n
  | .ins C dx fs => H dx = some (.own a) ∧ fs.length ≤ 1000 ∧ dx ≠ a ∧ h.get? a = some (PySem.W.instObj C dx) ∧
      ∃ mA, h.Ns1 dx mA ∧ (∀ f, RelO (fs.lookup f) (mA f)) ∧ PySem.Within mA (fs.map (·.1))
  | .own _ => ∃ o, h.get? a = some o
  | .xd fs => ∃ mA, h.Ns1 a mA ∧ ∀ f, RelO (fs.lookup f) (mA f)
  | .rng lo hi => ∃ t u v, h.get? a = some { cls := .type "range", data := .fields #[.int lo t, .int hi u, .int 1 v] }
  | .frz o u => h.get? a = some o ∧ ObjOk H h a u
  | .tbl ps => h.get? a = some { cls := .none, data := .fields ps }
  | .met f x => h.get? a = some (PySem.W.methodObj (.ref f) (.ref x))
  | .ext φ => φ h ∧ (∃ o, h.get? a = some o) ∧ ∀ h1 h2 : Heap, φ h1 → (∀ o, h1.get? a = some o → h2.get? a = some o) → φ h2
/-- the abstract heap is held -/
def HOk (H : Hp) (h : Heap) : Prop := ∀ a o, H a = some o → ObjOk P w H h a o
end

section
variable {P : Program} {w : World} {H H' : Hp} {h h' : Heap} {a : Addr} {o : HO}
theorem ObjOk.lt (x : ObjOk P w H h a o) : a < h.objs.size := by
  cases o with
  | lst xs => obtain ⟨_, _, _, _, e⟩ := x; exact Heap.lt_size e
  | tup xs => obtain ⟨_, _, _, p⟩ := x; exact p.lt
  | dK kvs => obtain ⟨_, _, _, _, o, _, _, e, _⟩ := x; exact Heap.lt_size e
  | dT kvs => obtain ⟨_, _, _, _, o, _, _, e, _⟩ := x; exact Heap.lt_size e
  | set S n => obtain ⟨o, _, _, _, e, _⟩ := x; exact Heap.lt_size e
  | ins C dx fs => obtain ⟨_, _, _, e, _⟩ := x; exact Heap.lt_size e
  | own y => obtain ⟨_, e⟩ := x; exact Heap.lt_size e
  | xd fs => obtain ⟨_, ⟨_, _, _, e, _⟩, _⟩ := x; exact Heap.lt_size e
  | rng lo hi => obtain ⟨_, _, _, e⟩ := x; exact Heap.lt_size e
  | frz ob u => obtain ⟨e, _⟩ := x; exact Heap.lt_size e
  | tbl ps => exact Heap.lt_size (show h.get? a = some _ from x)
  | met f y => exact Heap.lt_size (show h.get? a = some _ from x)
  | ext φ => obtain ⟨_, ⟨_, e⟩, _⟩ := x; exact Heap.lt_size e
theorem Paired.mapP {α β : Type} {F G : α → β → Prop} : ∀ {l₁ : List α} {l₂ : List β}, Paired F l₁ l₂ → (∀ a b, F a b → G a b) → Paired G l₁ l₂
  | _, _, .nil, _ => .nil
  | _, _, .cons r t, f => .cons (f _ _ r) (Paired.mapP t f)
/-- what an object's description leans on: its own object, its own dict, the tuples -/
theorem ObjOk.stay (x : ObjOk P w H h a o) (k : ∀ b u, (b = a ∨ H b = some (.own a)) → h.get? b = some u → h'.get? b = some u)
    (ho : ∀ b, H b = some (.own a) → H' b = some (.own a)) (ht : ∀ b xs, H b = some (.tup xs) → H' b = some (.tup xs)) : ObjOk P w H' h' a o := by
  induction o with
  | lst xs => obtain ⟨z, its, n, r, e⟩ := x; exact ⟨z, its, n, r, k _ _ (.inl rfl) e⟩
  | tup xs => obtain ⟨z, its, r, ob, e, c⟩ := x; exact ⟨z, its, r, ob, k _ _ (.inl rfl) e, c⟩
  | dK kvs => obtain ⟨z, y, vs, r, ob, es, ep, e, c⟩ := x; exact ⟨z, y, vs, r, ob, es, ep, k _ _ (.inl rfl) e, c⟩
  | dT kvs =>
    obtain ⟨z, y, xs, r, ob, es, ep, e, c⟩ := x
    exact ⟨z, y, xs, Paired.mapP r fun p q z => ⟨z.1, ht _ _ z.2.1, z.2.2⟩, ob, es, ep, k _ _ (.inl rfl) e, c⟩
  | set S n => obtain ⟨ob, es, ep, t, e, c⟩ := x; exact ⟨ob, es, ep, t, k _ _ (.inl rfl) e, c⟩
  | ins C dx fs =>
    obtain ⟨d, z, ne, e, mA, ⟨od, es, ep, e2, c⟩, r⟩ := x
    exact ⟨ho _ d, z, ne, k _ _ (.inl rfl) e, mA, ⟨od, es, ep, k _ _ (.inr d) e2, c⟩, r⟩
  | own y => obtain ⟨ob, e⟩ := x; exact ⟨ob, k _ _ (.inl rfl) e⟩
  | xd fs => obtain ⟨mA, ⟨od, es, ep, e, c⟩, r⟩ := x; exact ⟨mA, ⟨od, es, ep, k _ _ (.inl rfl) e, c⟩, r⟩
  | rng lo hi => obtain ⟨t, u, v, e⟩ := x; exact ⟨t, u, v, k _ _ (.inl rfl) e⟩
  | frz ob u ih => obtain ⟨e, q⟩ := x; exact ⟨k _ _ (.inl rfl) e, ih q⟩
  | tbl ps =>
    have e : h.get? a = some { cls := .none, data := .fields ps } := x
    show h'.get? a = some { cls := .none, data := .fields ps }
    exact k a _ (.inl rfl) e
  | met f y =>
    have e : h.get? a = some (PySem.W.methodObj (.ref f) (.ref y)) := x
    show h'.get? a = some (PySem.W.methodObj (.ref f) (.ref y))
    exact k a _ (.inl rfl) e
  | ext φ => obtain ⟨p, ⟨o, e⟩, st⟩ := x; exact ⟨st _ _ p fun o q => k _ _ (.inl rfl) q, ⟨o, k _ _ (.inl rfl) e⟩, st⟩
theorem HOk.lt (x : HOk P w H h) (e : H a = some o) : a < h.objs.size := (x a o e).lt
theorem HOk.fresh (x : HOk P w H h) (e : h.objs.size ≤ a) : H a = none := by
  cases q : H a with
  | none => rfl
  | some u => exact absurd (Nat.lt_of_lt_of_le (x.lt q) e) (Nat.lt_irrefl _)
/-- every object of the heap is kept -/
theorem HOk.kept (x : HOk P w H h) (k : ∀ b u, h.get? b = some u → h'.get? b = some u) : HOk P w H h' := fun a o e =>
  (x a o e).stay (fun b u _ q => k b u q) (fun _ q => q) fun _ _ q => q
/-- a new object is laid and tracked -/
theorem HOk.laid (x : HOk P w H h) (k : ∀ b u, h.get? b = some u → h'.get? b = some u) (hp : h.objs.size ≤ a) (new : ObjOk P w (upd H a o) h' a o) : HOk P w (upd H a o) h' := fun b u e => by
  have hn := x.fresh hp
  by_cases hb : b = a
  · subst hb; rw [upd_same] at e; cases e; exact new
  · rw [upd_ne hb] at e
    exact (x b u e).stay (fun c v _ q => k c v q) (fun c q => by rw [upd_ne (ne_of_none q hn)]; exact q) fun c xs q => by rw [upd_ne (ne_of_none q hn)]; exact q
end

/-- what may be read as u: it is u, or a known u -/
def Rd (H : Hp) (a : Addr) (u : HO) : Prop := H a = some u ∨ ∃ o, H a = some (.frz o u)
theorem Rd.ok {P : Program} {w : World} {H : Hp} {h : Heap} {a : Addr} {u : HO} (r : Rd H a u) (x : HOk P w H h) : ObjOk P w H h a u := by
  rcases r with r | ⟨o, r⟩
  · exact x a u r
  · obtain ⟨_, q⟩ := x a _ r
    exact q
/-- what may be written -/
def Mut : Option HO → Prop
  | some (.lst _) => True
  | some (.dK _) => True
  | some (.dT _) => True
  | some (.set _ _) => True
  | some (.ins _ _ _) => True
  | some (.ext _) => True
  | _ => False
section
variable {P : Program} {w : World} {H : Hp} {h h' : Heap} {x e : Addr} {o' : HO}
/-- the object at e is changed: x itself, or the dict of the instance x -/
theorem HOk.write (ok : HOk P w H h) (mu : Mut (H x)) (he : e = x ∨ H e = some (.own x)) (k : ∀ b u, b ≠ e → h.get? b = some u → h'.get? b = some u) (heo : ∃ u, h'.get? e = some u)
    (new : ObjOk P w (upd H x o') h' x o') : HOk P w (upd H x o') h' := fun b u q => by
  have nown : ∀ c y, H c = some (.own y) → c ≠ x := fun c y r z => by subst z; rw [r] at mu; exact mu
  have ntup : ∀ c xs, H c = some (.tup xs) → c ≠ x := fun c xs r z => by subst z; rw [r] at mu; exact mu
  by_cases hb : b = x
  · subst hb; rw [upd_same] at q; cases q; exact new
  · rw [upd_ne hb] at q
    by_cases hbe : b = e
    · have q' : H b = some (.own x) := by
        rcases he with z | z
        · exact absurd (hbe.trans z) hb
        · rw [hbe]; exact z
      rw [q] at q'; cases q'
      obtain ⟨v, hv⟩ := heo
      exact ⟨v, by rw [hbe]; exact hv⟩
    · refine (ok b u q).stay (fun c v hc r => k c v ?_ r) (fun c r => by rw [upd_ne (nown c b r)]; exact r) fun c xs r => by rw [upd_ne (ntup c xs r)]; exact r
      rcases hc with rfl | hc
      · exact hbe
      · rintro rfl
        rcases he with z | z
        · exact nown c b hc z
        · rw [hc] at z; cases z; exact hb rfl
end

/-! ### kept unless tracked; of the frames at fs (the callers') the slots may change (an exception that passes writes there); of the records at ex (iterators) nothing is said -/
structure Un (fs ex : List Addr) (H H' : Hp) (h h' : Heap) : Prop where
  keep : ∀ b o, h.get? b = some o → H b = none → b ∉ fs → b ∉ ex → h'.get? b = some o
  slot : ∀ b o, h.get? b = some o → H b = none → b ∈ fs → b ∉ ex → ∃ sl, h'.get? b = some { o with slots := sl }
  free : ∀ b o, h.get? b = some o → H b = none → b ∉ ex → H' b = none
  there : ∀ b o, h.get? b = some o → b ∉ ex → ∃ o', h'.get? b = some o'
  tups : ∀ b xs, H b = some (.tup xs) → H' b = some (.tup xs)
  frzs : ∀ b o u, H b = some (.frz o u) → H' b = some (.frz o u)
  tbls : ∀ b ps, H b = some (.tbl ps) → ∃ more, H' b = some (.tbl (ps ++ more))
section
variable {fs fs' ex ex' : List Addr} {H H1 H2 : Hp} {h h1 h2 h' : Heap} {a x e : Addr} {o : HO}
theorem Un.any (u : Un fs ex H H1 h h1) {b : Addr} {ob : Obj} (q : h.get? b = some ob) (n : H b = none) (hx : b ∉ ex) : ∃ sl, h1.get? b = some { ob with slots := sl } := by
  by_cases hb : b ∈ fs
  · exact u.slot b ob q n hb hx
  · exact ⟨ob.slots, u.keep b ob q n hb hx⟩
theorem Un.kept (k : ∀ b u, h.get? b = some u → h'.get? b = some u) : Un fs ex H H h h' :=
  ⟨fun b ob q _ _ _ => k b ob q, fun b ob q _ _ _ => ⟨ob.slots, k b ob q⟩, fun _ _ _ n _ => n, fun b ob q _ => ⟨ob, k b ob q⟩, fun _ _ q => q, fun _ _ _ q => q, fun _ ps q => ⟨#[], by rw [q]; simp⟩⟩
theorem Un.refl : Un fs ex H H h h := Un.kept fun _ _ q => q
theorem Un.laid (k : ∀ b u, h.get? b = some u → h'.get? b = some u) (hp : h.objs.size ≤ a) (hn : H a = none) : Un fs ex H (upd H a o) h h' where
  keep := fun b u q _ _ _ => k b u q
  slot := fun b u q _ _ _ => ⟨u.slots, k b u q⟩
  free := fun b u q n _ => by rw [upd_ne (Nat.ne_of_lt (Nat.lt_of_lt_of_le (Heap.lt_size q) hp))]; exact n
  there := fun b u q _ => ⟨u, k b u q⟩
  tups := fun b xs q => by rw [upd_ne (ne_of_none q hn)]; exact q
  frzs := fun b u xs q => by rw [upd_ne (ne_of_none q hn)]; exact q
  tbls := fun b ps q => ⟨#[], by rw [upd_ne (ne_of_none q hn), q]; simp⟩
theorem Un.write (mu : Mut (H x)) (he : e = x ∨ H e = some (.own x)) (k : ∀ b u, b ≠ e → h.get? b = some u → h'.get? b = some u) (heo : ∃ u, h'.get? e = some u) : Un fs ex H (upd H x o) h h' := by
  have hx : ∀ b, H b = none → b ≠ x := fun b n z => by subst z; rw [n] at mu; exact mu
  have hb : ∀ b, H b = none → b ≠ e := fun b n z => by
    subst z
    rcases he with r | r
    · exact hx b n r
    · rw [n] at r; cases r
  have hm : ∀ b u, H b = some u → ¬ Mut (some u) → b ≠ x := fun b u q nm z => by subst z; rw [q] at mu; exact nm mu
  refine ⟨fun b u q n _ _ => k b u (hb b n) q, fun b u q n _ _ => ⟨u.slots, k b u (hb b n) q⟩, fun b u q n _ => by rw [upd_ne (hx b n)]; exact n, fun b u q _ => ?_,
    fun b xs q => by rw [upd_ne (hm b _ q fun z => z)]; exact q, fun b u xs q => by rw [upd_ne (hm b _ q fun z => z)]; exact q, fun b ps q => ⟨#[], by rw [upd_ne (hm b _ q fun z => z), q]; simp⟩⟩
  by_cases hbe : b = e
  · subst hbe; exact heo
  · exact ⟨u, k b u hbe q⟩
end

/-! ### the heap without what is tracked -/
def trk (h : Heap) (H : Hp) : List Addr := (List.range h.objs.size).filter fun a => (H a).isSome
def hidT (h : Heap) (H : Hp) : Heap := PySem.W.hideAll h (trk h H)
theorem hidT_size (h : Heap) (H : Hp) : (hidT h H).objs.size = h.objs.size := PySem.W.hideAll_size _ _
theorem hidT_get {h : Heap} {H : Hp} {b : Addr} {o : Obj} (e : h.get? b = some o) (n : H b = none) : (hidT h H).get? b = some o :=
  PySem.W.hideAll_get _ e fun hm => by
    have q : (H b).isSome = true := (List.mem_filter.mp hm).2
    rw [n] at q; simp at q
theorem of_hidT {h : Heap} {H : Hp} {b : Addr} {o : Obj} (e : (hidT h H).get? b = some o) : h.get? b = some o ∧ H b = none := by
  have e' : h.get? b = some o := PySem.W.of_hideAll (trk h H) e
  refine ⟨e', ?_⟩
  cases q : H b with
  | none => rfl
  | some x =>
    have hm : b ∈ trk h H := List.mem_filter.mpr ⟨List.mem_range.mpr (Heap.lt_size e'), by simp [q]⟩
    have z : (hidT h H).get? b = none := PySem.W.hideAll_none (trk h H) hm
    rw [z] at e; cases e

/-! ### OpenK's ledger, filled with every new object but one -/
def allNews (g h : Heap) (L : Addr) : List (Addr × Obj) := (List.range h.objs.size).filterMap fun a => if a = L ∨ (g.get? a).isSome = true then none else (h.get? a).map fun o => (a, o)
def rest (g h : Heap) (L d : Addr) : List (Addr × Obj) := (allNews g h L).filter fun p => decide (p.1 ≠ d)
end L2

namespace L2
open PySem PySem.Spec PyProof.Rows

/-- the module's facts, over the base: the heap at the law's entry without what is tracked there -/
structure Mod (K : PySem.W.Frag) (mg : Str → Option Value) (base : Heap) : Prop where
  kin : K.In base
  glob : base.Ns mainGlobals mg
  blt : ∃ mb, base.Ns builtinsNs mb ∧ ∀ x : Str, x ≠ "__name__" → mb x = bootBuiltins x
  nolimit : base.NoLimit

/-- the context: a def's body (or a comprehension's block) running. base: fixed through the whole law; s₀, H₀: the entry; outer: the frames whose slots others may change (a def's callers); stack: all frames that run;
   ex: iterators that were made ahead of the entry and are walked here (a comprehension's); fn: the names whose cells were made at the entry (a def: all; a comprehension's block: its own); calm: not within an except suite; pn: pins that every state bears; xe: what is wanted of an exception that leaves the code -/
structure Cx where
  prog : Program
  w : World
  K : PySem.W.Frag
  mg : Str → Option Value
  base : Heap
  A : Around
  N : List Str
  s₀ : Shared
  H₀ : Hp
  env : Env
  outer : List Env
  stack : List Env
  ex : List Addr
  fn : Str → Bool
  calm : Bool
  pn : List (Addr × Obj)
  xe : Value → Shared → Prop
/-- the callers' frames -/
def frs (l : List Env) : List Addr := l.filterMap (·.frame)
abbrev Cx.fs (X : Cx) : List Addr := frs X.outer

def Vis (sc : Scope) (x : Str) : Prop := sc.names.lookup x = some .local ∨ sc.names.lookup x = some .cell ∨ sc.names.lookup x = some .free
def Loc (sc : Scope) (x : Str) : Prop := sc.names.lookup x = some .local ∨ sc.names.lookup x = some .cell
def Look (env : Env) (h : Heap) (m : Str → Option Value) (x : Str) (u : Value) : Prop :=
  (env.kindOf x = some .local ∧ m x = some u) ∨ ((env.kindOf x = some .cell ∨ env.kindOf x = some .free) ∧ ∃ c, env.cells.lookup x = some c ∧ h.IsCell c (some u))

structure Cx.Ok (X : Cx) : Prop where
  mod : Mod X.K X.mg X.base
  kind : X.env.scope.kind = .function
  glob : X.env.globals = mainGlobals
  blt : X.env.builtins = builtinsNs
  above : X.s₀.heap.objs.size ≤ X.env.locals
  inj : ∀ x y c, X.env.cells.lookup x = some c → X.env.cells.lookup y = some c → x = y
  has : ∀ x, (X.env.kindOf x = some .cell ∨ X.env.kindOf x = some .free) → ∃ c, X.env.cells.lookup x = some c
  cab : ∀ x c, X.fn x = true → X.env.cells.lookup x = some c → X.s₀.heap.objs.size ≤ c
  hd : X.calm = true → X.A.handled = none
  frames : X.A.frames = some X.stack
  stk : X.stack = X.outer ∨ (X.stack = X.env :: X.outer ∧ X.env.frame = some X.env.locals)
  exf : ∀ b ∈ X.ex, b ≠ X.env.locals ∧ ∀ x c, X.env.cells.lookup x = some c → c ≠ b
  bs : ∀ b o, X.base.get? b = some o → X.s₀.heap.get? b = some o ∧ X.H₀ b = none
  bsz : X.base.objs.size ≤ X.s₀.heap.objs.size
  noex : ∀ b o, X.base.get? b = some o → b ∉ X.ex
  exfs : ∀ b ∈ X.ex, b ∉ X.fs
  funs : X.s₀.heap.FunFrames X.base X.outer
  frf : ∀ b ∈ X.fs, X.H₀ b = none

structure Inv (X : Cx) (pins : List (Addr × Obj)) (σ : List (Option V)) (H : Hp) (s : Shared) : Prop where
  ok : X.Ok
  os : s.os = X.s₀.os
  bare : AllBare s.gens
  base : Un X.fs X.ex X.H₀ H X.s₀.heap s.heap
  loc : ∃ m, s.heap.Ns X.env.locals m ∧ ∀ (i : Nat) (x : Str) (v : V), X.N[i]? = some x → σ[i]? = some (some v) → Vis X.env.scope x → ∃ u, RelV v u ∧ Look X.env s.heap m x u
  cell : ∀ x c, X.env.cells.lookup x = some c → ∃ v, s.heap.IsCell c v
  free : H X.env.locals = none
  freeC : ∀ x c, X.env.cells.lookup x = some c → H c = none
  pin : ∀ p ∈ X.pn ++ pins, s.heap.get? p.1 = some p.2 ∧ H p.1 = none ∧ p.1 ≠ X.env.locals ∧ p.1 ∉ X.fs ∧ ∀ v, p.2.data ≠ .cell v
  hok : HOk X.prog X.w H s.heap
  len : σ.length = X.N.length

section
variable {X : Cx} {pins : List (Addr × Obj)} {σ : List (Option V)} {H H' : Hp} {s : Shared} {h' : Heap}

theorem Cx.Ok.nofr (ok : X.Ok) {b : Addr} {o : Obj} (e : X.base.get? b = some o) : b ∉ X.fs := fun hb => by
  have := (ok.funs.mem hb).1
  rw [e] at this; cases this
theorem Inv.bs (I : Inv X pins σ H s) : ∀ b o, X.base.get? b = some o → s.heap.get? b = some o ∧ H b = none := fun b o e =>
  ⟨I.base.keep b o (I.ok.bs b o e).1 (I.ok.bs b o e).2 (I.ok.nofr e) (I.ok.noex b o e), I.base.free b o (I.ok.bs b o e).1 (I.ok.bs b o e).2 (I.ok.noex b o e)⟩
theorem Inv.bk (I : Inv X pins σ H s) : ∀ b o, X.base.get? b = some o → s.heap.get? b = some o := fun b o e => (I.bs b o e).1
theorem Inv.mod (I : Inv X pins σ H s) : Mod X.K X.mg X.base := I.ok.mod
theorem Inv.kIn (I : Inv X pins σ H s) : X.K.In s.heap := I.ok.mod.kin.keeps I.bk
theorem Inv.nolimit (I : Inv X pins σ H s) : s.heap.NoLimit := I.ok.mod.nolimit.keeps I.bk
theorem Inv.lt (I : Inv X pins σ H s) : X.env.locals < s.heap.objs.size := let ⟨_, hn, _⟩ := I.loc; hn.lt
theorem Inv.sz (I : Inv X pins σ H s) : X.s₀.heap.objs.size ≤ s.heap.objs.size := Nat.le_trans I.ok.above (Nat.le_of_lt I.lt)
theorem Inv.nofs (I : Inv X pins σ H s) {a : Addr} (h : s.heap.objs.size ≤ a) : a ∉ X.fs := fun hb => by
  obtain ⟨_, o, ho, _⟩ := I.ok.funs.mem hb
  exact absurd (Nat.lt_of_lt_of_le (Heap.lt_size ho) (Nat.le_trans I.sz h)) (Nat.lt_irrefl _)
theorem Inv.cne (I : Inv X pins σ H s) : ∀ x c, X.env.cells.lookup x = some c → c ≠ X.env.locals := fun x c e z => by
  obtain ⟨v, o, ho, hd⟩ := I.cell x c e
  obtain ⟨m, ⟨o', es, ep, ho', hd', _⟩, _⟩ := I.loc
  rw [z, ho'] at ho; cases ho; rw [hd'] at hd; cases hd
theorem Inv.funs (I : Inv X pins σ H s) : s.heap.FunFrames X.base X.outer := by
  have all : ∀ (l : List Env), (∀ b ∈ frs l, b ∈ X.fs) → X.s₀.heap.FunFrames X.base l → s.heap.FunFrames X.base l := by
    intro l
    induction l with
    | nil => intro _ _; trivial
    | cons env r ih =>
      intro hs hl
      obtain ⟨hk, ⟨L, o, hf, hn, ho, hd⟩, hr⟩ := hl
      have hL : L ∈ X.fs := hs L (by unfold frs; rw [List.filterMap_cons, hf]; exact List.mem_cons_self)
      obtain ⟨sl, e⟩ := I.base.slot L o ho (I.ok.frf L hL) hL fun z => I.ok.exfs L z hL
      exact ⟨hk, ⟨L, _, hf, hn, e, hd⟩, ih (fun b hb => hs b (by unfold frs; rw [List.filterMap_cons, hf]; exact List.mem_cons_of_mem _ hb)) hr⟩
  exact all X.outer (fun _ hb => hb) I.ok.funs

/-- the frames that run, for a call -/
theorem Inv.stack (I : Inv X pins σ H s) : s.heap.FunFrames X.base X.stack := by
  rcases I.ok.stk with e | ⟨e, hf⟩
  · rw [e]; exact I.funs
  · rw [e]
    obtain ⟨m, hn, _⟩ := I.loc
    refine .cons (by rw [I.ok.kind]; decide) hf hn ?_ I.funs
    exact Heap.get?_none_of_le (Nat.le_trans I.ok.bsz I.ok.above)
theorem Inv.stkSub (I : Inv X pins σ H s) : ∀ b ∈ frs X.stack, b ∈ X.env.locals :: X.fs := fun b hb => by
  rcases I.ok.stk with e | ⟨e, hf⟩
  · rw [e] at hb; exact List.mem_cons_of_mem _ hb
  · rw [e] at hb
    unfold frs at hb
    rw [List.filterMap_cons, hf] at hb
    exact hb
theorem Inv.stkFree (I : Inv X pins σ H s) : ∀ b ∈ frs X.stack, H b = none := fun b hb => by
  rcases List.mem_cons.mp (I.stkSub b hb) with e | hb
  · rw [e]; exact I.free
  · obtain ⟨_, o, ho, _⟩ := I.ok.funs.mem hb
    exact I.base.free b o ho (I.ok.frf b hb) fun z => I.ok.exfs b z hb

/-- THE STEP: the untracked objects but the frame and the records at ch are kept (the callers' frames up to slots), the frame's map is kept, the new abstract heap is held -/
theorem Inv.step {g' : Array GenState} {t' : Nat} {d' : Drawn} {ch : List Addr} (I : Inv X pins σ H s)
    (hch : ∀ b ∈ ch, (b ∈ X.ex ∨ X.s₀.heap.objs.size ≤ b) ∧ b ≠ X.env.locals ∧ (∀ x c, X.env.cells.lookup x = some c → c ≠ b) ∧ ∀ p ∈ X.pn ++ pins, p.1 ≠ b)
    (keep : ∀ b o, b ≠ X.env.locals → b ∉ X.fs → b ∉ ch → s.heap.get? b = some o → H b = none → h'.get? b = some o)
    (slot : ∀ b o, b ≠ X.env.locals → b ∈ X.fs → b ∉ ch → s.heap.get? b = some o → H b = none → ∃ sl, h'.get? b = some { o with slots := sl }) (free : ∀ b o, b ∉ ch → s.heap.get? b = some o → H b = none → H' b = none)
    (there : ∀ b o, b ∉ ch → s.heap.get? b = some o → ∃ o', h'.get? b = some o')
    (tups : ∀ b xs, H b = some (.tup xs) → H' b = some (.tup xs)) (frzs : ∀ b o u, H b = some (.frz o u) → H' b = some (.frz o u)) (tbls : ∀ b ps, H b = some (.tbl ps) → ∃ more, H' b = some (.tbl (ps ++ more)))
    (ns : ∀ m, s.heap.Ns X.env.locals m → h'.Ns X.env.locals m) (hok : HOk X.prog X.w H' h') (hg : AllBare g') :
    Inv X pins σ H' { s with heap := h', gens := g', drawn := d', toks := t' } := by
  have neL : ∀ b o, X.s₀.heap.get? b = some o → b ≠ X.env.locals := fun b o e => Nat.ne_of_lt (Nat.lt_of_lt_of_le (Heap.lt_size e) I.ok.above)
  have neC : ∀ b o, X.s₀.heap.get? b = some o → b ∉ X.ex → b ∉ ch := fun b o e hx hb => by
    rcases (hch b hb).1 with z | z
    · exact hx z
    · exact absurd (Nat.lt_of_lt_of_le (Heap.lt_size e) z) (Nat.lt_irrefl _)
  have cellK : ∀ x c, X.env.cells.lookup x = some c → ∀ v, s.heap.IsCell c v → h'.IsCell c v := fun x c e v ⟨o, ho, hd⟩ => by
    have nch : c ∉ ch := fun z => (hch c z).2.2.1 x c e rfl
    by_cases hc : c ∈ X.fs
    · obtain ⟨sl, q⟩ := slot c o (I.cne x c e) hc nch ho (I.freeC x c e)
      exact ⟨_, q, hd⟩
    · exact ⟨o, keep c o (I.cne x c e) hc nch ho (I.freeC x c e), hd⟩
  refine ⟨I.ok, I.os, hg, ⟨fun b o e n hb hx => ?_, fun b o e n hb hx => ?_, fun b o e n hx => ?_, fun b o e hx => ?_, fun b xs e => tups b xs (I.base.tups b xs e), fun b o xs e => frzs b o xs (I.base.frzs b o xs e), fun b ps e => ?_⟩, ?_, fun x c e => ?_, ?_, fun x c e => ?_, fun p hp => ?_, hok, I.len⟩
  · exact keep b o (neL b o e) hb (neC b o e hx) (I.base.keep b o e n hb hx) (I.base.free b o e n hx)
  · obtain ⟨sl, e1⟩ := I.base.slot b o e n hb hx
    obtain ⟨sl', e2⟩ := slot b _ (neL b o e) hb (neC b o e hx) e1 (I.base.free b o e n hx)
    exact ⟨sl', e2⟩
  · obtain ⟨o', e1⟩ := I.base.there b o e hx
    exact free b o' (neC b o e hx) e1 (I.base.free b o e n hx)
  · obtain ⟨o', e1⟩ := I.base.there b o e hx
    exact there b o' (neC b o e hx) e1
  · obtain ⟨m1, e1⟩ := I.base.tbls b ps e
    obtain ⟨m2, e2⟩ := tbls b _ e1
    exact ⟨m1 ++ m2, by rw [e2, Array.append_assoc]⟩
  · obtain ⟨m, hn, hl⟩ := I.loc
    refine ⟨m, ns m hn, fun i x v e1 e2 e3 => ?_⟩
    obtain ⟨u, r, l⟩ := hl i x v e1 e2 e3
    refine ⟨u, r, ?_⟩
    rcases l with l | ⟨k, c, e, z⟩
    · exact .inl l
    · exact .inr ⟨k, c, e, cellK x c e _ z⟩
  · obtain ⟨v, z⟩ := I.cell x c e
    exact ⟨v, cellK x c e v z⟩
  · obtain ⟨m, ⟨o, _, _, ho, _⟩, _⟩ := I.loc
    exact free _ o (fun z => (hch _ z).2.1 rfl) ho I.free
  · obtain ⟨v, o, ho, hd⟩ := I.cell x c e
    exact free c o (fun z => (hch c z).2.2.1 x c e rfl) ho (I.freeC x c e)
  · obtain ⟨e, n, ne, nf, d⟩ := I.pin p hp
    have nch : p.1 ∉ ch := fun z => (hch p.1 z).2.2.2 p hp rfl
    exact ⟨keep p.1 p.2 ne nf nch e n, free p.1 p.2 nch e n, ne, nf, d⟩
/-- .. where the frame's own object is kept too -/
theorem Inv.un {t' : Nat} (I : Inv X pins σ H s) (u : Un X.fs [] H H' s.heap h') (hok : HOk X.prog X.w H' h') : Inv X pins σ H' { s with heap := h', toks := t' } := by
  obtain ⟨m, ⟨o, es, ep, ho, r⟩, _⟩ := id I.loc
  obtain ⟨sl, hL⟩ := u.any ho I.free (by simp)
  exact I.step (g' := s.gens) (d' := s.drawn) (ch := []) (fun _ z => nomatch z) (fun b o _ hb _ e n => u.keep b o e n hb (by simp)) (fun b o _ hb _ e n => u.slot b o e n hb (by simp)) (fun b o _ e n => u.free b o e n (by simp)) (fun b o _ e => u.there b o e (by simp)) u.tups u.frzs u.tbls (fun m' hm => by
    obtain ⟨o', es', ep', ho', r'⟩ := hm
    rw [ho] at ho'; cases ho'
    exact ⟨_, es', ep', hL, r'⟩) hok I.bare
/-- behind a call (or a comprehension's block): the slots of this frame may have changed too, the records at ch may have turned -/
theorem Inv.call {g' : Array GenState} {t' : Nat} {d' : Drawn} {ch : List Addr} (I : Inv X pins σ H s) (u : Un (frs X.stack) ch H H' s.heap h') (hok : HOk X.prog X.w H' h') (hg : AllBare g')
    (hch : ∀ b ∈ ch, (b ∈ X.ex ∨ X.s₀.heap.objs.size ≤ b) ∧ b ≠ X.env.locals ∧ (∀ x c, X.env.cells.lookup x = some c → c ≠ b) ∧ ∀ p ∈ X.pn ++ pins, p.1 ≠ b) :
    Inv X pins σ H' { s with heap := h', gens := g', drawn := d', toks := t' } := by
  obtain ⟨m, ⟨o, es, ep, ho, r⟩, _⟩ := id I.loc
  obtain ⟨sl, hL⟩ := u.any ho I.free fun z => (hch _ z).2.1 rfl
  exact I.step (ch := ch) hch (fun b o hL hb hc e n => u.keep b o e n (fun z => (List.mem_cons.mp (I.stkSub b z)).elim hL hb) hc) (fun b o _ _ hc e n => u.any e n hc) (fun b o hc e n => u.free b o e n hc) (fun b o hc e => u.there b o e hc) u.tups u.frzs u.tbls (fun m' hm => by
    obtain ⟨o', es', ep', ho', r'⟩ := hm
    rw [ho] at ho'; cases ho'
    exact ⟨_, es', ep', hL, r'⟩) hok hg
/-- an untracked record of ours (an iterator) has turned -/
theorem Inv.turned {t' : Nat} {it : Addr} (I : Inv X pins σ H s) (k : ∀ b o, b ≠ it → s.heap.get? b = some o → h'.get? b = some o) (hn : H it = none) (hL : it ≠ X.env.locals)
    (h1 : it ∈ X.ex ∨ X.s₀.heap.objs.size ≤ it) (h2 : ∀ x c, X.env.cells.lookup x = some c → c ≠ it) (h3 : ∀ p ∈ X.pn ++ pins, p.1 ≠ it) : Inv X pins σ H { s with heap := h', toks := t' } := by
  have nit : ∀ b u, H b = some u → b ≠ it := fun b u e z => by rw [z, hn] at e; cases e
  refine I.step (g' := s.gens) (d' := s.drawn) (ch := [it]) (fun b hb => ?_) (fun b o _ _ hc e _ => k b o (fun z => hc (by simp [z])) e) (fun b o _ _ hc e _ => ⟨o.slots, k b o (fun z => hc (by simp [z])) e⟩) (fun _ _ _ _ n => n)
    (fun b o hc e => ⟨o, k b o (fun z => hc (by simp [z])) e⟩) (fun _ _ e => e) (fun _ _ _ e => e) (fun b ps e => ⟨#[], by rw [e]; simp⟩) (fun m hm => ?_) (fun b u e => ?_) I.bare
  · have e : b = it := by simpa using hb
    subst e
    exact ⟨h1, hL, h2, h3⟩
  · obtain ⟨o, es, ep, ho, r⟩ := hm
    exact ⟨o, es, ep, k _ o (Ne.symm hL) ho, r⟩
  · refine (I.hok b u e).stay (fun c v hc q => k c v ?_ q) (fun _ q => q) fun _ _ q => q
    rcases hc with z | z
    · rw [z]; exact nit b u e
    · exact nit c _ z
theorem Inv.tok (I : Inv X pins σ H s) (t : Nat) : Inv X pins σ H { s with toks := t } := I.un (h' := s.heap) (t' := t) Un.refl I.hok
/-- all objects kept -/
theorem Inv.kept {t' : Nat} (I : Inv X pins σ H s) (k : ∀ b u, s.heap.get? b = some u → h'.get? b = some u) : Inv X pins σ H { s with heap := h', toks := t' } := I.un (Un.kept k) (I.hok.kept k)
/-- a new object laid and tracked -/
theorem Inv.laid {a : Addr} {o : HO} {t' : Nat} (I : Inv X pins σ H s) (k : ∀ b u, s.heap.get? b = some u → h'.get? b = some u) (hp : s.heap.objs.size ≤ a) (new : ObjOk X.prog X.w (upd H a o) h' a o) :
    Inv X pins σ (upd H a o) { s with heap := h', toks := t' } := I.un (Un.laid k hp (I.hok.fresh hp)) (I.hok.laid k hp new)
/-- an object written -/
theorem Inv.write {x e : Addr} {o : HO} {t' : Nat} (I : Inv X pins σ H s) (mu : Mut (H x)) (he : e = x ∨ H e = some (.own x)) (k : ∀ b u, b ≠ e → s.heap.get? b = some u → h'.get? b = some u) (heo : ∃ u, h'.get? e = some u)
    (new : ObjOk X.prog X.w (upd H x o) h' x o) : Inv X pins σ (upd H x o) { s with heap := h', toks := t' } := I.un (Un.write mu he k heo) (I.hok.write mu he k heo new)
theorem Inv.pins_of {pins' : List (Addr × Obj)} (I : Inv X pins σ H s) (h : ∀ p ∈ pins', s.heap.get? p.1 = some p.2 ∧ H p.1 = none ∧ p.1 ≠ X.env.locals ∧ p.1 ∉ X.fs ∧ ∀ v, p.2.data ≠ .cell v) : Inv X pins' σ H s :=
  ⟨I.ok, I.os, I.bare, I.base, I.loc, I.cell, I.free, I.freeC, fun p hp => (List.mem_append.mp hp).elim (fun z => I.pin p (List.mem_append_left _ z)) (h p), I.hok, I.len⟩

theorem nodup_ix {N : List Str} (hN : N.Nodup) {i j : Nat} {x : Str} (a : N[i]? = some x) (b : N[j]? = some x) : i = j := by
  obtain ⟨h1, e1⟩ := List.getElem?_eq_some_iff.mp a
  obtain ⟨h2, e2⟩ := List.getElem?_eq_some_iff.mp b
  exact (List.getElem_inj hN).mp (e1.trans e2.symm)

/-- a name is stored; what changed -/
theorem store_ok2 {M : Model} {A : Around} {E : Value → Shared → Prop} {i : Nat} {x : Str} {v : V} {u : Value} {Q : Unit → Shared → Prop} (I : Inv X pins σ H s) (hN : X.N.Nodup) (hi : X.N[i]? = some x) (hx : Loc X.env.scope x) (r : RelV v u)
    (h : ∀ s', Inv X pins (σ.set i (some v)) H s' → (∃ a, Heap.SameBut a s.heap s'.heap ∧ (a = X.env.locals ∨ X.env.cells.lookup x = some a)) → Q () s') (hf : X.fn x = true ∨ X.env.scope.names.lookup x = some .local := by first | exact .inl rfl | exact .inr rfl | assumption) : wpAny M A (storeName X.env x u) Q E s := by
  obtain ⟨m, hn, hl⟩ := id I.loc
  have hcls : (X.env.scope.kind == .class || (X.env.scope.kind == .module && X.env.locals != X.env.globals)) = false := by rw [I.ok.kind]; rfl
  have hiσ : i < σ.length := by rw [I.len]; exact (List.getElem?_eq_some_iff.mp hi).1
  have cne := I.cne
  have tracked : ∀ {a : Addr} {h' : Heap}, (∃ o, s.heap.get? a = some o ∧ H a = none) → Heap.SameBut a s.heap h' → HOk X.prog X.w H h' := fun {a h'} ha hs b ob e => by
    obtain ⟨_, _, hfree⟩ := ha
    refine (I.hok b ob e).stay (fun c w' hc q => (hs.2 c ?_).trans q) (fun _ q => q) fun _ _ q => q
    rintro rfl
    rcases hc with rfl | hc
    · rw [hfree] at e; cases e
    · rw [hfree] at hc; cases hc
  rcases hx with hk | hk
  · refine wpAny_storeName_local hk hn (fun h' hn' hs => ?_) hcls
    obtain ⟨oL, _, _, hoL, _⟩ := id hn
    refine h _ ⟨I.ok, I.os, I.bare, ⟨fun b o e n hb hx => ?_, fun b o e n hb hx => ?_, I.base.free, fun b o e hx => ?_, I.base.tups, I.base.frzs, I.base.tbls⟩, ⟨_, hn', fun j y v' e1 e2 e3 => ?_⟩, fun y c e => ?_, I.free, I.freeC, fun p hp => ?_, tracked ⟨oL, hoL, I.free⟩ hs, by simpa using I.len⟩ ⟨_, hs, .inl rfl⟩
    · exact (hs.2 b (Nat.ne_of_lt (Nat.lt_of_lt_of_le (Heap.lt_size e) I.ok.above))).trans (I.base.keep b o e n hb hx)
    · obtain ⟨sl, e1⟩ := I.base.slot b o e n hb hx
      exact ⟨sl, (hs.2 b (Nat.ne_of_lt (Nat.lt_of_lt_of_le (Heap.lt_size e) I.ok.above))).trans e1⟩
    · obtain ⟨o', e1⟩ := I.base.there b o e hx
      exact ⟨o', (hs.2 b (Nat.ne_of_lt (Nat.lt_of_lt_of_le (Heap.lt_size e) I.ok.above))).trans e1⟩
    · by_cases hj : j = i
      · subst hj
        rw [hi] at e1; cases e1
        rw [List.getElem?_set_self hiσ] at e2
        cases e2
        exact ⟨u, r, .inl ⟨hk, by simp⟩⟩
      · rw [List.getElem?_set_ne (Ne.symm hj)] at e2
        obtain ⟨u', r', q⟩ := hl j y v' e1 e2 e3
        refine ⟨u', r', ?_⟩
        rcases q with ⟨k, e⟩ | ⟨k, c, e, z⟩
        · refine .inl ⟨k, ?_⟩
          have : y ≠ x := fun e => hj (nodup_ix hN e1 (e ▸ hi))
          simp [this, e]
        · exact .inr ⟨k, c, e, z.sameBut hs (cne y c e)⟩
    · obtain ⟨w', z⟩ := I.cell y c e
      exact ⟨w', z.sameBut hs (cne y c e)⟩
    · obtain ⟨e, n, ne, nf, d⟩ := I.pin p hp
      exact ⟨(hs.2 p.1 ne).trans e, n, ne, nf, d⟩
  · have hfn : X.fn x = true := by
      rcases hf with z | z
      · exact z
      · rw [z] at hk; cases hk
    obtain ⟨c, hc⟩ := I.ok.has x (.inl hk)
    obtain ⟨w', z⟩ := I.cell x c hc
    refine wpAny_storeName_cell I.ok.kind hk hc z (fun h' hc' hs => ?_)
    obtain ⟨oc, hoc, hocd⟩ := id z
    refine h { s with heap := h' } ⟨I.ok, I.os, I.bare, ⟨fun b o e n hb hx => ?_, fun b o e n hb hx => ?_, I.base.free, fun b o e hx => ?_, I.base.tups, I.base.frzs, I.base.tbls⟩, ⟨m, hn.sameBut hs (Ne.symm (cne x c hc)), fun j y v' e1 e2 e3 => ?_⟩, fun y c' e => ?_, I.free, I.freeC, fun p hp => ?_, tracked ⟨oc, hoc, I.freeC x c hc⟩ hs, by simpa using I.len⟩ ⟨c, hs, .inr hc⟩
    · exact (hs.2 b (Nat.ne_of_lt (Nat.lt_of_lt_of_le (Heap.lt_size e) (I.ok.cab x c hfn hc)))).trans (I.base.keep b o e n hb hx)
    · obtain ⟨sl, e1⟩ := I.base.slot b o e n hb hx
      exact ⟨sl, (hs.2 b (Nat.ne_of_lt (Nat.lt_of_lt_of_le (Heap.lt_size e) (I.ok.cab x c hfn hc)))).trans e1⟩
    · obtain ⟨o', e1⟩ := I.base.there b o e hx
      exact ⟨o', (hs.2 b (Nat.ne_of_lt (Nat.lt_of_lt_of_le (Heap.lt_size e) (I.ok.cab x c hfn hc)))).trans e1⟩
    · by_cases hj : j = i
      · subst hj
        rw [hi] at e1; cases e1
        rw [List.getElem?_set_self hiσ] at e2
        cases e2
        exact ⟨u, r, .inr ⟨.inl hk, c, hc, hc'⟩⟩
      · rw [List.getElem?_set_ne (Ne.symm hj)] at e2
        obtain ⟨u', r', q⟩ := hl j y v' e1 e2 e3
        refine ⟨u', r', ?_⟩
        rcases q with q | ⟨k, c', e, z'⟩
        · exact .inl q
        · refine .inr ⟨k, c', e, z'.sameBut hs ?_⟩
          rintro rfl
          exact hj (nodup_ix hN e1 (I.ok.inj _ _ _ e hc ▸ hi))
    · by_cases hcc : c' = c
      · subst hcc; exact ⟨_, hc'⟩
      · obtain ⟨w2, z2⟩ := I.cell y c' e
        exact ⟨w2, z2.sameBut hs hcc⟩
    · obtain ⟨e, n, ne, nf, d⟩ := I.pin p hp
      refine ⟨(hs.2 p.1 ?_).trans e, n, ne, nf, d⟩
      intro q
      rw [q, hoc] at e
      have q' : oc = p.2 := Option.some.inj e
      exact d w' (by rw [← q']; exact hocd)
theorem store_ok {M : Model} {A : Around} {E : Value → Shared → Prop} {i : Nat} {x : Str} {v : V} {u : Value} {Q : Unit → Shared → Prop} (I : Inv X pins σ H s) (hN : X.N.Nodup) (hi : X.N[i]? = some x) (hx : Loc X.env.scope x) (r : RelV v u)
    (h : ∀ s', Inv X pins (σ.set i (some v)) H s' → Q () s') (hf : X.fn x = true ∨ X.env.scope.names.lookup x = some .local := by first | exact .inl rfl | exact .inr rfl | assumption) : wpAny M A (storeName X.env x u) Q E s :=
  store_ok2 I hN hi hx r (fun s' I' _ => h s' I') hf
/-- behind a call or a block, the state as it is -/
theorem Inv.call' {s' : Shared} {ch : List Addr} (I : Inv X pins σ H s) (ho : s'.os = s.os) (u : Un (frs X.stack) ch H H' s.heap s'.heap) (hok : HOk X.prog X.w H' s'.heap) (hg : AllBare s'.gens)
    (hch : ∀ b ∈ ch, (b ∈ X.ex ∨ X.s₀.heap.objs.size ≤ b) ∧ b ≠ X.env.locals ∧ (∀ x c, X.env.cells.lookup x = some c → c ≠ b) ∧ ∀ p ∈ X.pn ++ pins, p.1 ≠ b) : Inv X pins σ H' s' := by
  obtain ⟨h', g', d', t', o'⟩ := s'
  have e : o' = s.os := ho
  subst e
  exact I.call (g' := g') (t' := t') (d' := d') u hok hg hch
end

/-! ### the judgements -/
/-- an exception: its class, its own dict's address (where it has one), the abstract heap behind it -/
abbrev XK := Value → Option Addr → Hp → Prop
abbrev St := List (Option V)
abbrev VK := V → Hp → Prop
/-- an expression's reading; a test's; an argument list's -/
abbrev TE := St → Hp → VK → Prop
abbrev TT := St → Hp → (Bool → Hp → Prop) → Prop
abbrev TA := St → Hp → (List V → Hp → Prop) → Prop
/-- what is wanted behind a statement -/
structure Ends where
  nx : St → Hp → Prop
  rt : VK
  bk : St → Hp → Prop := fun _ _ => False
  ct : St → Hp → Prop := fun _ _ => False
abbrev TS := Ends → St → Hp → Prop

def EP (X : Cx) (pins : List (Addr × Obj)) (σ : St) (Q : VK) (u : Value) (s' : Shared) : Prop := ∃ v H', Inv X pins σ H' s' ∧ RelV v u ∧ Q v H'
def TP (X : Cx) (pins : List (Addr × Obj)) (σ : St) (Q : Bool → Hp → Prop) (b : Bool) (s' : Shared) : Prop := ∃ H', Inv X pins σ H' s' ∧ Q b H'
def AP (X : Cx) (pins : List (Addr × Obj)) (σ : St) (Q : List V → Hp → Prop) (us : List Value) (s' : Shared) : Prop := ∃ vs H', Inv X pins σ H' s' ∧ Vals vs us ∧ Q vs H'
def SP (X : Cx) (pins : List (Addr × Obj)) (D : Ends) (f : Flow) (s' : Shared) : Prop :=
  match f with
  | .next => ∃ σ' H', Inv X pins σ' H' s' ∧ D.nx σ' H'
  | .brk => ∃ σ' H', Inv X pins σ' H' s' ∧ D.bk σ' H'
  | .cont => ∃ σ' H', Inv X pins σ' H' s' ∧ D.ct σ' H'
  | .ret u => ∃ v σ' H', Inv X pins σ' H' s' ∧ RelV v u ∧ D.rt v H'

def PE (X : Cx) (e : Expr) (t : TE) : Prop :=
  ∀ (pins : List (Addr × Obj)) (s : Shared) (σ : St) (H : Hp) (Q : VK), Inv X pins σ H s → t σ H Q → wpAny (model X.prog X.w) X.A (eval e X.env) (EP X pins σ Q) X.xe s
def PT (X : Cx) (e : Expr) (t : TT) : Prop :=
  ∀ (pins : List (Addr × Obj)) (s : Shared) (σ : St) (H : Hp) (Q : Bool → Hp → Prop), Inv X pins σ H s → t σ H Q → wpAny (model X.prog X.w) X.A (isTrue e X.env (eval e X.env)) (TP X pins σ Q) X.xe s
/-- a test whatever its 'whole' is (and, or) -/
def PW (X : Cx) (e : Expr) (t : TT) : Prop :=
  ∀ (whole : Sem Value) (pins : List (Addr × Obj)) (s : Shared) (σ : St) (H : Hp) (Q : Bool → Hp → Prop), Inv X pins σ H s → t σ H Q → wpAny (model X.prog X.w) X.A (isTrue e X.env whole) (TP X pins σ Q) X.xe s
theorem PW.pt {X : Cx} {e : Expr} {t : TT} (h : PW X e t) : PT X e t := h _
/-- an argument list (no star), from the left -/
def PA (X : Cx) (es : List Expr) (t : TA) : Prop :=
  ∀ (pos : Pos) (pins : List (Addr × Obj)) (s : Shared) (σ : St) (H : Hp) (Q : List V → Hp → Prop), Inv X pins σ H s → t σ H Q → wpAny (model X.prog X.w) X.A (spliced (backTo pos (starEach es X.env))) (AP X pins σ Q) X.xe s
def PS (X : Cx) (st : Stmt) (t : TS) : Prop :=
  ∀ (pins : List (Addr × Obj)) (s : Shared) (σ : St) (H : Hp) (D : Ends), Inv X pins σ H s → t D σ H → wpAny (model X.prog X.w) X.A (exec st X.env) (SP X pins D) X.xe s
def PSs (X : Cx) (st : List Stmt) (t : TS) : Prop :=
  ∀ (pins : List (Addr × Obj)) (s : Shared) (σ : St) (H : Hp) (D : Ends), Inv X pins σ H s → t D σ H → wpAny (model X.prog X.w) X.A (execs st X.env) (SP X pins D) X.xe s
/-- weaken the end -/
theorem thn {α : Type} {t : Sem α} {Q Q' : α → Shared → Prop} {M : Model} {A : Around} {E : Value → Shared → Prop} {s : Shared} (h : wpAny M A t Q E s) (hQ : ∀ a s, Q a s → Q' a s) : wpAny M A t Q' E s := wpAny_mono h hQ fun _ _ x => x
end L2

namespace L2
open PySem PySem.Spec PyProof.Rows
section
variable {X : Cx}

/-! ### names and constants -/
def tVar (i : Nat) : TE := fun σ H Q => ∃ v, σ[i]? = some (some v) ∧ Q v H
def tC (v : V) : TE := fun _ H Q => Q v H
theorem pe_var {i : Nat} {x : Str} {pos : Pos} (hN : X.N[i]? = some x) (hv : Vis X.env.scope x) (hd : (x == ("__debug__" : Str)) = false := by decide) (hcd : (x == ("__classdict__" : Str)) = false := by decide) : PE X (.Name x pos) (tVar i) := by
  intro pins s σ H Q I h
  obtain ⟨v, e, h⟩ := h
  obtain ⟨m, hn, hl⟩ := I.loc
  obtain ⟨u, r, l⟩ := hl i x v hN e hv
  have fin : EP X pins σ Q u s := ⟨v, H, I, r, h⟩
  rcases l with ⟨hk, hm⟩ | ⟨hk, c, hc, hcell⟩
  · exact wpAny_Name (wpAny_loadName_local I.ok.kind hk hn hm fin) hd
  · rcases hk with hk | hk
    · exact wpAny_Name (wpAny_loadName_cell I.ok.kind hk hc hcell fin) hd
    · exact wpAny_Name (wpAny_loadName_free I.ok.kind hk hc hcell fin hcd) hd
theorem pe_int {i j pos} : PE X (.Constant (.int i) j pos) (tC (.int i)) := fun _ _ _ H _ I h => wpAny_Constant_int ⟨.int i, H, I.tok _, ⟨_, rfl⟩, h⟩
theorem pe_bl {b j pos} : PE X (.Constant (.bool b) j pos) (tC (.bl b)) := fun _ _ _ H _ I h => Constant_bool ⟨.bl b, H, I, rfl, h⟩
theorem pe_non {j pos} : PE X (.Constant .none j pos) (tC .non) := fun _ _ _ H _ I h => Constant_none ⟨.non, H, I, rfl, h⟩
/-- a global name of the def -/
def Gl (X : Cx) (x : Str) : Prop := X.env.kindOf x = some .globalImplicit
theorem ld_glob {E : Value → Shared → Prop} {pins : List (Addr × Obj)} {s : Shared} {σ : St} {H : Hp} {x : Str} {u : Value} {pos : Pos} {Q : Value → Shared → Prop} (I : Inv X pins σ H s) (hg : Gl X x) (hm : X.mg x = some u) (h : Q u s)
    (hd : (x == ("__debug__" : Str)) = false := by decide) : wpAny (model X.prog X.w) X.A (eval (.Name x pos) X.env) Q E s :=
  Calls.Name_function_global I.ok.kind hg (Calls.loadGlobal_global (by rw [I.ok.glob]; exact I.mod.glob.keeps I.bk) hm h) hd
theorem ld_blt {E : Value → Shared → Prop} {pins : List (Addr × Obj)} {s : Shared} {σ : St} {H : Hp} {x : Str} {u : Value} {pos : Pos} {Q : Value → Shared → Prop} (I : Inv X pins σ H s) (hg : Gl X x) (hm : X.mg x = none) (hv : bootBuiltins x = some u) (h : Q u s)
    (hn : x ≠ "__name__" := by decide) (hd : (x == ("__debug__" : Str)) = false := by decide) : wpAny (model X.prog X.w) X.A (eval (.Name x pos) X.env) Q E s := by
  obtain ⟨mb, h1, h2⟩ := I.mod.blt
  exact Calls.Name_function_global I.ok.kind hg (Calls.loadGlobal_builtin (by rw [I.ok.glob]; exact I.mod.glob.keeps I.bk) hm (by rw [I.ok.blt]; exact h1.keeps I.bk) ((h2 x hn).trans hv) h) hd
/-- a module's constant, a class, a function, as a value -/
theorem pe_glob {x : Str} {v : V} {u : Value} {pos : Pos} (hg : Gl X x) (hm : X.mg x = some u) (r : RelV v u) (hd : (x == ("__debug__" : Str)) = false := by decide) : PE X (.Name x pos) (tC v) :=
  fun _ _ _ H _ I h => ld_glob I hg hm ⟨v, H, I, r, h⟩ hd
theorem pe_bltn {x : Str} {v : V} {u : Value} {pos : Pos} (hg : Gl X x) (hm : X.mg x = none) (hv : bootBuiltins x = some u) (r : RelV v u) (hn : x ≠ "__name__" := by decide) (hd : (x == ("__debug__" : Str)) = false := by decide) : PE X (.Name x pos) (tC v) :=
  fun _ _ _ H _ I h => ld_blt I hg hm hv ⟨v, H, I, r, h⟩ hn hd

/-! ### arithmetic -/
/-- two ints -/
def t2I (ta tb : TE) (k : Int → Int → Hp → Prop) : St → Hp → Prop := fun σ H => ta σ H fun x H1 => tb σ H1 fun y H2 => ∃ i j, x = .int i ∧ y = .int j ∧ k i j H2
def tAdd (ta tb : TE) : TE := fun σ H Q => t2I ta tb (fun i j H2 => Q (.int (i + j)) H2) σ H
def tSub (ta tb : TE) : TE := fun σ H Q => t2I ta tb (fun i j H2 => Q (.int (i - j)) H2) σ H
/-- the left factor below 2^64 -/
def tMul (ta tb : TE) : TE := fun σ H Q => t2I ta tb (fun i j H2 => (-(2 ^ 64) < i ∧ i < 2 ^ 64) ∧ Q (.int (i * j)) H2) σ H
variable {a b : Expr} {ta tb : TE} {pos : Pos}
/-! ### comparisons -/
def PC (X : Cx) (op : CmpOp) (a b : Expr) (t : TE) : Prop :=
  ∀ (pins : List (Addr × Obj)) (s : Shared) (σ : St) (H : Hp) (Q : VK), Inv X pins σ H s → t σ H Q →
    wpAny (model X.prog X.w) X.A (eval a X.env) (fun v s₁ => wpAny (model X.prog X.w) X.A (eval b X.env) (fun u s₂ => wpAny (model X.prog X.w) X.A (compareOp op v u) (EP X pins σ Q) X.xe s₂) X.xe s₁) X.xe s
def tCmp (p : Int → Int → Bool) (ta tb : TE) : TE := fun σ H Q => t2I ta tb (fun i j H2 => Q (.bl (p i j)) H2) σ H
abbrev tLt : TE → TE → TE := tCmp fun i j => decide (i < j)
abbrev tLe : TE → TE → TE := tCmp fun i j => decide (i ≤ j)
abbrev tGt : TE → TE → TE := tCmp fun i j => decide (j < i)
abbrev tGe : TE → TE → TE := tCmp fun i j => decide (j ≤ i)
abbrev tEqI : TE → TE → TE := tCmp fun i j => decide (i = j)
abbrev tNeI : TE → TE → TE := tCmp fun i j => !decide (i = j)
/-- is None -/
def tIsN (ta : TE) : TE := fun σ H Q => ta σ H fun x H1 => Q (.bl (decide (x = .non))) H1
def tNotN (ta : TE) : TE := fun σ H Q => ta σ H fun x H1 => Q (.bl (!decide (x = .non))) H1
/-- a comparison as a value, as a test -/
def tB (t : TE) : TT := fun σ H Q => t σ H fun x H1 => ∃ c, x = .bl c ∧ Q c H1
/-- an expression whose value is a bool, as a test -/
theorem pt_val {e : Expr} {t : TE} (h : PE X e t) (he : ∀ whole, isTrue e X.env whole = (do let v ← whole; standAt e.pos; holding [v] (truthy v)) := by intro _; rfl) : PT X e (tB t) := by
  intro pins s σ H Q I hw
  refine isTrue_plain (thn (h pins s σ H _ I hw) fun v s1 ⟨x, H1, I1, r1, q1⟩ => ?_) (he _)
  obtain ⟨d, rfl, q⟩ := q1
  cases r1
  exact wpAny_truthy_bool ⟨H1, I1, q⟩

/-! ### and, or, not -/
variable {tA tB' : TT} {rest : List Expr}
def tAnd (t u : TT) : TT := fun σ H Q => t σ H fun c H1 => if c = true then u σ H1 Q else Q false H1
def tOr (t u : TT) : TT := fun σ H Q => t σ H fun c H1 => if c = true then Q true H1 else u σ H1 Q
def tNot (t : TT) : TT := fun σ H Q => t σ H fun c H1 => Q (!c) H1
theorem pw_and1 (ha : PT X a tA) : PW X (.BoolOp .And [a] pos) tA := by
  intro wh pins s σ H Q I h
  refine isTrue_and (thn (ha pins s σ H Q I h) fun c s1 e => ?_)
  cases c with
  | true => exact isTrue_and_nil e
  | false => exact e
theorem pw_or1 (ha : PT X a tA) : PW X (.BoolOp .Or [a] pos) tA := by
  intro wh pins s σ H Q I h
  refine isTrue_or (thn (ha pins s σ H Q I h) fun c s1 e => ?_)
  cases c with
  | false => exact isTrue_or_nil e
  | true => exact e
theorem pw_and (ha : PT X a tA) (hb : PW X (.BoolOp .And (b :: rest) pos) tB') : PW X (.BoolOp .And (a :: b :: rest) pos) (tAnd tA tB') := by
  intro wh pins s σ H Q I h
  refine isTrue_and (thn (ha pins s σ H _ I h) fun c s1 ⟨H1, I1, q1⟩ => ?_)
  cases c with
  | true => exact hb wh pins s1 σ H1 Q I1 q1
  | false => exact ⟨H1, I1, q1⟩
theorem pw_or (ha : PT X a tA) (hb : PW X (.BoolOp .Or (b :: rest) pos) tB') : PW X (.BoolOp .Or (a :: b :: rest) pos) (tOr tA tB') := by
  intro wh pins s σ H Q I h
  refine isTrue_or (thn (ha pins s σ H _ I h) fun c s1 ⟨H1, I1, q1⟩ => ?_)
  cases c with
  | true => exact ⟨H1, I1, q1⟩
  | false => exact hb wh pins s1 σ H1 Q I1 q1
theorem pt_not (ha : PT X a tA) : PT X (.UnaryOp .Not a pos) (tNot tA) := by
  intro pins s σ H Q I h
  exact isTrue_not (ha pins s σ H (fun c H1 => Q (!c) H1) I h)
/-- .. as values (bools) -/
def tAndV (ta tb : TE) : TE := fun σ H Q => ta σ H fun x H1 => ∃ c, x = .bl c ∧ if c = true then tb σ H1 Q else Q (.bl false) H1
def tOrV (ta tb : TE) : TE := fun σ H Q => ta σ H fun x H1 => ∃ c, x = .bl c ∧ if c = true then Q (.bl true) H1 else tb σ H1 Q
def tNotV (ta : TE) : TE := fun σ H Q => ta σ H fun x H1 => ∃ c, x = .bl c ∧ Q (.bl (!c)) H1
theorem pe_one {op} {t : TE} (h : PE X a t) : PE X (.BoolOp op [a] pos) t := fun pins s σ H Q I hw => BoolOp_one (h pins s σ H Q I hw)
theorem pe_and (ha : PE X a ta) (hb : PE X (.BoolOp .And (b :: rest) pos) tb) : PE X (.BoolOp .And (a :: b :: rest) pos) (tAndV ta tb) := by
  intro pins s σ H Q I h
  refine BoolOp_and (thn (ha pins s σ H _ I h) fun v s1 ⟨x, H1, I1, r1, q1⟩ => ?_)
  obtain ⟨c, rfl, q1⟩ := q1
  cases r1
  refine wpAny_truthy_bool ?_
  cases c with
  | true => exact hb pins s1 σ H1 Q I1 q1
  | false => exact ⟨.bl false, H1, I1, rfl, q1⟩
theorem pe_not (ha : PE X a ta) : PE X (.UnaryOp .Not a pos) (tNotV ta) := by
  intro pins s σ H Q I h
  refine UnaryOp_ (thn (ha pins s σ H _ I h) fun v s1 ⟨x, H1, I1, r1, q1⟩ => ?_)
  obtain ⟨c, rfl, q1⟩ := q1
  cases r1
  exact not_of (wpAny_truthy_bool ⟨.bl (!c), H1, I1, rfl, q1⟩)
/-- a if t else b -/
def tIf (t : TT) (ta tb : TE) : TE := fun σ H Q => t σ H fun c H1 => if c = true then ta σ H1 Q else tb σ H1 Q
end
end L2

namespace L2
open PySem PySem.Spec PyProof.Rows

/-! ### a list, a tuple that is read: tracked, frozen, or an object of the module -/
def SqL (K : PySem.W.Frag) (H : Hp) (a : Addr) (xs : List V) : Prop :=
  Rd H a (.lst xs) ∨
    ∃ (o : Obj) (its : Array Value) (n : Nat), K.lookup a = some o ∧ o.cls = .type "list" ∧ o.dict = none ∧ o.data = .seq its n ∧ its.size ≤ sizeLine ∧ Vals xs its.toList
def SqT (K : PySem.W.Frag) (H : Hp) (a : Addr) (xs : List V) : Prop :=
  Rd H a (.tup xs) ∨
    ∃ (o : Obj) (its : Array Value) (n : Nat), K.lookup a = some o ∧ o.cls = .type "tuple" ∧ o.data = .seq its n ∧ its.size ≤ sizeLine ∧ Vals xs its.toList
def absV : Value → Option V
  | .none => some .non
  | .bool b => some (.bl b)
  | .int i _ => some (.int i)
  | .str x _ => some (.str x)
  | .bytes b _ => some (.byt b)
  | .float b _ => some (.flt b)
  | .ref a => some (.ref a)
  | .type n => some (.ty n)
  | _ => none
theorem RelV.abs {x : V} {u : Value} (r : RelV x u) : absV u = some x := by
  cases x with
  | non => cases r; rfl
  | bl _ => cases r; rfl
  | int _ => obtain ⟨t, rfl⟩ := r; rfl
  | str _ => obtain ⟨t, rfl⟩ := r; rfl
  | byt _ => obtain ⟨t, rfl⟩ := r; rfl
  | flt _ => obtain ⟨t, rfl⟩ := r; rfl
  | ref _ => cases r; rfl
  | ty _ => cases r; rfl
theorem RelV.inj {x y : V} {u : Value} (r : RelV x u) (q : RelV y u) : x = y := Option.some.inj (r.abs.symm.trans q.abs)
theorem Vals.inj : ∀ {xs ys : List V} {us : List Value}, Vals xs us → Vals ys us → xs = ys
  | _, _, _, .nil, .nil => rfl
  | _, _, _, .cons r t, .cons r' t' => by rw [r.inj r', Vals.inj t t']
section
variable {X : Cx} {pins : List (Addr × Obj)} {σ : St} {H : Hp} {s : Shared} {a : Addr} {xs ys : List V}
theorem SqL.of {K : PySem.W.Frag} (h : H a = some (.lst xs)) : SqL K H a xs := .inl (.inl h)
theorem SqT.of {K : PySem.W.Frag} (h : H a = some (.tup xs)) : SqT K H a xs := .inl (.inl h)
theorem Inv.list (I : Inv X pins σ H s) (h : SqL X.K H a xs) : ∃ its : List Value, Vals xs its ∧ PlainL s.heap a its.toArray ∧ xs.length ≤ sizeLine := by
  rcases h with h | ⟨o, its, n, hk, hc, hd, hs, hz, r⟩
  · obtain ⟨z, its, n, r, e⟩ := h.ok I.hok
    exact ⟨its, r, ⟨_, n, e, rfl, rfl, rfl⟩, z⟩
  · refine ⟨its.toList, r, ⟨o, n, I.kIn a o hk, hc, hd, by simpa using hs⟩, ?_⟩
    have e := r.length
    simp only [Array.length_toList] at e
    omega
theorem Inv.tuple (I : Inv X pins σ H s) (h : SqT X.K H a xs) : ∃ its : List Value, Vals xs its ∧ IsTup s.heap a its.toArray ∧ xs.length ≤ sizeLine := by
  rcases h with h | ⟨o, its, n, hk, hc, hs, hz, r⟩
  · obtain ⟨z, its, r, p⟩ := h.ok I.hok
    exact ⟨its, r, p, z⟩
  · refine ⟨its.toList, r, ⟨o, I.kIn a o hk, hc, n, by simpa using hs⟩, ?_⟩
    have e := r.length
    simp only [Array.length_toList] at e
    omega
theorem Inv.list_inj (I : Inv X pins σ H s) (h : SqL X.K H a xs) (h' : SqL X.K H a ys) : xs = ys := by
  obtain ⟨its, r, ⟨o, n, e, _, _, d⟩, _⟩ := I.list h
  obtain ⟨its', r', ⟨o', n', e', _, _, d'⟩, _⟩ := I.list h'
  rw [e] at e'; cases e'
  rw [d] at d'
  injection d' with d1 _
  have : its = its' := by simpa using congrArg Array.toList d1
  subst this
  exact r.inj r'
end

/-! ### another wish about exceptions -/
abbrev Cx.wish (X : Cx) (E : Value → Shared → Prop) : Cx := { X with xe := E }
/-- no exception leaves -/
abbrev Cx.nox (X : Cx) : Cx := X.wish fun _ _ => False
theorem Cx.Ok.wish {X : Cx} (ok : X.Ok) (E : Value → Shared → Prop) : (X.wish E).Ok :=
  ⟨ok.mod, ok.kind, ok.glob, ok.blt, ok.above, ok.inj, ok.has, ok.cab, ok.hd, ok.frames, ok.stk, ok.exf, ok.bs, ok.bsz, ok.noex, ok.exfs, ok.funs, ok.frf⟩
theorem Cx.Ok.unwish {X : Cx} {E : Value → Shared → Prop} (ok : (X.wish E).Ok) : X.Ok :=
  ⟨ok.mod, ok.kind, ok.glob, ok.blt, ok.above, ok.inj, ok.has, ok.cab, ok.hd, ok.frames, ok.stk, ok.exf, ok.bs, ok.bsz, ok.noex, ok.exfs, ok.funs, ok.frf⟩
section
variable {X : Cx} {pins : List (Addr × Obj)} {σ : St} {H : Hp} {s : Shared} {E : Value → Shared → Prop}
theorem Inv.wish (I : Inv X pins σ H s) (E : Value → Shared → Prop) : Inv (X.wish E) pins σ H s := ⟨I.ok.wish E, I.os, I.bare, I.base, I.loc, I.cell, I.free, I.freeC, I.pin, I.hok, I.len⟩
theorem Inv.unwish (I : Inv (X.wish E) pins σ H s) : Inv X pins σ H s := ⟨I.ok.unwish, I.os, I.bare, I.base, I.loc, I.cell, I.free, I.freeC, I.pin, I.hok, I.len⟩
theorem SP.unwish {D : Ends} {f : Flow} {s' : Shared} (h : SP (X.wish E) pins D f s') : SP X pins D f s' := by
  cases f with
  | next => obtain ⟨σ', H', I, q⟩ := h; exact ⟨σ', H', I.unwish, q⟩
  | brk => obtain ⟨σ', H', I, q⟩ := h; exact ⟨σ', H', I.unwish, q⟩
  | cont => obtain ⟨σ', H', I, q⟩ := h; exact ⟨σ', H', I.unwish, q⟩
  | ret u => obtain ⟨v, σ', H', I, r, q⟩ := h; exact ⟨v, σ', H', I.unwish, r, q⟩
theorem PSs.nox {st : List Stmt} {t : TS} (h : PSs X.nox st t) : PSs X st t := fun pins s σ H D I hw =>
  wpAny_mono (h pins s σ H D (I.wish _) hw) (fun _ _ q => q.unwish) fun _ _ z => False.elim z
end

/-! ### blocks and small statements -/
section
variable {X : Cx} {st : Stmt} {rest : List Stmt} {t u : TS} {e : Expr} {te : TE} {pos : Pos}
def tNext : TS := fun D σ H => D.nx σ H
def tSeq (t u : TS) : TS := fun D σ H => t { D with nx := u D } σ H
theorem pss_nil : PSs X [] tNext := fun _ _ σ H _ I h => wpAny_execs_nil ⟨σ, H, I, h⟩
theorem pss_cons (h1 : PS X st t) (h2 : PSs X rest u) : PSs X (st :: rest) (tSeq t u) := by
  intro pins s σ H D I h
  refine wpAny_execs_cons (thn (h1 pins s σ H { D with nx := u D } I h) fun f s1 q => ?_)
  cases f with
  | next =>
    obtain ⟨σ', H', I', q⟩ := q
    exact h2 pins s1 σ' H' D I' q
  | ret v => exact q
  | brk => exact q
  | cont => exact q
theorem pss_one (h1 : PS X st t) : PSs X [st] t := by
  intro pins s σ H D I h
  refine wpAny_execs_cons (thn (h1 pins s σ H D I h) fun f s1 q => ?_)
  cases f with
  | next => exact wpAny_execs_nil q
  | ret v => exact q
  | brk => exact q
  | cont => exact q
def tBreak : TS := fun D σ H => D.bk σ H
def tCont : TS := fun D σ H => D.ct σ H
/-- in a def's body nothing is shown -/
theorem Inv.quiet {pins : List (Addr × Obj)} {σ : St} {H : Hp} {s : Shared} (I : Inv X pins σ H s) : interactive X.env = false := by simp [interactive, I.ok.kind]
/-- an expression whose value is dropped -/
def tDrop (te : TE) : TS := fun D σ H => te σ H fun _ H1 => D.nx σ H1
theorem ps_expr (he : PE X e te) (hs : swapsWith e none pos.line X.env = pure false := by rfl) : PS X (.Expr e pos) (tDrop te) := by
  intro pins s σ H D I h
  exact wpAny_Expr_any (thn (he pins s σ H _ I h) fun v s1 ⟨x, H1, I1, r1, q1⟩ => ⟨σ, H1, I1, q1⟩) I.quiet hs
def tRet (te : TE) : TS := fun D σ H => te σ H D.rt
theorem ps_ret (he : PE X e te) : PS X (.Return (some e) pos) (tRet te) := by
  intro pins s σ H D I h
  exact wpAny_Return_some (thn (he pins s σ H _ I h) fun v s1 ⟨x, H1, I1, r1, q1⟩ => ⟨x, σ, H1, I1, r1, q1⟩)
def tRetN : TS := fun D _ H => D.rt .non H
def tIfS (c : TT) (t u : TS) : TS := fun D σ H => c σ H fun b H1 => if b = true then t D σ H1 else u D σ H1
theorem ps_if {c : Expr} {a b : List Stmt} {tc : TT} (hc : PT X c tc) (ha : PSs X a t) (hb : PSs X b u) : PS X (.If c a b pos) (tIfS tc t u) := by
  intro pins s σ H D I h
  refine wpAny_If (thn (hc pins s σ H _ I h) fun d s1 ⟨H1, I1, q1⟩ => ?_)
  cases d with
  | true => exact ha pins s1 σ H1 D I1 q1
  | false => exact hb pins s1 σ H1 D I1 q1
/-- code that the proof never comes to -/
def tNever : TS := fun _ _ _ => False
theorem ps_never : PS X st tNever := fun _ _ _ _ _ _ h => h.elim
end

/-! ### targets -/
abbrev TG := V → St → Hp → (St → Hp → Prop) → Prop
abbrev TGs := List V → St → Hp → (St → Hp → Prop) → Prop
def PG (X : Cx) (target : Expr) (t : TG) : Prop :=
  ∀ (pins : List (Addr × Obj)) (s : Shared) (σ : St) (H : Hp) (v : V) (u : Value) (Q : St → Hp → Prop), Inv X pins σ H s → RelV v u → t v σ H Q →
    wpAny (model X.prog X.w) X.A (assign target X.env u) (fun _ s' => ∃ σ' H', Inv X pins σ' H' s' ∧ Q σ' H') X.xe s
/-- several targets, one after another -/
def PGs (X : Cx) (ts : List Expr) (t : TGs) : Prop :=
  ∀ (pins : List (Addr × Obj)) (s : Shared) (σ : St) (H : Hp) (vs : List V) (us : List Value) (Q : St → Hp → Prop), Inv X pins σ H s → Vals vs us → t vs σ H Q →
    wpAny (model X.prog X.w) X.A (assignInOrder ((assignEach ts X.env).map (·.2)) us) (fun _ s' => ∃ σ' H', Inv X pins σ' H' s' ∧ Q σ' H') X.xe s
/-- o[i] = v, by values -/
abbrev TSet := V → V → V → Hp → (Hp → Prop) → Prop
def PSet (X : Cx) (t : TSet) : Prop :=
  ∀ (pins : List (Addr × Obj)) (s : Shared) (σ : St) (H : Hp) (o i v : V) (ov iv u : Value) (Q : Hp → Prop), Inv X pins σ H s → RelV o ov → RelV i iv → RelV v u → t o i v H Q →
    wpAny (model X.prog X.w) X.A (setItem ov iv u) (fun _ s' => ∃ H', Inv X pins σ H' s' ∧ Q H') X.xe s
/-- a op= b, by values -/
abbrev TIp := V → V → Hp → VK → Prop
def PIp (X : Cx) (op : Operator) (t : TIp) : Prop :=
  ∀ (pins : List (Addr × Obj)) (s : Shared) (σ : St) (H : Hp) (x y : V) (v u : Value) (Q : VK), Inv X pins σ H s → RelV x v → RelV y u → t x y H Q →
    wpAny (model X.prog X.w) X.A (inplaceOp op v u) (EP X pins σ Q) X.xe s
section
variable {X : Cx} {pos : Pos}
def gName (i : Nat) : TG := fun v σ H Q => Q (σ.set i (some v)) H
theorem pg_name {i : Nat} {x : Str} (hN : X.N.Nodup) (hi : X.N[i]? = some x) (hx : Loc X.env.scope x) (hf : X.fn x = true ∨ X.env.scope.names.lookup x = some .local := by first | exact .inl rfl | exact .inr rfl | assumption) : PG X (.Name x pos) (gName i) := by
  intro pins s σ H v u Q I r h
  exact wpAny_assign_Name (store_ok I hN hi hx r (fun s' I' => ⟨_, H, I', h⟩) hf)
def gNil : TGs := fun vs σ H Q => vs = [] ∧ Q σ H
def gCons (t : TG) (u : TGs) : TGs := fun vs σ H Q => ∃ v r, vs = v :: r ∧ t v σ H fun σ' H' => u r σ' H' Q
theorem pgs_nil : PGs X [] gNil := by
  intro pins s σ H vs us Q I r h
  obtain ⟨e, h⟩ := h
  subst e
  cases r
  exact assignInOrder_nil ⟨σ, H, I, h⟩
theorem pgs_cons {e : Expr} {es : List Expr} {t : TG} {u : TGs} (h1 : PG X e t) (h2 : PGs X es u)
    (hs : (assignEach (e :: es) X.env).map (·.2) = assign e X.env :: (assignEach es X.env).map (·.2) := by rfl) : PGs X (e :: es) (gCons t u) := by
  intro pins s σ H vs us Q I r h
  obtain ⟨v, vr, e1, h⟩ := h
  subst e1
  cases r with
  | cons r rr =>
    rw [hs]
    refine assignInOrder_cons (thn (h1 pins s σ H _ _ _ I r h) fun _ s1 ⟨σ1, H1, I1, q1⟩ => ?_)
    exact h2 pins s1 σ1 H1 _ _ Q I1 rr q1
/-- (a, b, ..) = a tuple of that length -/
def gTup (K : PySem.W.Frag) (n : Nat) (t : TGs) : TG := fun v σ H Q => ∃ a xs, v = .ref a ∧ SqT K H a xs ∧ xs.length = n ∧ t xs σ H Q
theorem pg_tup {es : List Expr} {k : Nat} {t : TGs} {n : Nat} (hc : X.calm = true) (h : PGs X es t)
    (hn : (assignEach es X.env).length = n := by rfl) (hst : (assignEach es X.env).findIdx? (·.1) = none := by rfl) : PG X (.Tuple es k pos) (gTup X.K n t) := by
  intro pins s σ H v u Q I r hw
  obtain ⟨a, xs, e1, hq, hl, hw⟩ := hw
  subst e1
  cases r
  obtain ⟨its, rv, ht, hz⟩ := I.tuple hq
  refine assign_Tuple_tuple (I.ok.hd hc) ht (by simp [hn, ← hl, rv.length]) hst fun h' hx => ?_
  have I1 : Inv X pins σ H { s with heap := h' } := I.kept (t' := s.toks) fun b o e => hx b o (Nat.ne_of_lt (Heap.lt_size e)) e
  exact h pins _ σ H xs _ Q I1 (by simpa using rv) hw
/-- o[i] = .. -/
def gSub (to ti : TE) (t : TSet) : TG := fun v σ H Q => to σ H fun o H1 => ti σ H1 fun i H2 => t o i v H2 fun H3 => Q σ H3
theorem pg_sub {o i : Expr} {to ti : TE} {t : TSet} (ho : PE X o to) (hi : PE X i ti) (hs : PSet X t)
    (ha : ∀ v, assign (.Subscript o i pos) X.env v = (do
      let ov ← holding [v] (eval o X.env)
      let iv ← holding [v, ov] (eval i X.env)
      standAt pos
      holding [v, ov, iv] (setItem ov iv v)
      release [v, ov, iv] []) := by intro _; rfl) : PG X (.Subscript o i pos) (gSub to ti t) := by
  intro pins s σ H v u Q I r h
  rw [ha]
  refine wpAny_bind (wpAny_holding (thn (ho pins s σ H _ I h) fun ov s1 ⟨x, H1, I1, r1, q1⟩ => ?_))
  refine wpAny_bind (wpAny_holding (thn (hi pins s1 σ H1 _ I1 q1) fun iv s2 ⟨y, H2, I2, r2, q2⟩ => ?_))
  refine wpAny_bind (wpAny_standAt (wpAny_bind (wpAny_holding (thn (hs pins s2 σ H2 x y v ov iv u _ I2 r1 r2 r q2) fun _ s3 ⟨H3, I3, q3⟩ => ?_))))
  exact wpAny_release ⟨σ, H3, I3, q3⟩
/-- target = value -/
def tAsg (te : TE) (g : TG) : TS := fun D σ H => te σ H fun x H1 => g x σ H1 D.nx
theorem ps_asg {tg e : Expr} {te : TE} {g : TG} (he : PE X e te) (hg : PG X tg g) (hs : swapsWithSole [tg] e pos.line X.env = pure false := by rfl) (hw : swappedStores [tg] e X.env = pure none := by rfl)
    (h1 : (assignEach [tg] X.env).map (·.2) = [assign tg X.env] := by rfl) : PS X (.Assign [tg] e pos) (tAsg te g) := by
  intro pins s σ H D I h
  refine wpAny_Assign_stores (thn (he pins s σ H _ I h) fun v s1 ⟨x, H1, I1, r1, q1⟩ => ?_) hs hw
  rw [h1]
  exact thn (hg pins s1 σ H1 x v _ I1 r1 q1) fun _ s2 q => q
/-- name = value -/
theorem ps_set {i : Nat} {x : Str} {e : Expr} {te : TE} {pos' : Pos} (hN : X.N.Nodup) (hi : X.N[i]? = some x) (hx : Loc X.env.scope x) (he : PE X e te) (hs : swapsWith e (some (.Name x pos')) pos.line X.env = pure false := by rfl) (hf : X.fn x = true ∨ X.env.scope.names.lookup x = some .local := by first | exact .inl rfl | exact .inr rfl | assumption) :
    PS X (.Assign [.Name x pos'] e pos) (tAsg te (gName i)) := by
  intro pins s σ H D I h
  refine wpAny_Assign_Name (thn (he pins s σ H _ I h) fun v s1 ⟨y, H1, I1, r1, q1⟩ => ?_) hs
  exact store_ok I1 hN hi hx r1 (fun s2 I2 => ⟨_, H1, I2, q1⟩) hf
/-- a, b = x, y with plain local names: stored from the right; the pair itself is not tracked (the opening rows as in PyProof/Rows/TupAssign.lean:23) -/
def tPar (i j : Nat) (ta : TA) : TS := fun D σ H => ta σ H fun vs H1 => ∃ v w, vs = [v, w] ∧ D.nx ((σ.set i (some v)).set j (some w)) H1
theorem ps_par {i j : Nat} {x y : Str} {a b : Expr} {ta : TA} {px py pt : Pos} {kt k2 pt2} (hc : X.calm = true) (hN : X.N.Nodup) (hi : X.N[i]? = some x) (hj : X.N[j]? = some y) (hij : i ≠ j)
    (hx : X.env.scope.names.lookup x = some .local) (hy : X.env.scope.names.lookup y = some .local) (ha : PA X [a, b] ta)
    (hw : swappedStores [.Tuple [.Name x px, .Name y py] kt pt] (.Tuple [a, b] k2 pt2) X.env = pure (some [x, y]))
    (hs : swapsWithSole [.Tuple [.Name x px, .Name y py] kt pt] (.Tuple [a, b] k2 pt2) pos.line X.env = pure false := by rfl) :
    PS X (.Assign [.Tuple [.Name x px, .Name y py] kt pt] (.Tuple [a, b] k2 pt2) pos) (tPar i j ta) := by
  intro pins s σ H D I h
  rw [exec_Assign_arm]
  refine wpAny_bind (wpAny_standAt ?_)
  rw [hs]
  refine wpAny_bind (wpAny_pure ?_)
  rw [if_neg (by decide)]
  refine wpAny_bind (Tuple_ (thn (ha _ pins s σ H _ I h) fun us s1 ⟨vs, H1, I1, r1, q1⟩ => ?_))
  obtain ⟨v, w, e1, q1⟩ := q1
  subst e1
  obtain ⟨u1, u2, rfl, rv, rw'⟩ : ∃ u1 u2, us = [u1, u2] ∧ RelV v u1 ∧ RelV w u2 := by
    cases r1 with
    | cons p q =>
      cases q with
      | cons p' q' =>
        cases q'
        exact ⟨_, _, rfl, p, p'⟩
  refine wpAny_newObj_type ?_ (by show 2 ≤ sizeLine; decide)
  have I2 : Inv X pins σ H1 { s1 with heap := s1.heap.push { cls := .type "tuple", data := .seq [u1, u2].toArray } } := I1.kept (t' := s1.toks) fun b o e => Heap.get?_push_of_some _ e
  rw [hw]
  refine wpAny_bind (wpAny_pure ?_)
  show wpAny (model X.prog X.w) X.A (do rule "assign.swapped-stores"; let items ← unpackItems (.ref s1.heap.objs.size) 2 none; assignInOrder [fun v => bindName X.env y v, fun v => bindName X.env x v] items.reverse; pure Flow.next) _ _ _
  refine wpAny_bind (wpAny_rule (wpAny_bind (unpackItems_tuple (items := #[u1, u2]) (I.ok.hd hc) (IsTup.new s1.heap _) fun h' hx' => ?_)))
  have I3 := I2.kept (h' := h') (t' := s1.toks) fun b o e => hx' b o (Nat.ne_of_lt (Heap.lt_size e)) e
  show wpAny _ _ (assignInOrder [fun v => bindName X.env y v, fun v => bindName X.env x v] [u2, u1] >>= fun _ => pure Flow.next) _ _ _
  refine wpAny_bind (assignInOrder_cons (wpAny_bindName (store_ok I3 hN hj (.inl hy) rw' (fun s2 I4 => ?_) (.inr hy))))
  refine assignInOrder_cons (wpAny_bindName (store_ok I4 hN hi (.inl hx) rv (fun s3 I5 => assignInOrder_nil (wpAny_pure ?_)) (.inr hx)))
  rw [List.set_comm _ _ (Ne.symm hij)] at I5
  exact ⟨_, H1, I5, q1⟩
/-- name op= e -/
def tAug (i : Nat) (te : TE) (ti : TIp) : TS := fun D σ H => ∃ x, σ[i]? = some (some x) ∧ te σ H fun y H1 => ti x y H1 fun z H2 => D.nx (σ.set i (some z)) H2
/-- o[i] op= e -/
def tAugS (to ti te : TE) (tget : V → V → Hp → VK → Prop) (tip : TIp) (tset : TSet) : TS := fun D σ H => to σ H fun o H1 => ti σ H1 fun i H2 => tget o i H2 fun x H3 => te σ H3 fun y H4 => tip x y H4 fun z H5 => tset o i z H5 fun H6 => D.nx σ H6
/-- o[i], by values -/
def PGet (X : Cx) (t : V → V → Hp → VK → Prop) : Prop :=
  ∀ (pins : List (Addr × Obj)) (s : Shared) (σ : St) (H : Hp) (o i : V) (ov iv : Value) (Q : VK), Inv X pins σ H s → RelV o ov → RelV i iv → t o i H Q →
    wpAny (model X.prog X.w) X.A (getItem ov iv) (EP X pins σ Q) X.xe s
/-- ints -/
def ipI (f : Int → Int → Int) : TIp := fun x y H Q => ∃ i j, x = .int i ∧ y = .int j ∧ Q (.int (f i j)) H
end

/-! ### while -/
section
variable {X : Cx} {pos : Pos}
/-- the invariant W with its measure -/
def tWhile (c : TT) (tb : TS) : TS := fun D σ H => ∃ W : Nat → St → Hp → Prop, (∃ m, W m σ H) ∧ ∀ m σ H, W m σ H →
  c σ H fun b H1 => if b = true then ∃ N : St → Hp → Prop, (∀ σ' H', N σ' H' → ∃ m', m' < m ∧ W m' σ' H') ∧ tb { D with nx := N, ct := N, bk := D.nx } σ H1 else D.nx σ H1
end

/-! ### what a loop or a comprehension walks -/
/-- at turn i: it yields x (the heap may grow), or it stops -/
structure It where
  go : Nat → Hp → Prop
  yld : Nat → Hp → V → Hp → Prop
  stop : Nat → Hp → Prop
/-- the iterator's own objects may turn: they are not the frame's, not pinned, younger than the entry (or a comprehension's own) -/
def FpOk (X : Cx) (pins : List (Addr × Obj)) (H : Hp) (b : Addr) : Prop :=
  H b = none ∧ b ≠ X.env.locals ∧ b ∉ X.fs ∧ (b ∈ X.ex ∨ X.s₀.heap.objs.size ≤ b) ∧ (∀ x c, X.env.cells.lookup x = some c → c ≠ b) ∧ ∀ p ∈ X.pn ++ pins, p.1 ≠ b
theorem Inv.fpOk {X : Cx} {pins : List (Addr × Obj)} {σ : St} {H H' : Hp} {s : Shared} {b : Addr} (I : Inv X pins σ H s) (hb : s.heap.objs.size ≤ b) (hn : H' b = none) : FpOk X pins H' b := by
  refine ⟨hn, Nat.ne_of_gt (Nat.lt_of_lt_of_le I.lt hb), I.nofs hb, .inr (Nat.le_trans I.sz hb), fun x c e z => ?_, fun p hp z => ?_⟩
  · obtain ⟨v, q⟩ := I.cell x c e
    exact absurd (Nat.lt_of_lt_of_le q.lt (by rw [z]; exact hb)) (Nat.lt_irrefl _)
  · exact absurd (Nat.lt_of_lt_of_le (Heap.lt_size (I.pin p hp).1) (by rw [z]; exact hb)) (Nat.lt_irrefl _)
structure Turn (P : Program) (w : World) (K : PySem.W.Frag) (tg : Expr) (J : It) (fp : List Addr) (it : Addr) (tn : Nat → Heap → Prop) : Prop where
  mem : it ∈ fp
  obj : ∀ i h, tn i h → ∀ b ∈ fp, ∃ o, h.get? b = some o ∧ ∀ v, o.data ≠ .cell v
  keep : ∀ i h h', tn i h → (∀ b ∈ fp, ∀ o, h.get? b = some o → h'.get? b = some o) → tn i h'
  item : ∀ (X : Cx), X.prog = P → X.w = w → X.K = K → X.calm = true → ∀ (i : Nat) (pins : List (Addr × Obj)) (s : Shared) (σ : St) (H : Hp) (E : Value → Shared → Prop), Inv X pins σ H s → (∀ b ∈ fp, FpOk X pins H b) → tn i s.heap → J.go i H →
    wpAny (model P w) X.A (pyNext (.ref it)) (fun r s1 => ∃ u, r = some u ∧
      wpAny (model P w) X.A (letOwnedTupleGo tg (.ref it) u) (fun _ s2 => ∃ x H', Inv X pins σ H' s2 ∧ RelV x u ∧ J.yld i H x H' ∧ tn (i + 1) s2.heap ∧ ∀ b ∈ fp, H' b = none) E s1) E s
  done : ∀ (X : Cx), X.prog = P → X.w = w → X.K = K → X.calm = true → ∀ (i : Nat) (pins : List (Addr × Obj)) (s : Shared) (σ : St) (H : Hp) (E : Value → Shared → Prop), Inv X pins σ H s → (∀ b ∈ fp, FpOk X pins H b) → tn i s.heap → J.stop i H →
    wpAny (model P w) X.A (pyNext (.ref it)) (fun r s1 => r = none ∧ Inv X pins σ H s1) E s
  self : ∀ (A : Around) (i : Nat) (s : Shared) (Q : Value → Shared → Prop) (E : Value → Shared → Prop), tn i s.heap → Q (.ref it) s → wpAny (model P w) A (pyIter (.ref it)) Q E s
abbrev TI := St → Hp → (It → Hp → Prop) → Prop
/-- an iterator has come -/
def PIE (X : Cx) (pins : List (Addr × Obj)) (σ : St) (tg : Expr) (R : It → Hp → Prop) (itv : Value) (s2 : Shared) : Prop :=
  ∃ (it : Addr) (fp : List Addr) (tn : Nat → Heap → Prop) (J : It) (H' : Hp), itv = .ref it ∧ Inv X pins σ H' s2 ∧ Turn X.prog X.w X.K tg J fp it tn ∧ tn 0 s2.heap ∧ (∀ b ∈ fp, FpOk X pins H' b) ∧ R J H'
def PI (X : Cx) (tg iter : Expr) (wi : TI) : Prop :=
  ∀ (pins : List (Addr × Obj)) (s : Shared) (σ : St) (H : Hp) (R : It → Hp → Prop), Inv X pins σ H s → wi σ H R →
    wpAny (model X.prog X.w) X.A (eval iter X.env) (fun v s1 => wpAny (model X.prog X.w) X.A (pyIter v) (PIE X pins σ tg R) X.xe s1) X.xe s

/-- the step ahead of the store is nothing for an iterator that keeps no tuple -/
theorem go_of {M : Model} {A : Around} {E : Value → Shared → Prop} {s : Shared} {tg : Expr} {it : Addr} {u : Value} {o : Obj} {n : String} {vs : Array Value} {Q : Unit → Shared → Prop} (ho : s.heap.get? it = some o) (hc : o.cls = .type n) (hd : o.data = .fields vs)
    (hn : ["enumerate", "zip", "dict_itemiterator", "dict_reverseitemiterator", "odict_iterator", "itertools.zip_longest", "itertools.pairwise"].contains n = false) (hQ : Q () s) : wpAny M A (letOwnedTupleGo tg (.ref it) u) Q E s := by
  unfold letOwnedTupleGo
  cases tg <;> first
    | exact wpAny_pure hQ
    | (cases u <;> first
        | exact wpAny_pure hQ
        | (refine wpAny_bind (wpAny_load ho ?_)
           rw [hc, hd]
           show wpAny M A (if (["enumerate", "zip", "dict_itemiterator", "dict_reverseitemiterator", "odict_iterator", "itertools.zip_longest", "itertools.pairwise"].contains n && vs[0]? == some (rawInt _)) = true then _ else _) Q E s
           rw [if_neg (by intro h; rw [hn, Bool.false_and] at h; cases h)]
           exact wpAny_pure hQ))

/-- the list at a, as it stands at each turn (a loop may append to it) -/
def Itl (K : PySem.W.Frag) (a : Addr) : It :=
  ⟨fun i H => ∃ xs x, SqL K H a xs ∧ xs[i]? = some x, fun i H x H' => H' = H ∧ ∀ xs, SqL K H a xs → xs[i]? = some x, fun i H => ∃ xs, SqL K H a xs ∧ xs.length ≤ i⟩
def Itt (K : PySem.W.Frag) (a : Addr) : It :=
  ⟨fun i H => ∃ xs x, SqT K H a xs ∧ xs[i]? = some x, fun i H x H' => H' = H ∧ ∀ xs, SqT K H a xs → xs[i]? = some x, fun i H => ∃ xs, SqT K H a xs ∧ xs.length ≤ i⟩
/-- lo, lo + 1, .. (n of them) -/
def Itr (lo : Int) (n : Nat) : It := ⟨fun i _ => i < n, fun i H x H' => H' = H ∧ x = .int (lo + i), fun i _ => n ≤ i⟩
theorem turn_list {P : Program} {w : World} {K : PySem.W.Frag} {tg : Expr} (a it : Addr) : Turn P w K tg (Itl K a) [it] it (fun i h => h.IsListIter it a i) where
  mem := by simp
  obj := fun i h st b hb => by
    have e : b = it := by simpa using hb
    subst e
    obtain ⟨o, e, c, d⟩ := st
    exact ⟨o, e, fun v z => by rw [d] at z; cases z⟩
  keep := fun i h h' st k => st.at fun o e => k it (by simp) o e
  item := by
    intro X hP hw hK hc i pins s σ H E I hf st hg
    subst hP hw hK
    obtain ⟨xs, x, hq, hx⟩ := hg
    obtain ⟨its, rv, p, hz⟩ := I.list hq
    obtain ⟨u, hu, ru⟩ := rv.get hx
    obtain ⟨f0, f1, f2, f3, f4, f5⟩ := hf it (by simp)
    refine wpAny_pyNext_list_item st p.isList (x := u) (by simpa using hu) fun h' st' sb => ?_
    have I1 : Inv X pins σ H { s with heap := h' } := I.turned (t' := s.toks) (fun b o hb e => (sb.2 b hb).trans e) f0 f1 f3 f4 f5
    obtain ⟨o, e, c, d⟩ := id st'
    exact ⟨u, rfl, go_of (s := { s with heap := h' }) e c d (by decide) ⟨x, H, I1, ru, ⟨rfl, fun ys hy => by rw [I.list_inj hy hq]; exact hx⟩, st', fun b hb => (hf b hb).1⟩⟩
  done := by
    intro X hP hw hK hc i pins s σ H E I hf st hg
    subst hP hw hK
    obtain ⟨xs, hq, hx⟩ := hg
    obtain ⟨its, rv, p, hz⟩ := I.list hq
    obtain ⟨f0, f1, f2, f3, f4, f5⟩ := hf it (by simp)
    have hl := rv.length
    exact wpAny_pyNext_list_end (I.ok.hd hc) st p.isList (by simp; omega) fun h' eb => ⟨rfl, I.turned (t' := s.toks) (fun b o hb e => eb b o hb e) f0 f1 f3 f4 f5⟩
  self := fun _ _ _ _ _ st h => wpAny_pyIter_listiter st h
theorem turn_range {P : Program} {w : World} {K : PySem.W.Frag} {tg : Expr} (it : Addr) (lo : Int) (n : Nat) : Turn P w K tg (Itr lo n) [it] it (fun i h => IsRangeIter h it (lo + (i : Nat) * 1) ((n : Int) - (i : Nat)) 1) where
  mem := by simp
  obj := fun i h st b hb => by
    have e : b = it := by simpa using hb
    subst e
    exact ⟨_, st, fun v z => by
      have z' : Data.fields _ = Data.cell v := z
      cases z'⟩
  keep := fun i h h' st k => k it (by simp) _ st
  item := by
    intro X hP hw hK hc i pins s σ H E I hf st hg
    subst hP hw hK
    obtain ⟨f0, f1, f2, f3, f4, f5⟩ := hf it (by simp)
    have W := Walks.range (prog := X.prog) (w := X.w) (I.ok.hd hc) it lo 1 n
    refine W.item i s _ _ hg st fun v h' tk hv st' kk => ?_
    obtain ⟨t, rfl⟩ := hv
    have I1 : Inv X pins σ H { s with heap := h', toks := tk } := I.turned (fun b o hb e => kk b o (by simpa using hb) e) f0 f1 f3 f4 f5
    refine ⟨_, rfl, go_of (s := { s with heap := h', toks := tk }) (n := "range_iterator") st' rfl rfl (by decide) ⟨.int (lo + i), H, I1, ⟨t, ?_⟩, ⟨rfl, rfl⟩, st', fun b hb => (hf b hb).1⟩⟩
    rw [Int.mul_one]
  done := by
    intro X hP hw hK hc i pins s σ H E I hf st hg
    subst hP hw hK
    obtain ⟨f0, f1, f2, f3, f4, f5⟩ := hf it (by simp)
    exact wpAny_pyNext_range_end (I.ok.hd hc) st (by have : n ≤ i := hg; omega) fun h' eb => ⟨rfl, I.turned (t' := s.toks) (fun b o hb e => eb b o hb e) f0 f1 f3 f4 f5⟩
  self := fun _ _ _ _ _ st h => wpAny_pyIter_rangeiter st h
end L2

namespace L2
open PySem PySem.Spec PyProof.Rows
section
variable {X : Cx} {tg : Expr}
def iList (K : PySem.W.Frag) (tl : TE) : TI := fun σ H R => tl σ H fun x H1 => ∃ a, x = .ref a ∧ (∃ xs, SqL K H1 a xs) ∧ R (Itl K a) H1
def iTup (K : PySem.W.Frag) (tl : TE) : TI := fun σ H R => tl σ H fun x H1 => ∃ a, x = .ref a ∧ (∃ xs, SqT K H1 a xs) ∧ R (Itt K a) H1
theorem pi_list {l : Expr} {tl : TE} (hl : PE X l tl) : PI X tg l (iList X.K tl) := by
  intro pins s σ H R I h
  refine thn (hl pins s σ H _ I h) fun v s1 ⟨x, H1, I1, r1, q1⟩ => ?_
  obtain ⟨a, e, ⟨xs, hq⟩, q⟩ := q1
  subst e
  cases r1
  obtain ⟨its, rv, p, hz⟩ := I1.list hq
  refine wpAny_pyIter_list p.isList ?_
  refine ⟨s1.heap.objs.size, [s1.heap.objs.size], _, _, H1, rfl, I1.kept (t' := s1.toks) fun b o e => Heap.get?_push_of_some _ e, turn_list a _, ⟨_, Heap.get?_push_size _ rfl, rfl, rfl⟩, fun b hb => ?_, q⟩
  have e : b = s1.heap.objs.size := by simpa using hb
  subst e
  exact I1.fpOk (Nat.le_refl _) (I1.hok.fresh (Nat.le_refl _))
/-- a range object just made, walked -/
theorem range_it {pins : List (Addr × Obj)} {σ : St} {H : Hp} {s : Shared} {R : It → Hp → Prop} {E : Value → Shared → Prop} {lo hi : Int} {t u v : Tok} {tk : Nat} (I : Inv X pins σ H s) (h1 : -(2 ^ 62) ≤ lo) (h2 : lo < 2 ^ 62) (h3 : -(2 ^ 62) ≤ hi) (h4 : hi < 2 ^ 62)
    (q : R (Itr lo (hi - lo).toNat) H) : wpAny (model X.prog X.w) X.A (pyIter (.ref s.heap.objs.size)) (PIE X pins σ tg R) E { s with heap := s.heap.push { cls := .type "range", data := .fields #[.int lo t, .int hi u, .int 1 v] }, toks := tk } := by
  refine wpAny_pyIter_range (IsRange.new ..) (small_one h1 h2 h3 h4) ?_
  have I1 : Inv X pins σ H { s with heap := s.heap.push { cls := .type "range", data := .fields #[.int lo t, .int hi u, .int 1 v] }, toks := tk } := I.kept fun b o e => Heap.get?_push_of_some _ e
  refine ⟨(s.heap.push { cls := .type "range", data := .fields #[.int lo t, .int hi u, .int 1 v] }).objs.size, [(s.heap.push { cls := .type "range", data := .fields #[.int lo t, .int hi u, .int 1 v] }).objs.size], _, _, H, rfl,
    I1.kept (t' := tk) fun b o e => Heap.get?_push_of_some _ e, turn_range _ lo (hi - lo).toNat, ?_, fun b hb => ?_, q⟩
  · have e1 : lo + ((0 : Nat) : Int) * 1 = lo := by simp
    have e2 : (((hi - lo).toNat : Nat) : Int) - ((0 : Nat) : Int) = Builtin.Range.rangeSize lo hi 1 := by rw [rangeSize_one]; split <;> omega
    show IsRangeIter _ _ (lo + ((0 : Nat) : Int) * 1) ((((hi - lo).toNat : Nat) : Int) - ((0 : Nat) : Int)) 1
    rw [e1, e2]
    exact Heap.get?_push_size _ rfl
  · have e : b = (s.heap.push { cls := .type "range", data := .fields #[.int lo t, .int hi u, .int 1 v] }).objs.size := by simpa using hb
    subst e
    exact I1.fpOk (Nat.le_refl _) (I1.hok.fresh (Nat.le_refl _))
def iRng1 (ta : TA) : TI := fun σ H R => ta σ H fun vs H1 => ∃ j : Int, vs = [.int j] ∧ -(2 ^ 62) ≤ j ∧ j < 2 ^ 62 ∧ R (Itr 0 j.toNat) H1
def iRng2 (ta : TA) : TI := fun σ H R => ta σ H fun vs H1 => ∃ i j : Int, vs = [.int i, .int j] ∧ (-(2 ^ 62) ≤ i ∧ i < 2 ^ 62 ∧ -(2 ^ 62) ≤ j ∧ j < 2 ^ 62) ∧ R (Itr i (j - i).toNat) H1
theorem pi_range1 {a : Expr} {ta : TA} {p pos : Pos} (hg : Gl X "range") (hm : X.mg "range" = none) (ha : PA X [a] ta) (hs : starEach [a] X.env = [(false, eval a X.env)] := by rfl) : PI X tg (.Call (.Name "range" p) [a] [] pos) (iRng1 ta) := by
  intro pins s σ H R I h
  refine Call_ (ld_blt I hg hm boot_range (PyProof.Rows.callWith_type1 (thn (ha pos pins s σ H _ I h) fun us s1 ⟨vs, H1, I1, r1, q1⟩ => ?_) hs rfl))
  obtain ⟨j, e, q1, q2, q⟩ := q1
  subst e
  cases r1 with
  | cons r rr =>
    cases rr
    obtain ⟨t, rfl⟩ := r
    exact call_range_1 (range_it I1 (by omega) (by omega) q1 q2 (by simpa using q))
/-! ### for -/
/-- W: the invariant by the turn and a measure; N: what the body is to reach -/
def tFor (wi : TI) (g : TG) (tb : TS) : TS := fun D σ H => wi σ H fun J H1 => ∃ W : Nat → Nat → St → Hp → Prop, (∃ m, W 0 m σ H1) ∧ ∀ i m σ H, W i m σ H →
  (J.stop i H ∧ D.nx σ H) ∨ (J.go i H ∧ ∃ N : St → Hp → Prop, (∀ σ' H', N σ' H' → ∃ m', m' < m ∧ W (i + 1) m' σ' H') ∧ ∀ x H', J.yld i H x H' → g x σ H' fun σ2 H2 => tb { D with nx := N, ct := N, bk := D.nx } σ2 H2)
/-- the records at fp as they stand -/
def pinsAt (fp : List Addr) (h : Heap) : List (Addr × Obj) := fp.filterMap fun b => (h.get? b).map fun o => (b, o)
theorem mem_pinsAt {fp : List Addr} {h : Heap} {b : Addr} {o : Obj} (hb : b ∈ fp) (e : h.get? b = some o) : (b, o) ∈ pinsAt fp h := List.mem_filterMap.mpr ⟨b, hb, by rw [e]; rfl⟩
theorem of_pinsAt {fp : List Addr} {h : Heap} {p : Addr × Obj} (hp : p ∈ pinsAt fp h) : p.1 ∈ fp ∧ h.get? p.1 = some p.2 := by
  obtain ⟨b, hb, e⟩ := List.mem_filterMap.mp hp
  cases q : h.get? b with
  | none => rw [q] at e; cases e
  | some o =>
    rw [q] at e
    have e' : (b, o) = p := Option.some.inj e
    subst e'
    exact ⟨hb, q⟩
theorem Inv.pinned {pins : List (Addr × Obj)} {σ : St} {H : Hp} {s : Shared} {fp : List Addr} (I : Inv X pins σ H s) (hf : ∀ b ∈ fp, FpOk X pins H b) (ho : ∀ b ∈ fp, ∃ o, s.heap.get? b = some o ∧ ∀ v, o.data ≠ .cell v) : Inv X (pins ++ pinsAt fp s.heap) σ H s :=
  I.pins_of fun p hp => (List.mem_append.mp hp).elim (fun z => I.pin p (List.mem_append_right _ z)) fun z => by
    obtain ⟨hb, e⟩ := of_pinsAt z
    obtain ⟨f0, f1, f2, _⟩ := hf p.1 hb
    obtain ⟨o, e', d⟩ := ho p.1 hb
    rw [e] at e'; cases e'
    exact ⟨e, f0, f1, f2, d⟩
theorem Inv.unpinned {pins pl : List (Addr × Obj)} {σ : St} {H : Hp} {s : Shared} (I : Inv X (pins ++ pl) σ H s) : Inv X pins σ H s := I.pins_of fun p hp => I.pin p (List.mem_append_right _ (List.mem_append_left _ hp))
theorem ps_for {iter : Expr} {body : List Stmt} {wi : TI} {g : TG} {tb : TS} {pos : Pos} (hp : PassesOwn (model X.prog X.w) X.A X.env X.xe) (hc : X.calm = true) (hi : PI X tg iter wi) (hg : PG X tg g) (hb : PSs X body tb)
    (hs : ∀ x, foldedSetIterable iter X.env x = pure x := by intro _; rfl) : PS X (.For tg iter body [] pos) (tFor wi g tb) := by
  intro pins s σ H D I h
  refine wpAny_For (thn (hi pins s σ H _ I h) fun v s1 h1 => thn h1 fun itv s2 h2 => ?_) hs
  obtain ⟨it, fp, tn, J, H2, e, I2, T, st2, f2, W, ⟨m0, w0⟩, turn⟩ := h2
  subst e
  -- what stays true of the iterator's objects through the loop
  have stat : ∀ {H' : Hp}, (∀ b ∈ fp, H' b = none) → ∀ b ∈ fp, FpOk X pins H' b := fun hn b hb => ⟨hn b hb, (f2 b hb).2⟩
  refine codeAny_forLoop_any (fun n s' => ∃ i σ' H', Inv X pins σ' H' s' ∧ tn i s'.heap ∧ (∀ b ∈ fp, H' b = none) ∧ W i n σ' H') ?_ m0 ⟨0, σ, H2, I2, st2, fun b hb => (f2 b hb).1, w0⟩
  rintro n s3 ⟨i, σ3, H3, I3, st3, fr3, w3⟩
  rcases turn i n σ3 H3 w3 with ⟨stop, qn⟩ | ⟨go, N, hN, step⟩
  · refine wpAny_passesOwn hp (thn (T.done X rfl rfl rfl hc i pins s3 σ3 H3 X.xe I3 (stat fr3) st3 stop) fun r s4 ⟨hr, I4⟩ => ?_)
    subst hr
    exact wpAny_execs_nil ⟨σ3, H3, I4, qn⟩
  · refine wpAny_passesOwn hp (thn (T.item X rfl rfl rfl hc i pins s3 σ3 H3 X.xe I3 (stat fr3) st3 go) fun r s4 ⟨u, hr, h4⟩ => ?_)
    subst hr
    refine wpAny_passesOwn hp (thn h4 fun _ s5 ⟨x, H5, I5, r5, y5, st5, fr5⟩ => ?_)
    have I5' := I5.pinned (stat fr5) (T.obj _ _ st5)
    refine wpAny_passesOwn hp (thn (hg _ s5 σ3 H5 x u _ I5' r5 (step x H5 y5)) fun _ s6 ⟨σ6, H6, I6, q6⟩ => ?_)
    refine wpAny_passesOwn hp (thn (hb _ s6 σ6 H6 _ I6 q6) fun f s7 q7 => ?_)
    have again : ∀ {σ7 : St} {H7 : Hp}, Inv X (pins ++ pinsAt fp s5.heap) σ7 H7 s7 → N σ7 H7 → ∃ m, m < n ∧ ∃ i σ' H', Inv X pins σ' H' s7 ∧ tn i s7.heap ∧ (∀ b ∈ fp, H' b = none) ∧ W i m σ' H' := fun {σ7 H7} I7 n7 => by
      obtain ⟨m', hm, w7⟩ := hN σ7 H7 n7
      refine ⟨m', hm, i + 1, σ7, H7, I7.unpinned, T.keep _ _ _ st5 fun b hb o e => (I7.pin (b, o) (List.mem_append_right _ (List.mem_append_right _ (mem_pinsAt hb e)))).1, fun b hb => ?_, w7⟩
      obtain ⟨o, e, d⟩ := T.obj _ _ st5 b hb
      exact (I7.pin (b, o) (List.mem_append_right _ (List.mem_append_right _ (mem_pinsAt hb e)))).2.1
    cases f with
    | next => obtain ⟨σ7, H7, I7, n7⟩ := q7; exact again I7 n7
    | cont => obtain ⟨σ7, H7, I7, n7⟩ := q7; exact again I7 n7
    | brk => obtain ⟨σ7, H7, I7, q7⟩ := q7; exact ⟨σ7, H7, I7.unpinned, q7⟩
    | ret v => obtain ⟨x7, σ7, H7, I7, r7, q7⟩ := q7; exact ⟨x7, σ7, H7, I7.unpinned, r7, q7⟩
end

/-! ### the forms one uses -/
/-- over a list that the body leaves as it is -/
theorem for_list {K : PySem.W.Frag} {a : Addr} {xs : List V} {g : TG} {tb : TS} {D : Ends} {σ : St} {H : Hp} (Pv : Nat → St → Hp → Prop) (h0 : Pv 0 σ H) (hl : ∀ i σ H, i ≤ xs.length → Pv i σ H → SqL K H a xs)
    (hs : ∀ i x σ H, xs[i]? = some x → Pv i σ H → g x σ H fun σ2 H2 => tb { D with nx := Pv (i + 1), ct := Pv (i + 1), bk := D.nx } σ2 H2) (hd : ∀ σ H, Pv xs.length σ H → D.nx σ H) :
    ∃ W : Nat → Nat → St → Hp → Prop, (∃ m, W 0 m σ H) ∧ ∀ i m σ H, W i m σ H →
      ((Itl K a).stop i H ∧ D.nx σ H) ∨ ((Itl K a).go i H ∧ ∃ N : St → Hp → Prop, (∀ σ' H', N σ' H' → ∃ m', m' < m ∧ W (i + 1) m' σ' H') ∧ ∀ x H', (Itl K a).yld i H x H' → g x σ H' fun σ2 H2 => tb { D with nx := N, ct := N, bk := D.nx } σ2 H2) := by
  refine ⟨fun i m σ H => m = xs.length - i ∧ i ≤ xs.length ∧ Pv i σ H, ⟨xs.length, by simp, Nat.zero_le _, h0⟩, ?_⟩
  rintro i m σ H ⟨rfl, hi, p⟩
  have q := hl i σ H hi p
  by_cases hlt : i < xs.length
  · refine .inr ⟨⟨xs, xs[i], q, by simp [hlt]⟩, Pv (i + 1), fun σ' H' p' => ⟨xs.length - (i + 1), by omega, rfl, hlt, p'⟩, fun x H' y => ?_⟩
    obtain ⟨e, y⟩ := y
    subst e
    exact hs i x σ _ (y xs q) p
  · have e : i = xs.length := by omega
    subst e
    exact .inl ⟨⟨xs, q, Nat.le_refl _⟩, hd σ H p⟩
theorem for_range {lo : Int} {n : Nat} {g : TG} {tb : TS} {D : Ends} {σ : St} {H : Hp} (Pv : Nat → St → Hp → Prop) (h0 : Pv 0 σ H)
    (hs : ∀ i σ H, i < n → Pv i σ H → g (.int (lo + i)) σ H fun σ2 H2 => tb { D with nx := Pv (i + 1), ct := Pv (i + 1), bk := D.nx } σ2 H2) (hd : ∀ σ H, Pv n σ H → D.nx σ H) :
    ∃ W : Nat → Nat → St → Hp → Prop, (∃ m, W 0 m σ H) ∧ ∀ i m σ H, W i m σ H →
      ((Itr lo n).stop i H ∧ D.nx σ H) ∨ ((Itr lo n).go i H ∧ ∃ N : St → Hp → Prop, (∀ σ' H', N σ' H' → ∃ m', m' < m ∧ W (i + 1) m' σ' H') ∧ ∀ x H', (Itr lo n).yld i H x H' → g x σ H' fun σ2 H2 => tb { D with nx := N, ct := N, bk := D.nx } σ2 H2) := by
  refine ⟨fun i m σ H => m = n - i ∧ i ≤ n ∧ Pv i σ H, ⟨n, by simp, Nat.zero_le _, h0⟩, ?_⟩
  rintro i m σ H ⟨rfl, hi, p⟩
  by_cases hlt : i < n
  · refine .inr ⟨hlt, Pv (i + 1), fun σ' H' p' => ⟨n - (i + 1), by omega, rfl, hlt, p'⟩, fun x H' y => ?_⟩
    obtain ⟨e, y⟩ := y
    subst e y
    exact hs i σ _ hlt p
  · have e : i = n := by omega
    subst e
    exact .inl ⟨Nat.le_refl _, hd σ H p⟩
end L2

namespace L2
open PySem PySem.Spec PyProof.Rows

abbrev R2 := V → V → Hp → VK → Prop
/-- a two-place operation on values: f is binaryOp op, inplaceOp op or compareOp op -/
def OpR (X : Cx) (f : Value → Value → Sem Value) (r : R2) : Prop :=
  ∀ (pins : List (Addr × Obj)) (s : Shared) (σ : St) (H : Hp) (x y : V) (v u : Value) (Q : VK), Inv X pins σ H s → RelV x v → RelV y u → r x y H Q →
    wpAny (model X.prog X.w) X.A (f v u) (EP X pins σ Q) X.xe s
/-- a one-place operation -/
def UnR (X : Cx) (f : Value → Sem Value) (r : V → Hp → VK → Prop) : Prop :=
  ∀ (pins : List (Addr × Obj)) (s : Shared) (σ : St) (H : Hp) (x : V) (v : Value) (Q : VK), Inv X pins σ H s → RelV x v → r x H Q →
    wpAny (model X.prog X.w) X.A (f v) (EP X pins σ Q) X.xe s
/-- a call of a value that is known (a builtin, a type) with values -/
def CallR (X : Cx) (f : Value) (r : List V → Hp → VK → Prop) : Prop :=
  ∀ (pins : List (Addr × Obj)) (s : Shared) (σ : St) (H : Hp) (xs : List V) (us : List Value) (Q : VK), Inv X pins σ H s → Vals xs us → r xs H Q →
    wpAny (model X.prog X.w) X.A (call f us) (EP X pins σ Q) X.xe s
/-- a value's truth -/
def TruR (X : Cx) (r : V → Hp → (Bool → Hp → Prop) → Prop) : Prop :=
  ∀ (pins : List (Addr × Obj)) (s : Shared) (σ : St) (H : Hp) (x : V) (v : Value) (Q : Bool → Hp → Prop), Inv X pins σ H s → RelV x v → r x H Q →
    wpAny (model X.prog X.w) X.A (truthy v) (TP X pins σ Q) X.xe s

def tOp (r : R2) (ta tb : TE) : TE := fun σ H Q => ta σ H fun x H1 => tb σ H1 fun y H2 => r x y H2 Q
def tUn (r : V → Hp → VK → Prop) (ta : TE) : TE := fun σ H Q => ta σ H fun x H1 => r x H1 Q
/-- ints in, under C, and a value out -/
def rI (C : Int → Int → Prop) (g : Int → Int → V) : R2 := fun x y H Q => ∃ i j, x = .int i ∧ y = .int j ∧ C i j ∧ Q (g i j) H
def rI0 (g : Int → Int → V) : R2 := fun x y H Q => ∃ i j, x = .int i ∧ y = .int j ∧ Q (g i j) H
def rU (g : Int → V) : V → Hp → VK → Prop := fun x H Q => ∃ i, x = .int i ∧ Q (g i) H

section
variable {X : Cx} {a b c : Expr} {ta tb tc : TE} {pos : Pos}

theorem binT (ha : PE X a ta) (hb : PE X b tb) {pins : List (Addr × Obj)} {s : Shared} {σ : St} {H : Hp} {R : V → V → Hp → Prop} (I : Inv X pins σ H s)
    (h : ta σ H fun x H1 => tb σ H1 fun y H2 => R x y H2) {Q : Value → Shared → Prop} {f : Value → Value → Sem Value}
    (hf : ∀ v u s2 x y H2, Inv X pins σ H2 s2 → RelV x v → RelV y u → R x y H2 → wpAny (model X.prog X.w) X.A (f v u) Q X.xe s2) :
    wpAny (model X.prog X.w) X.A (eval a X.env) (fun v s₁ => wpAny (model X.prog X.w) X.A (eval b X.env) (fun u s₂ => wpAny (model X.prog X.w) X.A (f v u) Q X.xe s₂) X.xe s₁) X.xe s := by
  refine thn (ha pins s σ H _ I h) fun v s1 ⟨x, H1, I1, r1, q1⟩ => ?_
  refine thn (hb pins s1 σ H1 _ I1 q1) fun u s2 ⟨y, H2, I2, r2, q2⟩ => ?_
  exact hf v u s2 x y H2 I2 r1 r2 q2

theorem pe_op {op : Operator} {r : R2} (ho : OpR X (binaryOp op) r) (ha : PE X a ta) (hb : PE X b tb) : PE X (.BinOp a op b pos) (tOp r ta tb) := by
  intro pins s σ H Q I h
  exact wpAny_BinOp (binT ha hb I h fun v u s2 x y H2 I2 rx ry q => ho pins s2 σ H2 x y v u Q I2 rx ry q)
/-! ### ints -/
theorem opI {f : Value → Value → Sem Value} {C : Int → Int → Prop} {g : Int → Int → Int}
    (rule : ∀ (i j : Int) (t u : Tok) (s : Shared) (Q : Value → Shared → Prop) (E : Value → Shared → Prop), C i j → Q (.int (g i j) s.toks) { s with toks := s.toks + 1 } → wpAny (model X.prog X.w) X.A (f (.int i t) (.int j u)) Q E s) :
    OpR X f (rI C fun i j => .int (g i j)) := by
  intro pins s σ H x y v u Q I rx ry h
  obtain ⟨i, j, rfl, rfl, hc, q⟩ := h
  obtain ⟨t, rfl⟩ := rx
  obtain ⟨t', rfl⟩ := ry
  exact rule i j t t' s _ _ hc ⟨.int (g i j), H, I.tok _, ⟨_, rfl⟩, q⟩
theorem opI0 {f : Value → Value → Sem Value} {g : Int → Int → Int}
    (rule : ∀ (i j : Int) (t u : Tok) (s : Shared) (Q : Value → Shared → Prop) (E : Value → Shared → Prop), Q (.int (g i j) s.toks) { s with toks := s.toks + 1 } → wpAny (model X.prog X.w) X.A (f (.int i t) (.int j u)) Q E s) :
    OpR X f (rI0 fun i j => .int (g i j)) := by
  intro pins s σ H x y v u Q I rx ry h
  obtain ⟨i, j, rfl, rfl, q⟩ := h
  obtain ⟨t, rfl⟩ := rx
  obtain ⟨t', rfl⟩ := ry
  exact rule i j t t' s _ _ ⟨.int (g i j), H, I.tok _, ⟨_, rfl⟩, q⟩
theorem opB0 {f : Value → Value → Sem Value} {g : Int → Int → Bool}
    (rule : ∀ (i j : Int) (t u : Tok) (s : Shared) (Q : Value → Shared → Prop) (E : Value → Shared → Prop), Q (.bool (g i j)) s → wpAny (model X.prog X.w) X.A (f (.int i t) (.int j u)) Q E s) :
    OpR X f (rI0 fun i j => .bl (g i j)) := by
  intro pins s σ H x y v u Q I rx ry h
  obtain ⟨i, j, rfl, rfl, q⟩ := h
  obtain ⟨t, rfl⟩ := rx
  obtain ⟨t', rfl⟩ := ry
  exact rule i j t t' s _ _ ⟨.bl (g i j), H, I, rfl, q⟩

def CDiv (i j : Int) : Prop := 0 < j ∧ j < 1073741824
def CDivN (i j : Int) : Prop := j ≠ 0 ∧ j.natAbs < 1073741824
def CPow (i j : Int) : Prop := 0 ≤ j ∧ j ≤ 1000000 ∧ i.natAbs < 2 ^ 64
def CMul (i j : Int) : Prop := (-(2 ^ 64) < i ∧ i < 2 ^ 64) ∨ (-(2 ^ 64) < j ∧ j < 2 ^ 64)
theorem CMul.ok {i j : Int} (h : CMul i j) : IntMulOk i j := by
  rcases h with ⟨h1, h2⟩ | ⟨h1, h2⟩
  · exact .of_left (intBits_le_64 h1 h2)
  · exact .of_right (intBits_le_64 h1 h2)
theorem two_pow_nn (k : Nat) : (0 : Int) ≤ 2 ^ k := by
  rw [two_pow_cast]
  exact Int.natCast_nonneg _

theorem op_add : OpR X (binaryOp .Add) (rI0 fun i j => .int (i + j)) := opI0 fun _ _ _ _ _ _ _ q => add_int q
theorem op_sub : OpR X (binaryOp .Sub) (rI0 fun i j => .int (i - j)) := opI0 fun _ _ _ _ _ _ _ q => sub_int q
theorem op_mul : OpR X (binaryOp .Mult) (rI CMul fun i j => .int (i * j)) := opI fun _ _ _ _ _ _ _ hc q => mul_int q hc.ok
/-- // by a positive divisor -/
theorem op_fdiv : OpR X (binaryOp .FloorDiv) (rI CDiv fun i j => .int (i / j)) := opI fun i j _ _ _ _ _ hc q => by
  have h1 : (0 : Int) < j := hc.1
  have h2 : j < 1073741824 := hc.2
  exact floordiv_int (by omega) (by rw [Int.fdiv_eq_ediv_of_nonneg i (by omega)]; exact q) (.inl (PyProof.noPylong_small (by omega)))
/-- % by a positive divisor of any size -/
theorem op_mod : OpR X (binaryOp .Mod) (rI (fun _ j => 0 < j) fun i j => .int (i % j)) := opI fun i j _ _ _ _ _ hc q => by
  have h1 : (0 : Int) < j := hc
  exact mod_int' (by omega) (by rw [Int.fmod_eq_emod_of_nonneg i (by omega)]; exact q)
theorem op_shl : OpR X (binaryOp .LShift) (rI CPow fun i j => .int (i * 2 ^ j.toNat)) := opI fun _ _ _ _ _ _ _ hc q => lshift_int_small hc.1 hc.2.1 hc.2.2 q
theorem op_shr : OpR X (binaryOp .RShift) (rI (fun _ j => 0 ≤ j) fun i j => .int (i / 2 ^ j.toNat)) := opI fun i j _ _ _ _ _ hc q =>
  rshift_int hc (by rw [Int.fdiv_eq_ediv_of_nonneg i (two_pow_nn _)]; exact q)
theorem op_and : OpR X (binaryOp .BitAnd) (rI0 fun i j => .int (Builtin.bitAnd i j)) := opI0 fun _ _ _ _ _ _ _ q => and_int q
theorem op_or : OpR X (binaryOp .BitOr) (rI0 fun i j => .int (Builtin.bitOr i j)) := opI0 fun _ _ _ _ _ _ _ q => or_int q
/-! ### bools among ints: n += (a < b) -/
end

/-! ### comparisons -/
/-- the scalars that == tells apart as data does -/
def scal : V → V → Bool
  | .non, .non => true | .non, .int _ => true | .int _, .non => true | .non, .bl _ => true | .bl _, .non => true | .non, .str _ => true | .str _, .non => true
  | .int _, .int _ => true | .bl _, .bl _ => true | .str _, .str _ => true | .byt _, .byt _ => true
  | .int _, .str _ => true | .str _, .int _ => true | .bl _, .str _ => true | .str _, .bl _ => true
  | _, _ => false
def rEq : R2 := fun x y H Q => scal x y = true ∧ Q (.bl (decide (x = y))) H
def rNe : R2 := fun x y H Q => scal x y = true ∧ Q (.bl (!decide (x = y))) H

theorem dec_int {i j : Int} : decide (V.int i = V.int j) = (i == j) := by
  rw [Bool.eq_iff_iff]
  simp
theorem dec_bl {i j : Bool} : decide (V.bl i = V.bl j) = (i == j) := by
  rw [Bool.eq_iff_iff]
  simp
theorem dec_str {i j : Str} : decide (V.str i = V.str j) = (i == j) := by
  rw [Bool.eq_iff_iff]
  simp
theorem dec_byt {i j : Array UInt8} : decide (V.byt i = V.byt j) = (i.toList == j.toList) := by
  rw [Bool.eq_iff_iff]
  cases i
  cases j
  simp

section
variable {X : Cx} {a b c : Expr} {ta tb tc : TE} {pos : Pos}
theorem fin_bl {pins : List (Addr × Obj)} {σ : St} {H : Hp} {s : Shared} {Q : VK} {k k' : Bool} (I : Inv X pins σ H s) (q : Q (.bl k) H) (e : k = k') : EP X pins σ Q (.bool k') s := by
  subst e
  exact ⟨.bl k, H, I, rfl, q⟩
theorem op_eq : OpR X (compareOp .Eq) rEq := by
  intro pins s σ H x y v u Q I rx ry h
  obtain ⟨hs, q⟩ := h
  cases x with
  | non =>
    cases rx
    cases y with
    | non => cases ry; exact PySem.EqNone.eq_none_none (fin_bl I q (by simp))
    | bl j => cases ry; exact PySem.EqNone.eq_none_bool (fin_bl I q (by simp))
    | int j => obtain ⟨t', rfl⟩ := ry; exact PySem.EqNone.eq_none_int (fin_bl I q (by simp))
    | str j => obtain ⟨t', rfl⟩ := ry; exact PySem.EqNone.eq_none_str (fin_bl I q (by simp))
    | _ => exact absurd (show false = true from hs) Bool.false_ne_true
  | bl i =>
    cases rx
    cases y with
    | non => cases ry; exact PySem.EqNone.eq_bool_none (fin_bl I q (by simp))
    | bl j => cases ry; exact eq_bool (fin_bl I q dec_bl)
    | str j => obtain ⟨t', rfl⟩ := ry; exact PySem.EqMixed.eq_bool_str (fin_bl I q (by simp))
    | _ => exact absurd (show false = true from hs) Bool.false_ne_true
  | int i =>
    obtain ⟨t, rfl⟩ := rx
    cases y with
    | non => cases ry; exact PySem.EqNone.eq_int_none (fin_bl I q (by simp))
    | int j => obtain ⟨t', rfl⟩ := ry; exact eq_int (fin_bl I q dec_int)
    | str j => obtain ⟨t', rfl⟩ := ry; exact PySem.EqMixed.eq_int_str (fin_bl I q (by simp))
    | _ => exact absurd (show false = true from hs) Bool.false_ne_true
  | str i =>
    obtain ⟨t, rfl⟩ := rx
    cases y with
    | non => cases ry; exact PySem.EqNone.eq_str_none (fin_bl I q (by simp))
    | bl j => cases ry; exact PySem.EqMixed.eq_str_bool (fin_bl I q (by simp))
    | int j => obtain ⟨t', rfl⟩ := ry; exact PySem.EqMixed.eq_str_int (fin_bl I q (by simp))
    | str j => obtain ⟨t', rfl⟩ := ry; exact eq_str (fin_bl I q dec_str)
    | _ => exact absurd (show false = true from hs) Bool.false_ne_true
  | byt i =>
    obtain ⟨t, rfl⟩ := rx
    cases y with
    | byt j => obtain ⟨t', rfl⟩ := ry; exact PySem.W.eq_bytes (fin_bl I q dec_byt)
    | _ => exact absurd (show false = true from hs) Bool.false_ne_true
  | _ => cases y <;> exact absurd (show false = true from hs) Bool.false_ne_true
theorem op_ne : OpR X (compareOp .NotEq) rNe := by
  intro pins s σ H x y v u Q I rx ry h
  obtain ⟨hs, q⟩ := h
  cases x with
  | non =>
    cases rx
    cases y with
    | non => cases ry; exact PySem.EqNone.ne_none_none (fin_bl I q (by simp))
    | bl j => cases ry; exact PySem.EqNone.ne_none_bool (fin_bl I q (by simp))
    | int j => obtain ⟨t', rfl⟩ := ry; exact PySem.EqNone.ne_none_int (fin_bl I q (by simp))
    | str j => obtain ⟨t', rfl⟩ := ry; exact PySem.EqNone.ne_none_str (fin_bl I q (by simp))
    | _ => exact absurd (show false = true from hs) Bool.false_ne_true
  | bl i =>
    cases rx
    cases y with
    | non => cases ry; exact PySem.EqNone.ne_bool_none (fin_bl I q (by simp))
    | bl j => cases ry; exact ne_bool (fin_bl I q (congrArg not dec_bl))
    | str j => obtain ⟨t', rfl⟩ := ry; exact PySem.EqMixed.ne_bool_str (fin_bl I q (by simp))
    | _ => exact absurd (show false = true from hs) Bool.false_ne_true
  | int i =>
    obtain ⟨t, rfl⟩ := rx
    cases y with
    | non => cases ry; exact PySem.EqNone.ne_int_none (fin_bl I q (by simp))
    | int j => obtain ⟨t', rfl⟩ := ry; exact ne_int (fin_bl I q (congrArg not dec_int))
    | str j => obtain ⟨t', rfl⟩ := ry; exact PySem.EqMixed.ne_int_str (fin_bl I q (by simp))
    | _ => exact absurd (show false = true from hs) Bool.false_ne_true
  | str i =>
    obtain ⟨t, rfl⟩ := rx
    cases y with
    | non => cases ry; exact PySem.EqNone.ne_str_none (fin_bl I q (by simp))
    | bl j => cases ry; exact PySem.EqMixed.ne_str_bool (fin_bl I q (by simp))
    | int j => obtain ⟨t', rfl⟩ := ry; exact PySem.EqMixed.ne_str_int (fin_bl I q (by simp))
    | str j => obtain ⟨t', rfl⟩ := ry; exact ne_str (fin_bl I q (congrArg not dec_str))
    | _ => exact absurd (show false = true from hs) Bool.false_ne_true
  | byt i =>
    obtain ⟨t, rfl⟩ := rx
    cases y with
    | byt j => obtain ⟨t', rfl⟩ := ry; exact PySem.W.ne_bytes (fin_bl I q (congrArg not dec_byt))
    | _ => exact absurd (show false = true from hs) Bool.false_ne_true
  | _ => cases y <;> exact absurd (show false = true from hs) Bool.false_ne_true

theorem op_lt : OpR X (compareOp .Lt) (rI0 fun i j => .bl (decide (i < j))) := opB0 fun _ _ _ _ _ _ _ q => lt_int q
theorem op_le : OpR X (compareOp .LtE) (rI0 fun i j => .bl (decide (i ≤ j))) := opB0 fun _ _ _ _ _ _ _ q => le_int q
theorem op_gt : OpR X (compareOp .Gt) (rI0 fun i j => .bl (decide (j < i))) := opB0 fun _ _ _ _ _ _ _ q => gt_int q
theorem op_ge : OpR X (compareOp .GtE) (rI0 fun i j => .bl (decide (j ≤ i))) := opB0 fun _ _ _ _ _ _ _ q => ge_int q
theorem op_notN : OpR X (compareOp .IsNot) (fun x y H Q => y = .non ∧ Q (.bl (!decide (x = .non))) H) := by
  intro pins s σ H x y v u Q I rx ry h
  obtain ⟨rfl, q⟩ := h
  cases ry
  refine isnot_none_gen (fin_bl I q ?_)
  cases x <;> first
    | (cases rx; rfl)
    | (obtain ⟨t, rfl⟩ := rx; rfl)

/-- is, is not of two objects that are tracked lists or instances -/
def isObj : HO → Bool
  | .lst _ => true
  | .ins _ _ _ => true
  | _ => false
theorem nomark (b : Expr) {op : CmpOp} (h : op ≠ .In := by decide) (h2 : op ≠ .NotIn := by decide) : behindInMarks op b = false := by
  have e1 : (op == CmpOp.In) = false := by cases op <;> first | rfl | exact absurd rfl h
  have e2 : (op == CmpOp.NotIn) = false := by cases op <;> first | rfl | exact absurd rfl h2
  cases b <;> simp [behindInMarks, e1, e2]
/-- a comparison as a value; hm: nomark b, or (for in, not in) by with_unfolding_all rfl -/
theorem pe_cmpR {op : CmpOp} {r : R2} (ho : OpR X (compareOp op) r) (ha : PE X a ta) (hb : PE X b tb) (hm : behindInMarks op b = false) : PE X (.Compare a [op] [b] pos) (tOp r ta tb) := by
  intro pins s σ H Q I h
  exact wpAny_Compare1 (binT ha hb I h fun v u s2 x y H2 I2 rx ry q => ho pins s2 σ H2 x y v u Q I2 rx ry q) hm
/-- a reading of a value as a test -/
def tTest (t : TE) : TT := fun σ H Q => t σ H fun x H' => ∃ k, x = .bl k ∧ Q k H'
theorem pt_cmpR {op : CmpOp} {r : R2} (ho : OpR X (compareOp op) r) (ha : PE X a ta) (hb : PE X b tb) (hm : behindInMarks op b = false) : PT X (.Compare a [op] [b] pos) (tTest (tOp r ta tb)) := by
  intro pins s σ H Q I h
  refine wpAny_isTrue_Compare1 (thn (ha pins s σ H _ I h) fun v s1 ⟨x, H1, I1, r1, q1⟩ => thn (hb pins s1 σ H1 _ I1 q1) fun u s2 ⟨y, H2, I2, r2, q2⟩ =>
    thn (ho pins s2 σ H2 x y v u _ I2 r1 r2 q2) fun c s3 ⟨z, H3, I3, r3, k, e, q3⟩ => ?_) hm
  subst e
  cases r3
  exact wpAny_truthy_bool ⟨H3, I3, q3⟩
/-- a op1 b op2 c -/
def tChain (r r' : R2) (ta tb tc : TE) : TE := fun σ H Q => ta σ H fun x H1 => tb σ H1 fun y H2 => r x y H2 fun z H3 => ∃ k, z = .bl k ∧
  (if k = true then tc σ H3 fun w' H4 => r' y w' H4 Q else Q (.bl false) H3)
theorem pe_chain {op op' : CmpOp} {r r' : R2} (ho : OpR X (compareOp op) r) (ho' : OpR X (compareOp op') r') (ha : PE X a ta) (hb : PE X b tb) (hc : PE X c tc)
    (hm : lastMarks [op, op'] [b, c] = false := by with_unfolding_all rfl) : PE X (.Compare a [op, op'] [b, c] pos) (tChain r r' ta tb tc) := by
  intro pins s σ H Q I h
  refine Compare_chain (thn (ha pins s σ H _ I h) fun v s1 ⟨x, H1, I1, r1, q1⟩ => chain_link (thn (hb pins s1 σ H1 _ I1 q1) fun u s2 ⟨y, H2, I2, r2, q2⟩ =>
    thn (ho pins s2 σ H2 x y v u _ I2 r1 r2 q2) fun d s3 ⟨z, H3, I3, r3, k, e, q3⟩ => ?_)) hm
  subst e
  cases r3
  refine wpAny_truthy_bool ?_
  cases k with
  | false => exact ite_ff ⟨.bl false, H3, I3, rfl, q3⟩
  | true => exact ite_tt (chain_last (thn (hc pins s3 σ H3 _ I3 q3) fun w' s4 ⟨z', H4, I4, r4, q4⟩ => ho' pins s4 σ H4 y z' u w' Q I4 r2 r4 q4))
theorem pt_chain {op op' : CmpOp} {r r' : R2} (ho : OpR X (compareOp op) r) (ho' : OpR X (compareOp op') r') (ha : PE X a ta) (hb : PE X b tb) (hc : PE X c tc)
    (hm : lastMarks [op, op'] [b, c] = false := by with_unfolding_all rfl) : PT X (.Compare a [op, op'] [b, c] pos) (tTest (tChain r r' ta tb tc)) := by
  intro pins s σ H Q I h
  refine isTrue_chain (thn (ha pins s σ H _ I h) fun v s1 ⟨x, H1, I1, r1, q1⟩ => test_link (thn (hb pins s1 σ H1 _ I1 q1) fun u s2 ⟨y, H2, I2, r2, q2⟩ =>
    thn (ho pins s2 σ H2 x y v u _ I2 r1 r2 q2) fun d s3 ⟨z, H3, I3, r3, k, e, q3⟩ => ?_)) hm
  subst e
  cases r3
  refine wpAny_truthy_bool ?_
  cases k with
  | false =>
    obtain ⟨k', e', q'⟩ := q3
    cases e'
    exact ite_ff ⟨H3, I3, q'⟩
  | true =>
    refine ite_tt (test_last (thn (hc pins s3 σ H3 _ I3 q3) fun w' s4 ⟨z', H4, I4, r4, q4⟩ => thn (ho' pins s4 σ H4 y z' u w' _ I4 r2 r4 q4) fun d' s5 ⟨z2, H5, I5, r5, k2, e2, q5⟩ => ?_))
    subst e2
    cases r5
    exact wpAny_truthy_bool ⟨H5, I5, q5⟩

/-! ### truth -/
/-- a value's truth by the abstract heap -/
def TruV (K : PySem.W.Frag) (x : V) (H : Hp) (k : Bool) : Prop :=
  match x with
  | .non => k = false
  | .bl b => k = b
  | .int i => k = (i != 0)
  | .str y => y.length ≤ sizeLine ∧ k = ((y.length : Int) != 0)
  | .byt y => y.size ≤ sizeLine ∧ k = ((y.size : Int) != 0)
  | .ref p => (∃ xs, SqL K H p xs ∧ k = !xs.isEmpty) ∨ (∃ xs, SqT K H p xs ∧ k = !xs.isEmpty) ∨ ∃ kvs, H p = some (.dK kvs) ∧ k = !kvs.isEmpty
  | _ => False
theorem line63 : (sizeLine : Nat) < 2 ^ 63 := by rw [sizeLine_eq]; decide
/-! ### strs and bytes -/
def PlainIxT (b : Expr) : Prop := ∀ o i, subscripted b false o i = operate [o, i] (getItem o i)
/-! ### scalar builtins, by CallR -/
theorem vals1 {x : V} {us : List Value} (r : Vals [x] us) : ∃ u, us = [u] ∧ RelV x u := by
  cases r with
  | cons r1 r2 => cases r2; exact ⟨_, rfl, r1⟩
theorem vals2 {x y : V} {us : List Value} (r : Vals [x, y] us) : ∃ u w', us = [u, w'] ∧ RelV x u ∧ RelV y w' := by
  cases r with
  | cons r1 r2 =>
    cases r2 with
    | cons r3 r4 => cases r4; exact ⟨_, _, rfl, r1, r3⟩
theorem call_max2 (hc : X.calm = true) : CallR X (.builtin "max") (fun xs H Q => ∃ i j, xs = [.int i, .int j] ∧ Q (.int (if j > i then j else i)) H) := by
  intro pins s σ H xs us Q I r h
  obtain ⟨i, j, rfl, q⟩ := h
  obtain ⟨u, w', rfl, ⟨t, rfl⟩, ⟨t', rfl⟩⟩ := vals2 r
  refine max_two_ints (I.ok.hd hc) fun h' tk k => ⟨_, H, I.kept k, ?_, q⟩
  by_cases hj : j > i
  · rw [if_pos hj, if_pos hj]; exact ⟨_, rfl⟩
  · rw [if_neg hj, if_neg hj]; exact ⟨_, rfl⟩
/-- len of a str, a bytes, a list, a tuple -/
def LenV (K : PySem.W.Frag) (x : V) (H : Hp) (n : Nat) : Prop :=
  match x with
  | .str y => y.length ≤ sizeLine ∧ n = y.length
  | .byt y => y.size ≤ sizeLine ∧ n = y.size
  | .ref p => (∃ xs, SqL K H p xs ∧ n = xs.length) ∨ ∃ xs, SqT K H p xs ∧ n = xs.length
  | _ => False
end
end L2

namespace L2
open PySem PySem.Spec PyProof.Rows

/-! ### an instance, its attributes a map -/
structure ObjM (h : Heap) (x dx C : Addr) (mA : Str → Option Value) : Prop where
  obj : h.get? x = some (PySem.W.instObj C dx)
  ns : h.Ns1 dx mA
  ne : dx ≠ x

theorem lookIn_ns {h : Heap} {dx : Addr} {mA : Str → Option Value} (n : h.Ns1 dx mA) : ∃ od, h.get? dx = some od ∧ ∀ name, PySem.W.lookIn name od = some (mA name) := by
  obtain ⟨o, es, ep, ho, hd, hk, _, hm⟩ := n
  refine ⟨o, ho, fun name => ?_⟩
  have e := hm name
  unfold nsFind findBy at e
  rw [← Array.find?_toList] at e
  unfold PySem.W.lookIn
  rw [hd]
  dsimp only
  split
  · rename_i y q
    rw [q] at e
    exact congrArg some e
  · rename_i q
    rw [q] at e
    have a : es.toList.any (·.refKey) = false := by
      rw [List.any_eq_false]
      intro y hy
      obtain ⟨z, t, hkey⟩ := hk y (Array.mem_toList_iff.mp hy)
      simp [DictEntry.refKey, hkey]
    have a' : ¬ es.toList.any (·.refKey) = true := by rw [a]; exact Bool.false_ne_true
    rw [if_neg a']
    exact congrArg some e

theorem ObjM.look {h : Heap} {x dx C : Addr} {mA : Str → Option Value} (I : ObjM h x dx C mA) : ∃ od, PySem.W.InstAt h x (PySem.W.instObj C dx) C (some od) ∧ ∀ name, PySem.W.lookIn name od = some (mA name) :=
  let ⟨od, ho, hl⟩ := lookIn_ns I.ns
  ⟨od, ⟨I.obj, rfl, rfl, ho⟩, hl⟩

section
variable {prog : Program} {w : World} {A : Around} {E : Value → Shared → Prop} {s : Shared} {K : PySem.W.Frag} {x dx C f : Addr} {mA : Str → Option Value} {name : Str} {v : Value}

theorem get_map {expr : Bool} {Q : Value → Shared → Prop} (X : K.In s.heap) (I : ObjM s.heap x dx C mA) (hg : PySem.W.plainGet K C name = true) (hh : PySem.W.hasDictIn K C = true)
    (ha : PySem.W.findIn K (.ref C) name = some none) (hv : mA name = some v) (hv' : PySem.W.handedIn v = true) (h : Q v { s with toks := s.toks + 1 }) :
    wpAny (model prog w) A (getAttr (.ref x) name expr) Q E s := by
  obtain ⟨od, J, hl⟩ := I.look
  exact PySem.W.get_value X J (PySem.W.plainGet_of hg).1 (PySem.W.findObj_own hh ha rfl (by rw [hl, hv])) hv' h

theorem get_meth {pl : Sem Bool} {Q : Value × List Value → Shared → Prop} (X : K.In s.heap) (I : ObjM s.heap x dx C mA) (hg : PySem.W.plainGet K C name = true)
    (hf : PySem.W.findIn K (.ref C) name = some (some (.ref f))) (ht : PySem.W.isFn K (.ref f) = true) (hv : mA name = none) (h : Q (.ref f, [.ref x]) s) :
    wpAny (model prog w) A (getMethod (.ref x) name pl) Q E s := by
  obtain ⟨od, J, hl⟩ := I.look
  exact PySem.W.method_fn X J (PySem.W.plainGet_of hg).1 (PySem.W.plainGet_of hg).2 hf (beq_iff_eq.mp ht) (by show (PySem.W.lookIn name od).map (·.isSome) = some false; rw [hl, hv]; rfl) h

theorem set_map {ns : List Str} {Q : Unit → Shared → Prop} (X : K.In s.heap) (I : ObjM s.heap x dx C mA)
    (hs : PySem.W.findIn K (.ref C) "__setattr__" = some (some (.builtin "object.__setattr__"))) (hp : PySem.W.plainOver K C = true) (ht : PySem.W.takerIn K C name = some none) (hh : PySem.W.hasDictIn K C = true)
    (hw : PySem.Within mA ns) (hsz : ns.length ≤ sizeLine)
    (h : ∀ h', ObjM h' x dx C (fun y => if y = name then some v else mA y) → Heap.SameBut dx s.heap h' → Q () { s with heap := h', toks := s.toks + 2 }) :
    wpAny (model prog w) A (setAttr (.ref x) name v) Q E s := by
  obtain ⟨od, J, hl⟩ := I.look
  refine PySem.W.set_plain X J hs (PySem.W.osa_open (s := { s with toks := s.toks + 1 }) (r := none) X J hp ht fun b => ?_)
  obtain ⟨cd, hc, hd'⟩ := PySem.W.any_some hh
  have hx : s.heap.get? x = some ⟨.ref C, some dx, .plain, #[]⟩ := I.obj
  refine wpAny_bind (wpAny_pure (wpAny_bind (wpAny_bind (wpAny_loadPart hx (wpAny_bind (PySem.W.Looks.here (s := { s with toks := s.toks + 1 }) (PySem.W.looks_clsIn X hc) ?_))))))
  rw [hd']
  refine wpAny_pure (a := some dx) (wpAny_bind (wpAny_pure (wpAny_bind ?_)))
  refine wpAny_nsSet1 (s := { s with toks := s.toks + 1 }) I.ns fun h' hn2 hs2 => ?_
  obtain ⟨oD, esD, epD, hoD, hdD, hcD⟩ := hn2.count (PySem.Within.cons name v hw)
  refine wpAny_bind (wpAny_lookBehind hoD (by rw [hdD]; exact pastItsLine_dict (Nat.le_trans hcD (by rw [List.length_cons]; omega))) ?_)
  exact wpAny_pure (h _ ⟨(hs2.2 _ (Ne.symm I.ne)).trans I.obj, hn2, I.ne⟩ hs2)

/-- C(..): the dict at the heap's end, the instance behind it; then its __init__ -/
theorem make_map {R : Result → Shared → Prop} {vs : List Value} {kw : List (Str × Value)} (X : K.In s.heap) (hm : PySem.W.makesIn K C = true)
    (hi : PySem.W.findIn K (.ref C) "__init__" = some (some (.ref f))) (hf : PySem.W.typeIn K (.ref f) = some (.type "function"))
    (h : codeAny (model prog w) (A.under (.builtin "type.__call__" ⟨.ref C :: vs, kw⟩)) (.call (.ref f) ⟨.ref (s.heap.objs.size + 1) :: vs, kw⟩) (PySem.W.InitBack (s.heap.objs.size + 1) R)
      { s with heap := (s.heap.push PySem.W.emptyDict).push (PySem.W.instObj C s.heap.objs.size) }) :
    codeAny (model prog w) A (.call (.ref C) ⟨vs, kw⟩) R s := by
  obtain ⟨hh, g, d, t, os⟩ := s
  exact PySem.W.make_core (PySem.W.makes_of X hm) (PySem.W.looks_findIn X hi) (fun self => PySem.W.bind_fn X self hf) (.inl rfl) h
end

/-! ### the attributes as a list of pairs -/
def putF (f : Str) (v : V) : List (Str × V) → List (Str × V)
  | [] => [(f, v)]
  | (g, x) :: r => if g = f then (g, v) :: r else (g, x) :: putF f v r
theorem lookup_putF (f g : Str) (v : V) : ∀ fs : List (Str × V), (putF f v fs).lookup g = if g = f then some v else fs.lookup g
  | [] => by
    show List.lookup g [(f, v)] = _
    by_cases h : g = f
    · have hb : (g == f) = true := beq_iff_eq.mpr h
      simp only [List.lookup, hb, if_pos h]
    · have hb : (g == f) = false := beq_eq_false_iff_ne.mpr h
      simp only [List.lookup, hb, if_neg h]
  | (k, x) :: r => by
    have ih := lookup_putF f g v r
    rw [show putF f v ((k, x) :: r) = (if k = f then (k, v) :: r else (k, x) :: putF f v r) from rfl]
    by_cases hk : k = f
    · rw [if_pos hk]
      by_cases h : g = k
      · have hb : (g == k) = true := beq_iff_eq.mpr h
        simp only [List.lookup, hb, if_pos (h.trans hk)]
      · have hb : (g == k) = false := beq_eq_false_iff_ne.mpr h
        simp only [List.lookup, hb, if_neg (fun e : g = f => h (e.trans hk.symm))]
    · rw [if_neg hk]
      by_cases h : g = k
      · have hb : (g == k) = true := beq_iff_eq.mpr h
        simp only [List.lookup, hb, if_neg (fun e : g = f => hk (h.symm.trans e))]
      · have hb : (g == k) = false := beq_eq_false_iff_ne.mpr h
        simp only [List.lookup, hb]
        exact ih
theorem keys_putF (f : Str) (v : V) : ∀ fs : List (Str × V), f ∈ (putF f v fs).map (·.1) ∧ ∀ g, g ∈ fs.map (·.1) → g ∈ (putF f v fs).map (·.1)
  | [] => ⟨by simp [putF], fun g h => by simp at h⟩
  | (k, x) :: r => by
    obtain ⟨i1, i2⟩ := keys_putF f v r
    rw [show putF f v ((k, x) :: r) = (if k = f then (k, v) :: r else (k, x) :: putF f v r) from rfl]
    by_cases hk : k = f
    · rw [if_pos hk]
      subst hk
      exact ⟨by simp, fun g h => by simpa using h⟩
    · rw [if_neg hk]
      refine ⟨?_, fun g h => ?_⟩
      · rw [List.map_cons]
        exact List.mem_cons_of_mem _ i1
      · rw [List.map_cons] at h ⊢
        rcases List.mem_cons.mp h with e | e
        · exact List.mem_cons.mpr (.inl e)
        · exact List.mem_cons_of_mem _ (i2 g e)
theorem length_putF (f : Str) (v : V) : ∀ fs : List (Str × V), (putF f v fs).length ≤ fs.length + 1
  | [] => by simp [putF]
  | (k, x) :: r => by
    have ih := length_putF f v r
    rw [show putF f v ((k, x) :: r) = (if k = f then (k, v) :: r else (k, x) :: putF f v r) from rfl]
    by_cases hk : k = f
    · rw [if_pos hk, List.length_cons, List.length_cons]; omega
    · rw [if_neg hk, List.length_cons, List.length_cons]; omega

theorem RelO.some_of {v : V} {o : Option Value} (r : RelO (some v) o) : ∃ u, o = some u ∧ RelV v u := by
  cases o with
  | none => exact (show False from r).elim
  | some u => exact ⟨u, rfl, r⟩
theorem RelO.none_of {o : Option Value} (r : RelO none o) : o = none := by
  cases o with
  | none => rfl
  | some u => exact (show False from r).elim
theorem handed_of {v : V} {u : Value} (r : RelV v u) : PySem.W.handedIn u = true := by
  cases v with
  | non => cases (show u = Value.none from r); rfl
  | bl b => cases (show u = Value.bool b from r); rfl
  | int i => obtain ⟨t, e⟩ := (show ∃ t, u = Value.int i t from r); cases e; rfl
  | str x => obtain ⟨t, e⟩ := (show ∃ t, u = Value.str x t from r); cases e; rfl
  | byt b => obtain ⟨t, e⟩ := (show ∃ t, u = Value.bytes b t from r); cases e; rfl
  | flt b => obtain ⟨t, e⟩ := (show ∃ t, u = Value.float b t from r); cases e; rfl
  | ref a => cases (show u = Value.ref a from r); rfl
  | ty n => cases (show u = Value.type n from r); rfl

section
variable {P : Program} {w : World} {H H' : Hp} {h h' : Heap} {a C dx : Addr} {fs fs' : List (Str × V)}
theorem ins_get (hok : HOk P w H h) (e : H a = some (.ins C dx fs)) : ∃ mA, ObjM h a dx C mA ∧ (∀ f, RelO (fs.lookup f) (mA f)) ∧ PySem.Within mA (fs.map (·.1)) ∧ fs.length ≤ 1000 ∧ H dx = some (.own a) := by
  obtain ⟨d, z, ne, ob, mA, n, r, q⟩ := (show ObjOk P w H h a (.ins C dx fs) from hok a _ e)
  exact ⟨mA, ⟨ob, n, ne⟩, r, q, z, d⟩
end

/-! ### what of the text a class must have -/
structure Cls (K : PySem.W.Frag) (C : Addr) : Prop where
  pg : PySem.W.plainGet K C Str.empty = true
  hd : PySem.W.hasDictIn K C = true
  po : PySem.W.plainOver K C = true
  sa : PySem.W.findIn K (.ref C) "__setattr__" = some (some (.builtin "object.__setattr__"))
theorem Cls.get {K : PySem.W.Frag} {C : Addr} (c : Cls K C) (f : Str) : PySem.W.plainGet K C f = true := c.pg
/-- no class of it has the name -/
def NoAttr (K : PySem.W.Frag) (C : Addr) (f : Str) : Prop := PySem.W.findIn K (.ref C) f = some none
theorem NoAttr.taker {K : PySem.W.Frag} {C : Addr} {f : Str} (n : NoAttr K C f) : PySem.W.takerIn K C f = some none := by
  unfold PySem.W.takerIn
  rw [show PySem.W.findIn K (.ref C) f = some none from n]
  rfl
/-- a constant of the class -/
structure Con (K : PySem.W.Frag) (C : Addr) (f : Str) (v : V) (u : Value) : Prop where
  at_ : PySem.W.findIn K (.ref C) f = some (some u)
  rel : RelV v u
  get : PySem.W.specialIn K u "__get__" = some none
  cp : PySem.W.copiedNames.contains f = false
/-- a method: a plain def of the class or of one above it -/
structure Meth (K : PySem.W.Frag) (C : Addr) (m : Str) (f : Addr) : Prop where
  at_ : PySem.W.findIn K (.ref C) m = some (some (.ref f))
  fn : PySem.W.isFn K (.ref f) = true
  kp : PySem.W.keepIn K (.ref f) = true

section
variable {X : Cx} {pins : List (Addr × Obj)} {σ : St} {H : Hp} {s : Shared} {a C dx : Addr} {fs : List (Str × V)} {f : Str} {v : V} {A : Around} {E : Value → Shared → Prop}

theorem getattr_ok {b : Bool} {Q : Value → Shared → Prop} (I : Inv X pins σ H s) (e : H a = some (.ins C dx fs)) (c : Cls X.K C) (n : NoAttr X.K C f) (l : fs.lookup f = some v)
    (h : ∀ u s', Inv X pins σ H s' → RelV v u → Q u s') : wpAny (model X.prog X.w) A (getAttr (.ref a) f b) Q E s := by
  obtain ⟨mA, O, r, _, _, _⟩ := ins_get I.hok e
  obtain ⟨u, hu, ru⟩ := RelO.some_of (v := v) (o := mA f) (by rw [← l]; exact r f)
  exact get_map I.kIn O (c.get f) c.hd n hu (handed_of ru) (h u _ (I.tok _) ru)

theorem getmeth_ok {m : Str} {g : Addr} {pl : Sem Bool} {Q : Value × List Value → Shared → Prop} (I : Inv X pins σ H s) (e : H a = some (.ins C dx fs)) (c : Cls X.K C) (k : Meth X.K C m g) (l : fs.lookup m = none)
    (h : Q (.ref g, [.ref a]) s) : wpAny (model X.prog X.w) A (getMethod (.ref a) m pl) Q E s := by
  obtain ⟨mA, O, r, _, _, _⟩ := ins_get I.hok e
  have hn : mA m = none := RelO.none_of (by rw [← l]; exact r m)
  exact get_meth I.kIn O (c.get m) k.at_ k.fn hn h

theorem setattr_ok {y : V} {u : Value} {Q : Unit → Shared → Prop} (I : Inv X pins σ H s) (e : H a = some (.ins C dx fs)) (c : Cls X.K C) (n : NoAttr X.K C f) (hl : fs.length < 1000) (ry : RelV y u)
    (h : ∀ s', Inv X pins σ (upd H a (.ins C dx (putF f y fs))) s' → Q () s') : wpAny (model X.prog X.w) A (setAttr (.ref a) f u) Q E s := by
  obtain ⟨mA, O, r, wi, _, ho⟩ := ins_get I.hok e
  have hz : (fs.map (·.1)).length ≤ sizeLine := by rw [List.length_map, sizeLine_eq]; omega
  refine set_map I.kIn O c.sa c.po n.taker c.hd wi hz fun h' O' sb => h _ ?_
  have hd : ∃ o, h'.get? dx = some o := let ⟨o, _, _, e', _⟩ := O'.ns; ⟨o, e'⟩
  refine I.write (x := a) (e := dx) (by rw [e]; exact True.intro) (.inr ho) (fun b q hb z => (sb.2 b hb).trans z) hd ?_
  refine ⟨by rw [upd_ne O.ne]; exact ho, ?_, O.ne, O'.obj, _, O'.ns, fun g => ?_, fun g hg => ?_⟩
  · have := length_putF f y fs; omega
  · show RelO ((putF f y fs).lookup g) (if g = f then some u else mA g)
    rw [lookup_putF]
    by_cases q : g = f
    · rw [if_pos q, if_pos q]; exact ry
    · rw [if_neg q, if_neg q]; exact r g
  · by_cases q : g = f
    · rw [q]; exact (keys_putF f y fs).1
    · refine (keys_putF f y fs).2 g (wi g fun z => hg ?_)
      show (if g = f then some u else mA g) = none
      rw [if_neg q]; exact z

/-- a new instance, tracked, without attributes -/
theorem Inv.made (I : Inv X pins σ H s) : Inv X pins σ (upd (upd H s.heap.objs.size (.own (s.heap.objs.size + 1))) (s.heap.objs.size + 1) (.ins C s.heap.objs.size []))
    { s with heap := (s.heap.push PySem.W.emptyDict).push (PySem.W.instObj C s.heap.objs.size) } := by
  have e1 : (s.heap.push PySem.W.emptyDict).get? s.heap.objs.size = some PySem.W.emptyDict := Heap.get?_push_size s.heap rfl
  have e2 : ((s.heap.push PySem.W.emptyDict).push (PySem.W.instObj C s.heap.objs.size)).get? (s.heap.objs.size + 1) = some (PySem.W.instObj C s.heap.objs.size) := by
    have := Heap.get?_push_size (s.heap.push PySem.W.emptyDict) (o := PySem.W.instObj C s.heap.objs.size) rfl
    rwa [Heap.size_push] at this
  have e3 : (s.heap.push PySem.W.emptyDict).Ns s.heap.objs.size (fun _ => none) := ⟨PySem.W.emptyDict, #[], _, e1, rfl, (fun e he => absurd he (by simp)), fun _ => rfl⟩
  have I1 := I.laid (a := s.heap.objs.size) (o := .own (s.heap.objs.size + 1)) (h' := s.heap.push PySem.W.emptyDict) (t' := s.toks) (fun b u q => Heap.get?_push_of_some _ q) (Nat.le_refl _) ⟨_, e1⟩
  refine I1.laid (a := s.heap.objs.size + 1) (o := .ins C s.heap.objs.size []) (t' := s.toks) (fun b u q => Heap.get?_push_of_some _ q) (Nat.le_of_eq (Heap.size_push _ _)) ?_
  have ne : s.heap.objs.size ≠ s.heap.objs.size + 1 := Nat.ne_of_lt (Nat.lt_succ_self _)
  refine ⟨by rw [upd_ne ne, upd_same], Nat.zero_le _, ne, e2, fun _ => none, (Heap.Ns1.of_empty e3).at fun o q => Heap.get?_push_of_some _ q, fun _ => True.intro, fun y hy => absurd rfl hy⟩

/-- e.f where nothing but the object is asked: through attributeBase (super) and the last hold -/
theorem attr_of {prog : Program} {w : World} {env : Env} {e : Expr} {f : Str} {pos : Pos} {s : Shared} {Q : Value → Shared → Prop} (hb : attributeBase e f env (eval e env) = eval e env)
    (h : wpAny (model prog w) A (eval e env) (fun o s₁ => wpAny (model prog w) A (getAttr o f true) Q E s₁) E s) : wpAny (model prog w) A (eval (.Attribute e f pos) env) Q E s :=
  Attribute_any_ h (by rw [arm_eval_Attribute, hb])
end

/-! ### readings and rules -/
/-- e.f, an attribute of the instance -/
def tFld (K : PySem.W.Frag) (ta : TE) (f : Str) : TE := fun σ H Q => ta σ H fun x H1 => ∃ a C dx fs v, x = .ref a ∧ H1 a = some (.ins C dx fs) ∧ Cls K C ∧ NoAttr K C f ∧ fs.lookup f = some v ∧ Q v H1
/-- e.f, a constant of the class -/
def tCon (K : PySem.W.Frag) (ta : TE) (f : Str) : TE := fun σ H Q => ta σ H fun x H1 => ∃ a C dx fs v u, x = .ref a ∧ H1 a = some (.ins C dx fs) ∧ Cls K C ∧ Con K C f v u ∧ fs.lookup f = none ∧ Q v H1
/-- e.f = value -/
def sFld (K : PySem.W.Frag) (ta tv : TE) (f : Str) : TS := fun D σ H => tv σ H fun y H1 => ta σ H1 fun x H2 => ∃ a C dx fs, x = .ref a ∧ H2 a = some (.ins C dx fs) ∧ Cls K C ∧ NoAttr K C f ∧ fs.length < 1000 ∧
  D.nx σ (upd H2 a (.ins C dx (putF f y fs)))
/-- an augmented operator on two values -/
def InOp (X : Cx) (op : Operator) (rd : V → V → Hp → VK → Prop) : Prop :=
  ∀ (pins : List (Addr × Obj)) (s : Shared) (σ : St) (H : Hp) (x y : V) (u v : Value) (Q : VK), Inv X pins σ H s → RelV x u → RelV y v → rd x y H Q → wpAny (model X.prog X.w) X.A (inplaceOp op u v) (EP X pins σ Q) X.xe s
/-- e.f op= value -/
def sFldAug (K : PySem.W.Frag) (ta tv : TE) (rd : V → V → Hp → VK → Prop) (f : Str) : TS := fun D σ H => ta σ H fun x H1 => ∃ a C dx fs v, x = .ref a ∧ H1 a = some (.ins C dx fs) ∧ Cls K C ∧ NoAttr K C f ∧ fs.lookup f = some v ∧
  tv σ H1 fun y H2 => rd v y H2 fun z H3 => ∃ dx' fs', H3 a = some (.ins C dx' fs') ∧ fs'.length < 1000 ∧ D.nx σ (upd H3 a (.ins C dx' (putF f z fs')))

section
variable {X : Cx} {o e value : Expr} {f : Str} {pos pos' tpos : Pos} {ta tv : TE}
theorem pe_fld (he : PE X e ta) (hb : attributeBase e f X.env (eval e X.env) = eval e X.env) : PE X (.Attribute e f pos) (tFld X.K ta f) := by
  intro pins s σ H Q I h
  refine attr_of hb (thn (he pins s σ H _ I h) fun u s1 ⟨x, H1, I1, rx, a, C, dx, fs, v, ex, ea, c, n, l, q⟩ => ?_)
  subst ex
  obtain rfl : u = Value.ref a := rx
  exact getattr_ok I1 ea c n l fun u' s2 I2 ru => ⟨v, H1, I2, ru, q⟩
theorem ps_fld (ha : PE X o ta) (hv : PE X value tv) (hs : swapsWith value (some (.Attribute o f pos')) pos.line X.env = pure false) : PS X (.Assign [.Attribute o f pos'] value pos) (sFld X.K ta tv f) := by
  intro pins s σ H D I h
  refine plainObj_wpAny_Assign_Attribute (thn (hv pins s σ H _ I h) fun u s1 ⟨y, H1, I1, ry, q⟩ => thn (ha pins s1 σ H1 _ I1 q) fun ov s2 ⟨x, H2, I2, rx, a, C, dx, fs, ex, ea, c, n, l, q2⟩ => ?_) hs
  subst ex
  obtain rfl : ov = Value.ref a := rx
  exact setattr_ok I2 ea c n l ry fun s3 I3 => ⟨σ, _, I3, q2⟩
def rAdd : V → V → Hp → VK → Prop := fun x y H Q => ∃ i j, x = .int i ∧ y = .int j ∧ Q (.int (i + j)) H
def rSub : V → V → Hp → VK → Prop := fun x y H Q => ∃ i j, x = .int i ∧ y = .int j ∧ Q (.int (i - j)) H
end

/-! ### isinstance -/
section
variable {X : Cx} {pins : List (Addr × Obj)} {σ : St} {H : Hp} {s : Shared} {A : Around} {E : Value → Shared → Prop} {Q : Value → Shared → Prop} {c : Value} {b : Bool}
/-- the type of a value, as the fragment's deciders take it; for an instance its class -/
inductive TyOf (K : PySem.W.Frag) (H : Hp) : V → Value → Prop where
  | non : TyOf K H .non (.type "NoneType")
  | bl (x : Bool) : TyOf K H (.bl x) (.type "bool")
  | int (i : Int) : TyOf K H (.int i) (.type "int")
  | str (x : Str) : TyOf K H (.str x) (.type "str")
  | flt (x : UInt64) : TyOf K H (.flt x) (.type "float")
  | lst {a : Addr} {xs : List V} (e : H a = some (.lst xs)) : TyOf K H (.ref a) (.type "list")
  | frz {a : Addr} {o : Obj} {xs : List V} (e : H a = some (.frz o (.lst xs))) : TyOf K H (.ref a) (.type "list")
  | tup {a : Addr} {xs : List V} (e : H a = some (.tup xs)) : TyOf K H (.ref a) (.type "tuple")
  | dK {a : Addr} {kvs : List (Key × V)} (e : H a = some (.dK kvs)) : TyOf K H (.ref a) (.type "dict")
  | dT {a : Addr} {kvs : List (List Key × V)} (e : H a = some (.dT kvs)) : TyOf K H (.ref a) (.type "dict")
  | ins {a C dx : Addr} {fs : List (Str × V)} (e : H a = some (.ins C dx fs)) (cl : Cls K C) (ha : PySem.W.findIn K (.ref C) "__class__" = some (some (.builtin "object.__class__")))
      (hn : PySem.W.specialIn K (.builtin "object.__class__") "__get__" = some (some (.builtin "getset_descriptor.__get__"))) (htk : PySem.W.takesIn K (.builtin "object.__class__") = some true)
      (hm : PySem.W.mroIn K C (.type "object") = some true) : TyOf K H (.ref a) (.ref C)
/-- isinstance(x, c) for one class c, a built-in or an own one: kitOne's answer -/
theorem isinst_ok {x : V} {u t : Value} (I : Inv X pins σ H s) (rx : RelV x u) (ty : TyOf X.K H x t) (e : PySem.W.kitOne X.K t c = some b) (h : ∀ tk, Q (.bool b) { s with toks := tk }) :
    wpAny (model X.prog X.w) A (call (.builtin "isinstance") [u, c]) Q E s := by
  cases ty with
  | non => cases (show u = Value.none from rx); exact PySem.W.kia_one PySem.W.kitx_none I.kIn True.intro e (fun z => nomatch z) h
  | bl y => cases (show u = Value.bool y from rx); exact PySem.W.kia_one PySem.W.kitx_bool I.kIn True.intro e (fun z => nomatch z) h
  | int i => obtain ⟨t, q⟩ := (show ∃ t, u = Value.int i t from rx); cases q; exact PySem.W.kia_one PySem.W.kitx_int I.kIn True.intro e (fun z => nomatch z) h
  | str y => obtain ⟨t, q⟩ := (show ∃ t, u = Value.str y t from rx); cases q; exact PySem.W.kia_one PySem.W.kitx_str I.kIn True.intro e (fun z => nomatch z) h
  | flt y => obtain ⟨t, q⟩ := (show ∃ t, u = Value.float y t from rx); cases q; exact PySem.W.kia_one PySem.W.kitx_float I.kIn True.intro e (fun z => nomatch z) h
  | @lst a xs ea =>
    cases (show u = Value.ref a from rx)
    obtain ⟨_, _, n, _, h1⟩ := (show ObjOk X.prog X.w H s.heap a (.lst xs) from I.hok a _ ea)
    exact PySem.W.kia_one PySem.W.kitx_list I.kIn ⟨_, h1, rfl⟩ e (fun z => nomatch z) h
  | @frz a ob xs ea =>
    cases (show u = Value.ref a from rx)
    obtain ⟨_, _, _, n, _, h1⟩ := (show ObjOk X.prog X.w H s.heap a (.frz ob (.lst xs)) from I.hok a _ ea)
    exact PySem.W.kia_one PySem.W.kitx_list I.kIn ⟨_, h1, rfl⟩ e (fun z => nomatch z) h
  | @tup a xs ea =>
    cases (show u = Value.ref a from rx)
    obtain ⟨_, _, _, p⟩ := (show ObjOk X.prog X.w H s.heap a (.tup xs) from I.hok a _ ea)
    obtain ⟨o, h1, h2, _⟩ := p
    exact PySem.W.kia_one PySem.W.kitx_tuple I.kIn ⟨o, h1, h2⟩ e (fun z => nomatch z) h
  | @dK a kvs ea =>
    cases (show u = Value.ref a from rx)
    obtain ⟨_, _, vs, _, p⟩ := (show ObjOk X.prog X.w H s.heap a (.dK kvs) from I.hok a _ ea)
    obtain ⟨o, es, ep, h1, h2, _⟩ := p
    exact PySem.W.kia_one PySem.W.kitx_dict I.kIn ⟨o, h1, h2.1⟩ e (fun z => nomatch z) h
  | @dT a kvs ea =>
    cases (show u = Value.ref a from rx)
    obtain ⟨_, _, xs, _, o, es, ep, h1, h2, _⟩ := (show ObjOk X.prog X.w H s.heap a (.dT kvs) from I.hok a _ ea)
    exact PySem.W.kia_one PySem.W.kitx_dict I.kIn ⟨o, h1, h2.1⟩ e (fun z => nomatch z) h
  | @ins a C dx fs ea cl ha hn htk hm =>
    cases (show u = Value.ref a from rx)
    obtain ⟨mA, O, _⟩ := ins_get I.hok ea
    obtain ⟨od, J, _⟩ := O.look
    exact PySem.W.kia_one (PySem.W.kitx_own (cl.get _) cl.hd ha hn htk hm) I.kIn J e (fun z => nomatch z) h
end
end L2

namespace L2
open PySem PySem.Spec PyProof.Rows

/-! ### room -/
structure Room (k : Nat) (A : Around) : Prop where
  hd : A.handled = none
  dp : A.depth + 3 * k + 5 < recursionLimit
  un : A.units + 16 * k + 200 < cLine
theorem Room.mono {j k : Nat} {A : Around} (r : Room k A) (h : j ≤ k) : Room j A := ⟨r.hd, by have := r.dp; omega, by have := r.un; omega⟩
theorem Room.deeper {k : Nat} {A : Around} (r : Room (k + 1) A) (env : Env) : Room k (A.deeper env) :=
  ⟨r.hd, by have := r.dp; show A.depth + 1 + 3 * k + 5 < _; omega, by have := r.un; show A.units + 3 + 16 * k + 200 < _; omega⟩
theorem Room.in1 {k : Nat} {A : Around} (r : Room (k + 1) A) : Room k A.in1 :=
  ⟨r.hd, by have := r.dp; show A.depth + 3 * k + 5 < _; omega, by have := r.un; show A.units + 1 + 16 * k + 200 < _; omega⟩
theorem make_depth {A : Around} {C : Addr} {us : List Value} {kw : List (Str × Value)} : (A.under (.builtin "type.__call__" ⟨.ref C :: us, kw⟩)).depth = A.depth + 1 := by
  first | rfl | simp [Around.under, Code.weight, Code.isCreation, Code.isGuard, Code.isCaller, Code.frames, Code.isFrame, guardIds]
theorem make_units {A : Around} {C : Addr} {us : List Value} {kw : List (Str × Value)} : (A.under (.builtin "type.__call__" ⟨.ref C :: us, kw⟩)).units = A.units + 1 := by
  first | rfl | simp [Around.under, Code.cUnits, Code.frames, Code.isFrame]
theorem Room.make {k : Nat} {A : Around} (r : Room (k + 1) A) (C : Addr) (us : List Value) (kw : List (Str × Value)) : Room k (A.under (.builtin "type.__call__" ⟨.ref C :: us, kw⟩)) :=
  ⟨r.hd, by have := r.dp; rw [make_depth]; omega, by have := r.un; rw [make_units]; omega⟩
theorem Room.depth {k : Nat} {A : Around} (r : Room k A) : A.depth < recursionLimit := by have := r.dp; omega
theorem Room.units0 {k : Nat} {A : Around} (r : Room k A) : A.units < cLine := by have := r.un; omega

/-! ### argument lists and displays -/
def tNil : TA := fun _ H Q => Q [] H
def tCons (ta : TE) (tr : TA) : TA := fun σ H Q => ta σ H fun x H1 => tr σ H1 fun xs H2 => Q (x :: xs) H2
section
variable {X : Cx} {e : Expr} {es : List Expr} {te : TE} {t : TA} {pos : Pos}
theorem pa_nil : PA X [] tNil := fun _ _ _ _ H Q I h => Calls.spliced_nil ⟨[], H, I, .nil, h⟩
theorem pa_cons (ha : PE X e te) (hr : PA X es t) (hs : starEach (e :: es) X.env = (false, eval e X.env) :: starEach es X.env := by rfl) : PA X (e :: es) (tCons te t) := by
  intro pos pins s σ H Q I h
  rw [hs]
  show wpAny _ _ (spliced ((false, eval e X.env) :: backTo pos (starEach es X.env))) _ _ s
  refine Calls.spliced_cons (thn (ha pins s σ H _ I h) fun u s1 ⟨x, H1, I1, r1, q1⟩ => ?_)
  exact thn (hr pos pins s1 σ H1 _ I1 q1) fun us s2 ⟨xs, H2, I2, r2, q2⟩ => ⟨x :: xs, H2, I2, .cons r1 r2, q2⟩

/-- a tuple, a list of written items -/
def tTup (t : TA) : TE := fun σ H Q => t σ H fun xs H1 => xs.length ≤ sizeLine ∧ ∀ p, H1 p = none → Q (.ref p) (upd H1 p (.tup xs))
def tLst (t : TA) : TE := fun σ H Q => t σ H fun xs H1 => xs.length ≤ sizeLine ∧ ∀ p, H1 p = none → Q (.ref p) (upd H1 p (.lst xs))
theorem pe_tup {x1} (h : PA X es t) : PE X (.Tuple es x1 pos) (tTup t) := by
  intro pins s σ H Q I hq
  refine wpAny_Tuple_spliced (thn (h pos pins s σ H _ I hq) fun us s1 ⟨xs, H1, I1, r, z, q⟩ => ⟨by rw [← r.length]; exact z, ?_⟩)
  have hf : H1 s1.heap.objs.size = none := I1.hok.fresh (Nat.le_refl _)
  refine ⟨.ref s1.heap.objs.size, upd H1 s1.heap.objs.size (.tup xs), I1.laid (t' := s1.toks) (fun b u e => Heap.get?_push_of_some _ e) (Nat.le_refl _) ?_, rfl, q _ hf⟩
  exact ⟨z, us, r, ⟨_, Heap.get?_push_size _ rfl, rfl, _, rfl⟩⟩
theorem pe_lst (h : PA X es t) : PE X (.List es pos) (tLst t) := by
  intro pins s σ H Q I hq
  refine wpAny_List_spliced (thn (h pos pins s σ H _ I hq) fun us s1 ⟨xs, H1, I1, r, z, q⟩ => ⟨by rw [← r.length]; exact z, ?_⟩)
  have hf : H1 s1.heap.objs.size = none := I1.hok.fresh (Nat.le_refl _)
  refine ⟨.ref s1.heap.objs.size, upd H1 s1.heap.objs.size (.lst xs), I1.laid (t' := s1.toks) (fun b u e => Heap.get?_push_of_some _ e) (Nat.le_refl _) ?_, rfl, q _ hf⟩
  exact ⟨z, us, 0, r, Heap.get?_push_size _ rfl⟩
end

/-! ### what a def promises -/
/-- a def's promise: the bound arguments in the parameters' order, the heap, the wanted end, the wanted exception -/
abbrev Sp := List V → Hp → VK → XK → Prop
/-- how an exception lies behind a call (file 08 gives it): the callers' frames, abstract heap and state ahead of the call, the wish, the exception, the state -/
abbrev CXT := List Env → Hp → Shared → XK → Value → Shared → Prop

/-- the state at a call -/
structure Env0 (P : Program) (w : World) (K : PySem.W.Frag) (mg : Str → Option Value) (base : Heap) (A : Around) (outer : List Env) (s : Shared) (H : Hp) : Prop where
  frames : A.frames = some outer
  mod : Mod K mg base
  bs : ∀ b o, base.get? b = some o → s.heap.get? b = some o ∧ H b = none
  bsz : base.objs.size ≤ s.heap.objs.size
  funs : s.heap.FunFrames base outer
  frf : ∀ b ∈ frs outer, H b = none
  hok : HOk P w H s.heap
  bare : AllBare s.gens
/-- a call's end -/
def CE (outer : List Env) (P : Program) (w : World) (H : Hp) (s : Shared) (Q : VK) (u : Value) (s' : Shared) : Prop :=
  ∃ v H', s'.os = s.os ∧ AllBare s'.gens ∧ Un (frs outer) [] H H' s.heap s'.heap ∧ HOk P w H' s'.heap ∧ RelV v u ∧ Q v H'
def CR (CX : CXT) (outer : List Env) (P : Program) (w : World) (H : Hp) (s : Shared) (Q : VK) (E : XK) (r : Result) (s' : Shared) : Prop :=
  match r with
  | .ok (.ret u) => CE outer P w H s Q u s'
  | .ok _ => False
  | .error e => CX outer H s E e s'
structure FnOk (P : Program) (w : World) (K : PySem.W.Frag) (mg : Str → Option Value) (base : Heap) (CX : CXT) (k : Nat) (f : Addr) (fd : FuncData) (ps : List Str) (sp : Sp) : Prop where
  len : ∀ vs H Q E, sp vs H Q E → vs.length = ps.length
  run : ∀ (A : Around) (outer : List Env) (s : Shared) (H : Hp) (args : Args) (us : List Value) (vs : List V) (Q : VK) (E : XK), Room k A → Env0 P w K mg base A outer s H → BindsTo s fd args (ps.zip us) → Vals vs us → sp vs H Q E →
    codeAny (model P w) A (.call (.ref f) args) (CR CX outer P w H s Q E) s
theorem Env0.make {P : Program} {w : World} {K : PySem.W.Frag} {mg : Str → Option Value} {base : Heap} {A : Around} {outer : List Env} {s : Shared} {H : Hp} (e : Env0 P w K mg base A outer s H) (C : Addr) (us : List Value) (kw : List (Str × Value)) :
    Env0 P w K mg base (A.under (.builtin "type.__call__" ⟨.ref C :: us, kw⟩)) outer s H := ⟨by first | exact e.frames | (simpa [Around.under, Code.envs, Code.isFrame, pushEnvs] using e.frames), e.mod, e.bs, e.bsz, e.funs, e.frf, e.hok, e.bare⟩
section
variable {X : Cx} {pins : List (Addr × Obj)} {σ : St} {H : Hp} {s s' : Shared}
/-- from a body: what a callee wants -/
theorem Inv.env0 (I : Inv X pins σ H s) : Env0 X.prog X.w X.K X.mg X.base X.A X.stack s H :=
  ⟨I.ok.frames, I.ok.mod, I.bs, Nat.le_trans I.ok.bsz I.sz, I.stack, I.stkFree, I.hok, I.bare⟩
/-- behind a call -/
theorem Inv.after {Q : VK} {u : Value} (I : Inv X pins σ H s) (h : CE X.stack X.prog X.w H s Q u s') : EP X pins σ Q u s' := by
  obtain ⟨v, H', os, bare, un, hok, r, q⟩ := h
  obtain ⟨hh, g, d, t, os'⟩ := s'
  obtain rfl : os' = s.os := os
  exact ⟨v, H', I.call (h' := hh) (g' := g) (d' := d) (t' := t) (ch := []) un hok bare (fun b z => absurd z (by simp)), r, q⟩
end

/-! ### calls -/
/-- f(..): the written arguments, then the defaults dvs; E: what is wanted of an exception -/
def tCall (sp : Sp) (dvs : List V) (E : XK) (t : TA) : TE := fun σ H Q => t σ H fun vs H1 => sp (vs ++ dvs) H1 Q E
/-- o.m(..) of an instance of the class at C -/
def tMeth (C : Addr) (m : Str) (sp : Sp) (dvs : List V) (E : XK) (ta : TE) (t : TA) : TE := fun σ H Q => ta σ H fun x H1 => ∃ a dx fs, x = .ref a ∧ H1 a = some (.ins C dx fs) ∧ fs.lookup m = none ∧
  t σ H1 fun vs H2 => sp (x :: (vs ++ dvs)) H2 Q E
/-- C(..): a new instance and its dict, then __init__ -/
def tMake (C : Addr) (sp : Sp) (dvs : List V) (E : XK) (t : TA) : TE := fun σ H Q => t σ H fun vs H1 => ∀ x dx, H1 x = none → H1 dx = none → dx ≠ x →
  sp (.ref x :: (vs ++ dvs)) (upd (upd H1 dx (.own x)) x (.ins C dx [])) (fun v H2 => v = .non ∧ Q (.ref x) H2) E

/-- how the parameters are bound: us the positional arguments, kw the keywords' values by name, ds the defaults that fill up -/
def Binds (K : PySem.W.Frag) (fd : FuncData) (ps : List Str) (ds : List Value) : Prop :=
  ∀ (s : Shared) (us : List Value), K.In s.heap → (us ++ ds).length = ps.length → BindsTo s fd ⟨us, []⟩ (ps.zip (us ++ ds))
/-- every parameter is given -/
theorem Binds.all {K : PySem.W.Frag} {fd : FuncData} {ps : List Str} (h : ∀ us : List Value, us.length = ps.length → bindArgs fd ⟨us, []⟩ = pure (ps.zip us)) : Binds K fd ps [] := fun s us _ hl => by
  rw [List.append_nil] at hl ⊢
  exact .of_eq (h us hl)

/-- an exception of a callee reaches what this body wants of exceptions -/
def Passes (CX : CXT) (X : Cx) (E : XK) : Prop := ∀ (pins : List (Addr × Obj)) (σ : St) (H : Hp) (s : Shared) (e : Value) (s' : Shared), Inv X pins σ H s → CX X.stack H s E e s' → X.xe e s'

section
variable {X : Cx} {CX : CXT} {k : Nat} {f C : Addr} {fd : FuncData} {ps : List Str} {sp : Sp} {dvs : List V} {ds : List Value} {E : XK} {x m : Str} {p pos apos : Pos} {e o : Expr} {es : List Expr} {ta : TE} {t : TA}

/-- the callee runs -/
theorem run_fn {pins : List (Addr × Obj)} {σ : St} {H : Hp} {s : Shared} {Q : VK} {us : List Value} {vs : List V} (F : FnOk X.prog X.w X.K X.mg X.base CX k f fd ps sp) (hr : Room k X.A) (hb : Binds X.K fd ps ds) (hd : Vals dvs ds) (hx : Passes CX X E)
    (I : Inv X pins σ H s) (r : Vals vs us) (h : sp (vs ++ dvs) H Q E) : wpAny (model X.prog X.w) X.A (call (.ref f) us) (EP X pins σ Q) X.xe s := by
  have r2 : Vals (vs ++ dvs) (us ++ ds) := r.append hd
  have hl : (us ++ ds).length = ps.length := by rw [← r2.length]; exact F.len _ _ _ _ h
  refine wpAny_call (codeAny_mono (F.run X.A X.stack s H ⟨us, []⟩ (us ++ ds) (vs ++ dvs) Q E hr I.env0 (hb s us I.kIn hl) r2 h) fun r s' hq => ?_)
  cases r with
  | error e => exact hx pins σ H s e s' I hq
  | ok fl =>
    cases fl with
    | ret u => exact I.after hq
    | next => exact False.elim hq
    | brk => exact False.elim hq
    | cont => exact False.elim hq

theorem pe_call (F : FnOk X.prog X.w X.K X.mg X.base CX k f fd ps sp) (hr : Room k X.A) (hg : Gl X x) (hm : X.mg x = some (.ref f)) (hk : PySem.W.keepIn X.K (.ref f) = true) (hb : Binds X.K fd ps ds) (hd : Vals dvs ds) (hx : Passes CX X E)
    (ha : PA X (e :: es) t) (hdb : (x == ("__debug__" : Str)) = false := by decide) (he : starEach (e :: es) X.env = (false, eval e X.env) :: starEach es X.env := by rfl) (hpl : (backTo pos (starEach es X.env)).any (·.1) = false := by rfl) :
    PE X (.Call (.Name x p) (e :: es) [] pos) (tCall sp dvs E t) := by
  intro pins s σ H Q I h
  refine wpAny_Call_Name_kw (ld_glob I hg hm ?_ hdb)
  refine PySem.W.callWith_K (h₀ := X.base) I.ok.mod.kin hk (thn (ha pos pins s σ H _ I h) fun us s1 ⟨vs, H1, I1, r, q⟩ => ⟨I1.kIn, ?_⟩) he hpl
  exact run_fn F hr hb hd hx I1 r q
/-- o.m(e, ..) -/
theorem pe_meth {pl : Sem Bool} (he : PE X o ta) (c : Cls X.K C) (hm : Meth X.K C m f) (F : FnOk X.prog X.w X.K X.mg X.base CX k f fd ps sp) (hr : Room k X.A) (hb : Binds X.K fd ps ds) (hd : Vals dvs ds) (hx : Passes CX X E) (ha : PA X (e :: es) t)
    (hst : starEach (e :: es) X.env = (false, eval e X.env) :: starEach es X.env := by rfl) (hpl : (backTo pos (starEach es X.env)).any (·.1) = false := by rfl)
    (ht : eval (.Call (.Attribute o m apos) (e :: es) [] pos) X.env = (do
      let ov ← eval o X.env
      standAt apos.atName
      let (f, first) ← holding [ov] (getMethod ov m pl)
      callWith pos f first (backTo pos (starEach (e :: es) X.env)) (backToKw pos (keywordEach [] X.env))) := by rfl) :
    PE X (.Call (.Attribute o m apos) (e :: es) [] pos) (tMeth C m sp dvs E ta t) := by
  intro pins s σ H Q I h
  refine PySem.W.methodCall_KW (pl := pl) (thn (he pins s σ H _ I h) fun u s1 ⟨x, H1, I1, rx, a, dx, fs, ex, ea, l, q⟩ => ?_) ht
  subst ex
  obtain rfl : u = Value.ref a := rx
  refine getmeth_ok I1 ea c hm l ?_
  refine PySem.W.callWith_K (first := [.ref a]) (h₀ := X.base) I.ok.mod.kin hm.kp (thn (ha pos pins s1 σ H1 _ I1 q) fun us s2 ⟨vs, H2, I2, r, q2⟩ => ⟨I2.kIn, ?_⟩) hst hpl
  exact run_fn (us := .ref a :: us) (vs := .ref a :: vs) F hr hb hd hx I2 (.cons rfl r) q2
/-- o.m() -/
theorem pe_meth0 {pl : Sem Bool} (he : PE X o ta) (c : Cls X.K C) (hm : Meth X.K C m f) (F : FnOk X.prog X.w X.K X.mg X.base CX k f fd ps sp) (hr : Room k X.A) (hb : Binds X.K fd ps ds) (hd : Vals dvs ds) (hx : Passes CX X E)
    (ht : eval (.Call (.Attribute o m apos) [] [] pos) X.env = (do
      let ov ← eval o X.env
      standAt apos.atName
      let (f, first) ← holding [ov] (getMethod ov m pl)
      callWith pos f first (backTo pos (starEach [] X.env)) (backToKw pos (keywordEach [] X.env))) := by rfl) :
    PE X (.Call (.Attribute o m apos) [] [] pos) (tMeth C m sp dvs E ta tNil) := by
  intro pins s σ H Q I h
  refine PySem.W.methodCall_KW (pl := pl) (thn (he pins s σ H _ I h) fun u s1 ⟨x, H1, I1, rx, a, dx, fs, ex, ea, l, q⟩ => ?_) ht
  subst ex
  obtain rfl : u = Value.ref a := rx
  refine getmeth_ok I1 ea c hm l ?_
  exact PySem.W.callWith_K0 (first := [.ref a]) I1.kIn hm.kp (run_fn (us := [.ref a]) (vs := [.ref a]) F hr hb hd hx I1 (.cons rfl .nil) q)

/-- what a class must have to be made -/
structure Mk (K : PySem.W.Frag) (C f : Addr) : Prop where
  makes : PySem.W.makesIn K C = true
  init : PySem.W.findIn K (.ref C) "__init__" = some (some (.ref f))
  fn : PySem.W.isFn K (.ref f) = true
  kp : PySem.W.keepIn K (.ref C) = true

theorem run_make {pins : List (Addr × Obj)} {σ : St} {H : Hp} {s : Shared} {Q : VK} {us : List Value} {vs : List V} (M : Mk X.K C f) (F : FnOk X.prog X.w X.K X.mg X.base CX k f fd ps sp) (hr : Room (k + 1) X.A) (hb : Binds X.K fd ps ds) (hd : Vals dvs ds)
    (hx : Passes CX X E) (I : Inv X pins σ H s) (r : Vals vs us)
    (h : ∀ x dx, H x = none → H dx = none → dx ≠ x → sp (.ref x :: (vs ++ dvs)) (upd (upd H dx (.own x)) x (.ins C dx [])) (fun v H2 => v = .non ∧ Q (.ref x) H2) E) :
    wpAny (model X.prog X.w) X.A (call (.ref C) us) (EP X pins σ Q) X.xe s := by
  have hq := h (s.heap.objs.size + 1) s.heap.objs.size (I.hok.fresh (Nat.le_succ _)) (I.hok.fresh (Nat.le_refl _)) (Nat.ne_of_lt (Nat.lt_succ_self _))
  have I2 := Inv.made (C := C) I
  have r2 : Vals (V.ref (s.heap.objs.size + 1) :: (vs ++ dvs)) (Value.ref (s.heap.objs.size + 1) :: (us ++ ds)) := .cons rfl (r.append hd)
  have hl : (Value.ref (s.heap.objs.size + 1) :: us ++ ds).length = ps.length := by
    have e := r2.length
    rw [F.len _ _ _ _ hq] at e
    exact e.symm
  refine wpAny_call (make_map (f := f) I.kIn M.makes M.init (beq_iff_eq.mp M.fn) (codeAny_mono (F.run _ X.stack _ _ ⟨Value.ref (s.heap.objs.size + 1) :: us, []⟩ (Value.ref (s.heap.objs.size + 1) :: (us ++ ds)) _ _ E (hr.make C us [])
    (I2.env0.make C us []) (hb _ (Value.ref (s.heap.objs.size + 1) :: us) I2.kIn hl) r2 hq) fun r s' hq' => ?_))
  cases r with
  | error e => exact hx pins σ _ _ e s' I2 hq'
  | ok fl =>
    cases fl with
    | ret u =>
      obtain ⟨v, H', I3, rv, ev, q3⟩ := I2.after hq'
      subst ev
      exact ⟨rv, ⟨V.ref (s.heap.objs.size + 1), H', I3, rfl, q3⟩⟩
    | next => exact False.elim hq'
    | brk => exact False.elim hq'
    | cont => exact False.elim hq'
theorem pe_make (M : Mk X.K C f) (F : FnOk X.prog X.w X.K X.mg X.base CX k f fd ps sp) (hr : Room (k + 1) X.A) (hg : Gl X x) (hm : X.mg x = some (.ref C)) (hb : Binds X.K fd ps ds) (hd : Vals dvs ds) (hx : Passes CX X E)
    (ha : PA X (e :: es) t) (hdb : (x == ("__debug__" : Str)) = false := by decide) (he : starEach (e :: es) X.env = (false, eval e X.env) :: starEach es X.env := by rfl) (hpl : (backTo pos (starEach es X.env)).any (·.1) = false := by rfl) :
    PE X (.Call (.Name x p) (e :: es) [] pos) (tMake C sp dvs E t) := by
  intro pins s σ H Q I h
  refine wpAny_Call_Name_kw (ld_glob I hg hm ?_ hdb)
  refine PySem.W.callWith_K (h₀ := X.base) I.ok.mod.kin M.kp (thn (ha pos pins s σ H _ I h) fun us s1 ⟨vs, H1, I1, r, q⟩ => ⟨I1.kIn, ?_⟩) he hpl
  exact run_make M F hr hb hd hx I1 r q
end

/-! ### keywords -/
/-- the values of the keywords, from the left -/
def PK (X : Cx) (kws : List Keyword) (t : TA) : Prop :=
  ∀ (pos : Pos) (pins : List (Addr × Obj)) (s : Shared) (σ : St) (H : Hp) (Q : List V → Hp → Prop), Inv X pins σ H s → t σ H Q → wpAny (model X.prog X.w) X.A (evalAll ((backToKw pos (keywordEach kws X.env)).map (·.2))) (AP X pins σ Q) X.xe s
section
variable {X : Cx} {CX : CXT} {k : Nat} {f C : Addr} {fd : FuncData} {ps ks : List Str} {sp : Sp} {E : XK} {x m : Str} {p pos apos kpos : Pos} {e o : Expr} {es : List Expr} {kws : List Keyword} {te ta : TE} {t tk : TA} {nm : Option Str}
/-- how a call with keywords binds: g puts the positional values us and the keywords' values ws (names ks) in the parameters' order, defaults among them -/
structure KBinds (K : PySem.W.Frag) (fd : FuncData) (ps ks : List Str) (g : List Value → List Value → List Value) (gV : List V → List V → List V) : Prop where
  to : ∀ (s : Shared) (us ws : List Value), K.In s.heap → (g us ws).length = ps.length → BindsTo s fd ⟨us, ks.zip ws⟩ (ps.zip (g us ws))
  rel : ∀ {vs : List V} {us : List Value} {zs : List V} {ws : List Value}, Vals vs us → Vals zs ws → Vals (gV vs zs) (g us ws)
def tCallK (sp : Sp) (gV : List V → List V → List V) (E : XK) (t tk : TA) : TE := fun σ H Q => t σ H fun vs H1 => tk σ H1 fun zs H2 => sp (gV vs zs) H2 Q E
variable {g : List Value → List Value → List Value} {gV : List V → List V → List V}
end

/-! ### a def's body keeps its promise -/
/-- names: the parameters first -/
structure FnScope (N P : List Str) (sc : Scope) : Prop where
  kind : sc.kind = .function
  co : sc.isCoroutine = false
  gen : sc.isGenerator = false
  nd : N.Nodup
  pre : N.take P.length = P
  par : ∀ x ∈ P, sc.names.lookup x = some .local ∨ sc.names.lookup x = some .cell
  nofree : ∀ y ∈ sc.names, y.2 ≠ .free

theorem bindL_out {kindOf : Str → Option NameKind} {x : Str} : ∀ {binds : List (Str × Value)} {m : Str → Option Value}, (∀ v, (x, v) ∉ binds) → bindL kindOf binds m x = m x
  | [], _, _ => rfl
  | (n, v) :: r, m, h => by
    unfold bindL
    rw [bindL_out fun w hw => h w (List.mem_cons_of_mem _ hw)]
    split
    · have : x ≠ n := by rintro rfl; exact h v List.mem_cons_self
      simp [this]
    · rfl
theorem bindC_out {kindOf : Str → Option NameKind} {x : Str} : ∀ {binds : List (Str × Value)} {m : Str → Option Value}, (∀ v, (x, v) ∉ binds) → bindC kindOf binds m x = m x
  | [], _, _ => rfl
  | (n, v) :: r, m, h => by
    unfold bindC
    rw [bindC_out fun w hw => h w (List.mem_cons_of_mem _ hw)]
    split
    · rfl
    · have : x ≠ n := by rintro rfl; exact h v List.mem_cons_self
      simp [this]
theorem bindL_get {kindOf : Str → Option NameKind} {x : Str} {v : Value} : ∀ {P : List Str} {vs : List Value} {i : Nat} {m : Str → Option Value}, P.Nodup → P[i]? = some x → vs[i]? = some v → kindOf x = some .local →
    bindL kindOf (P.zip vs) m x = some v
  | [], _, _, _, _, h, _, _ => by simp at h
  | _ :: _, [], _, _, _, _, h, _ => by simp at h
  | p :: P, w :: vs, 0, m, nd, h1, h2, hk => by
    simp at h1 h2; subst h1; subst h2
    show bindL kindOf ((p, w) :: P.zip vs) m p = _
    unfold bindL
    rw [bindL_out fun v hv => (List.nodup_cons.mp nd).1 (List.of_mem_zip hv).1, if_pos hk]
    simp
  | p :: P, w :: vs, i + 1, m, nd, h1, h2, hk => by
    show bindL kindOf ((p, w) :: P.zip vs) m x = _
    unfold bindL
    exact bindL_get (i := i) (List.nodup_cons.mp nd).2 (by simpa using h1) (by simpa using h2) hk
theorem bindC_get {kindOf : Str → Option NameKind} {x : Str} {v : Value} : ∀ {P : List Str} {vs : List Value} {i : Nat} {m : Str → Option Value}, P.Nodup → P[i]? = some x → vs[i]? = some v → kindOf x ≠ some .local →
    bindC kindOf (P.zip vs) m x = some v
  | [], _, _, _, _, h, _, _ => by simp at h
  | _ :: _, [], _, _, _, _, h, _ => by simp at h
  | p :: P, w :: vs, 0, m, nd, h1, h2, hk => by
    simp at h1 h2; subst h1; subst h2
    show bindC kindOf ((p, w) :: P.zip vs) m p = _
    unfold bindC
    rw [bindC_out fun v hv => (List.nodup_cons.mp nd).1 (List.of_mem_zip hv).1, if_neg hk]
    simp
  | p :: P, w :: vs, i + 1, m, nd, h1, h2, hk => by
    show bindC kindOf ((p, w) :: P.zip vs) m x = _
    unfold bindC
    exact bindC_get (i := i) (List.nodup_cons.mp nd).2 (by simpa using h1) (by simpa using h2) hk

/-- the names' values at the entry -/
def start (N : List Str) (vs : List V) : St := vs.map some ++ List.replicate (N.length - vs.length) none

/-- the context of a def's body, at its entry; an exception leaves the frame, then lies as CX says -/
def cxOf (CX : CXT) (P : Program) (w : World) (K : PySem.W.Frag) (mg : Str → Option Value) (base : Heap) (N : List Str) (qual : Str) (scope : Scope) (f : Addr) (cd : Value) (A : Around) (outer : List Env) (s : Shared) (H : Hp) (E : XK) : Cx where
  prog := P
  w := w
  K := K
  mg := mg
  base := base
  A := A.deeper (envOfC qual scope s.heap.objs.size f cd)
  N := N
  s₀ := s
  H₀ := H
  env := envOfC qual scope s.heap.objs.size f cd
  outer := outer
  stack := envOfC qual scope s.heap.objs.size f cd :: outer
  ex := []
  calm := true
  fn := fun _ => true
  pn := []
  xe := fun e s' => wpAny (model P w) (A.deeper (envOfC qual scope s.heap.objs.size f cd)) (leaving (envOfC qual scope s.heap.objs.size f cd) e) (fun _ s'' => CX outer H s E e s'') (fun e' s'' => CX outer H s E e' s'') s'

theorem cell_has {sc : Scope} {n : Nat} {x : Str} (h : sc.names.lookup x = some .cell) : ∃ c, (cellsFrom n sc.names []).lookup x = some c := by
  have q := PySem.W.cellsFrom_some sc.names n [] (.inl h)
  exact Option.isSome_iff_exists.mp q

theorem inv_start {CX : CXT} {P : Program} {w : World} {K : PySem.W.Frag} {mg : Str → Option Value} {base : Heap} {N ps : List Str} {qual : Str} {scope : Scope} {f : Addr} {cd : Value} {A : Around} {outer : List Env} {s s1 : Shared} {H : Hp} {E : XK} {us : List Value} {vs : List V}
    (S : FnScope N ps scope) (hd : A.handled = none) (e0 : Env0 P w K mg base A outer s H) (hl : vs.length = ps.length) (r : Vals vs us)
    (x : InCallC s s.heap.objs.size (bindL (envOfC qual scope s.heap.objs.size f cd).kindOf (ps.zip us) fun _ => none) (cellsFrom (s.heap.objs.size + 1) scope.names []) (bindC (envOfC qual scope s.heap.objs.size f cd).kindOf (ps.zip us) fun _ => none) s1) :
    Inv (cxOf CX P w K mg base N qual scope f cd A outer s H E) [] (start N vs) H s1 := by
  have hpl : ps.length ≤ N.length := by have := congrArg List.length S.pre; rw [List.length_take] at this; omega
  obtain ⟨h1, tk, rfl, hk⟩ := x.done
  have noA : ∀ b : Addr, b ∉ (cxOf CX P w K mg base N qual scope f cd A outer s H E).ex := fun b z => absurd (show b ∈ ([] : List Addr) from z) (by simp)
  refine ⟨⟨e0.mod, S.kind, rfl, rfl, Nat.le_refl _, fun y z c h1 h2 => ?_, fun y hy => ?_, fun y c _ h => ?_, fun _ => hd, Around.frames_deeper e0.frames, .inr ⟨rfl, rfl⟩, fun b z => absurd z (noA b), e0.bs, e0.bsz, fun b _ _ => noA b, fun b z => absurd z (noA b), e0.funs, e0.frf⟩,
    rfl, e0.bare, Un.kept hk, ⟨_, x.toInCall.ns, fun i y v h1 h2 h3 => ?_⟩, fun y c h => ⟨_, x.cell y c h⟩, e0.hok.fresh (Nat.le_refl _), fun y c h => ?_, fun p hp => absurd (show p ∈ ([] : List (Addr × Obj)) from hp) (by simp), e0.hok.kept hk, ?_⟩
  · exact name_of_addr x.apart (PySem.mem_of_lookup h1) (PySem.mem_of_lookup h2)
  · have hy : scope.names.lookup y = some .cell ∨ scope.names.lookup y = some .free := hy
    rcases hy with hy | hy
    · exact cell_has hy
    · exact absurd rfl (S.nofree _ (PySem.mem_of_lookup hy))
  · exact Nat.le_of_lt (x.above y c (PySem.mem_of_lookup h))
  · have hi : i < vs.length := by
      unfold start at h2
      by_cases hi : i < vs.length
      · exact hi
      · rw [List.getElem?_append_right (by simpa using hi)] at h2
        rw [List.getElem?_replicate] at h2
        split at h2 <;> cases h2
    have ha : vs[i]? = some v := by
      unfold start at h2
      rw [List.getElem?_append_left (by simpa using hi), List.getElem?_map] at h2
      cases e : vs[i]? with
      | none => rw [e] at h2; cases h2
      | some a => rw [e] at h2; cases h2; rfl
    obtain ⟨u, hu, rv⟩ := r.get ha
    have hp : ps[i]? = some y := by
      rw [← S.pre, List.getElem?_take_of_lt (by omega)]; exact h1
    have ndP : ps.Nodup := by rw [← S.pre]; exact S.nd.sublist (List.take_sublist _ _)
    refine ⟨u, rv, ?_⟩
    rcases S.par y (List.mem_of_getElem? hp) with k | k
    · exact .inl ⟨k, bindL_get ndP hp hu k⟩
    · obtain ⟨c, e⟩ := cell_has (n := s.heap.objs.size + 1) k
      refine .inr ⟨.inl k, c, e, ?_⟩
      have q := x.cell y c e
      rw [bindC_get ndP hp hu (by show scope.names.lookup y ≠ _; rw [k]; decide)] at q
      exact q
  · exact e0.hok.fresh (Nat.le_of_lt (x.above y c (PySem.mem_of_lookup h)))
  · unfold start
    show _ = N.length
    rw [List.length_append, List.length_map, List.length_replicate]
    omega

/-- THE RULE: a def (or a method) of the text, by its body. The body's reading t is chosen for each entry; it is run at the parameters' values -/
theorem fn_of {CX : CXT} {P : Program} {w : World} {K : PySem.W.Frag} {mg : Str → Option Value} {base : Heap} {k : Nat} {f : Addr} {name qual : Str} {params : Arguments} {body : List Stmt} {scope : Scope} {dV kV doc pm cdv ct oc : Value} {an od : Option Addr}
    {osl : Array (Option Value)} {N ps : List Str} {sp : Sp} (lk : K.lookup f = some ⟨oc, od, .func (PySem.W.fnOf name qual params body scope dV kV doc pm an cdv ct), osl⟩) (hcd : PySem.W.codeIn K cdv qual = true) (S : FnScope N ps scope)
    (len : ∀ vs H Q E, sp vs H Q E → vs.length = ps.length)
    (hbody : ∀ (A : Around) (outer : List Env) (s : Shared) (H : Hp) (vs : List V) (Q : VK) (E : XK), Room k (A.deeper (envOfC qual scope s.heap.objs.size f cdv)) → sp vs H Q E →
      ∃ t, PSs (cxOf CX P w K mg base N qual scope f cdv A outer s H E) body t ∧ t { nx := fun _ H' => Q .non H', rt := Q } (start N vs) H) :
    FnOk P w K mg base CX (k + 1) f (PySem.W.fnOf name qual params body scope dV kV doc pm an cdv ct) ps sp := by
  refine ⟨len, fun A outer s H args us vs Q E hr e0 hb r hsp => ?_⟩
  have hl := len _ _ _ _ hsp
  have KX : K.In s.heap := e0.mod.kin.keeps fun b o e => (e0.bs b o e).1
  have lim : s.heap.NoLimit := e0.mod.nolimit.keeps fun b o e => (e0.bs b o e).1
  have hkind : ∀ y ∈ ps.zip us, scope.names.lookup y.1 = some .local ∨ (scope.names.lookup y.1 = some .cell ∧ ((cellsFrom (s.heap.objs.size + 1) scope.names []).lookup y.1).isSome = true) := fun ⟨n, v⟩ hy => by
    rcases S.par n (List.of_mem_zip hy).1 with q | q
    · exact .inl q
    · exact .inr ⟨q, PySem.W.cellsFrom_some _ _ _ (.inl q)⟩
  refine codeAny_call_function hr.depth (KX _ _ lk) rfl S.co S.gen rfl (PySem.W.codeRec_of KX hcd) (hb _ _ _ _ ?_)
  refine wpAny_newFunctionEnv_cells S.kind hkind fun env he s1 x => ?_
  subst he
  refine ⟨lim.keeps x.toInCall.keep, codeAny_func ?_⟩
  obtain ⟨t, ht, hq⟩ := hbody A outer s H vs Q E (hr.deeper _) hsp
  have I : Inv (cxOf CX P w K mg base N qual scope f cdv A outer s H E) [] (start N vs) H s1 := inv_start S hr.hd e0 hl r x
  refine wpAny_mono (ht [] s1 (start N vs) H _ I hq) (fun fl s' hs => ?_) fun e s' hs => hs
  have fin : ∀ {σ' : St} {H' : Hp} {v : V} {u : Value}, Inv (cxOf CX P w K mg base N qual scope f cdv A outer s H E) [] σ' H' s' → RelV v u → Q v H' → CE outer P w H s Q u s' :=
    fun {σ' H' v u} J rv q => ⟨v, H', J.os, J.bare, J.base, J.hok, rv, q⟩
  cases fl with
  | ret u =>
    obtain ⟨v, σ', H', J, rv, q⟩ := hs
    exact fin J rv q
  | next =>
    obtain ⟨σ', H', J, q⟩ := hs
    exact fin (v := V.non) (u := Value.none) J rfl q
  | brk =>
    obtain ⟨_, _, _, q⟩ := hs
    exact False.elim q
  | cont =>
    obtain ⟨_, _, _, q⟩ := hs
    exact False.elim q
end L2

namespace L2
open PySem PySem.Spec PyProof.Rows
section
variable {X : Cx} {x : Str} {p pos : Pos} {e : Expr} {es : List Expr} {t : TA} {id T : String} {r : List V → Hp → VK → Prop}

def tCB (r : List V → Hp → VK → Prop) (t : TA) : TE := fun σ H Q => t σ H fun vs H1 => r vs H1 Q
/-- f(e, ..), f a built-in function -/
theorem pe_callB (hc : CallR X (.builtin id) r) (hg : Gl X x) (hm : X.mg x = none) (hv : bootBuiltins x = some (.builtin id)) (ha : PA X (e :: es) t) (hn : x ≠ "__name__" := by decide) (hdb : (x == ("__debug__" : Str)) = false := by decide)
    (he : starEach (e :: es) X.env = (false, eval e X.env) :: starEach es X.env := by rfl) (hpl : (backTo pos (starEach es X.env)).any (·.1) = false := by rfl) : PE X (.Call (.Name x p) (e :: es) [] pos) (tCB r t) := by
  intro pins s σ H Q I h
  refine wpAny_Call_Name_kw (ld_blt I hg hm hv ?_ hn hdb)
  exact PyProof.Rows.callWith_builtin1 (thn (ha pos pins s σ H _ I h) fun us s1 ⟨vs, H1, I1, r1, q1⟩ => hc pins s1 σ H1 vs us Q I1 r1 q1) he hpl
/-- T(e, ..), T a built-in type -/
theorem pe_callTy (hc : CallR X (.type T) r) (hg : Gl X x) (hm : X.mg x = none) (hv : bootBuiltins x = some (.type T)) (ha : PA X (e :: es) t) (hn : x ≠ "__name__" := by decide) (hdb : (x == ("__debug__" : Str)) = false := by decide)
    (he : starEach (e :: es) X.env = (false, eval e X.env) :: starEach es X.env := by rfl) (hpl : (backTo pos (starEach es X.env)).any (·.1) = false := by rfl) : PE X (.Call (.Name x p) (e :: es) [] pos) (tCB r t) := by
  intro pins s σ H Q I h
  refine wpAny_Call_Name_kw (ld_blt I hg hm hv ?_ hn hdb)
  exact PyProof.Rows.callWith_type1 (thn (ha pos pins s σ H _ I h) fun us s1 ⟨vs, H1, I1, r1, q1⟩ => hc pins s1 σ H1 vs us Q I1 r1 q1) he hpl
end
end L2

namespace HT
open PySem PyProof.Rows

/-- t < u of tuples of ints -/
def lexLt : List Int → List Int → Bool
  | [], [] => false
  | [], _ :: _ => true
  | _ :: _, [] => false
  | x :: xs, y :: ys => if x = y then lexLt xs ys else decide (x < y)
section
open PySem.SeqAt
open PySem.AutoSeq1 (wpAny_loadPart')
open PySem.MeetsSeq PySem.MeetsSeq2 PySem.MeetsSeq3

end

section
variable {prog : Program} {w : World} {A : Around} {E : Value → Shared → Prop} {s : Shared}

/-! ### t[a:b], not the whole -/
/-- a slice's bound as a place among n (d where it is left out) -/
def sIx (n d : Nat) : Option Int → Nat
  | none => d
  | some v => if v < 0 then (v + (n : Int)).toNat else min v.toNat n
end
end HT

namespace L2
open PySem PySem.Spec PyProof.Rows

/-! ### the parts of a slice -/
abbrev TO := St → Hp → (Option Int → Hp → Prop) → Prop
/-- a slice's part (left out, or an int) -/
def PO (X : Cx) (e : Option Expr) (t : TO) : Prop :=
  ∀ (pins : List (Addr × Obj)) (s : Shared) (σ : St) (H : Hp) (Q : Option Int → Hp → Prop), Inv X pins σ H s → t σ H Q →
    wpAny (model X.prog X.w) X.A (evalPart e X.env) (fun u s' => ∃ o H', Inv X pins σ H' s' ∧ IsPart u o ∧ Q o H') X.xe s
def tNoPart : TO := fun _ H Q => Q none H
def tPart (t : TE) : TO := fun σ H Q => t σ H fun x H1 => ∃ i, x = .int i ∧ Q (some i) H1

theorem intsAre_of {ns : List Int} : ∀ {us : List Value}, Vals (ns.map V.int) us → IntsAre us ns := by
  induction ns with
  | nil => intro us r; rw [List.map_nil] at r; cases r; exact .nil
  | cons n ns ih =>
    intro us r
    rw [List.map_cons] at r
    cases r with
    | cons r1 r2 =>
      obtain ⟨t, e⟩ := r1
      subst e
      exact .cons n t (ih r2)

section
variable {X : Cx} {e : Expr} {te : TE} {lo hi : Option Expr} {tl th : TO} {pos p2 : Pos}

theorem po_none : PO X none tNoPart := by
  intro pins s σ H Q I h
  rw [evalPart_none]
  exact wpAny_pure ⟨none, H, I, .none, h⟩
theorem po_some (h : PE X e te) : PO X (some e) (tPart te) := by
  intro pins s σ H Q I hw
  rw [evalPart_some]
  refine thn (h pins s σ H _ I hw) fun u s1 ⟨x, H1, I1, r1, q1⟩ => ?_
  obtain ⟨i, rfl, q⟩ := q1
  obtain ⟨t, rfl⟩ := r1
  exact ⟨some i, H1, I1, .int i t, q⟩

/-- what a slice of a value is, by values: the slice object stands at sl -/
def SlR (X : Cx) (r : V → Option Int → Option Int → Hp → VK → Prop) : Prop :=
  ∀ (pins : List (Addr × Obj)) (s : Shared) (σ : St) (H : Hp) (x : V) (v vl vu : Value) (lo hi : Option Int) (sl : Addr) (Q : VK), Inv X pins σ H s → RelV x v → s.heap.IsSliceOf sl vl vu .none → IsPart vl lo → IsPart vu hi → r x lo hi H Q →
    ∃ T id, typeLookup (.type T) "__getitem__" = pure (some (.builtin id)) ∧ s.TypeIs v T ∧ wpAny (model X.prog X.w) X.A (getItem v (.ref sl)) (EP X pins σ Q) X.xe s
def tSl (r : V → Option Int → Option Int → Hp → VK → Prop) (te : TE) (tl th : TO) : TE := fun σ H Q => te σ H fun x H1 => tl σ H1 fun l H2 => th σ H2 fun u H3 => r x l u H3 Q
/-- a[lo:hi], any a -/
theorem pe_slice {r : V → Option Int → Option Int → Hp → VK → Prop} (hr : SlR X r) (he : PE X e te) (hl : PO X lo tl) (hu : PO X hi th) : PE X (.Subscript e (.Slice lo hi none p2) pos) (tSl r te tl th) := by
  intro pins s σ H Q I h
  refine Subscript_ (thn (he pins s σ H _ I h) fun v s1 ⟨x, H1, I1, r1, q1⟩ => ?_)
  refine wpAny_Slice (thn (hl pins s1 σ H1 _ I1 q1) fun vl s2 ⟨l, H2, I2, pl, q2⟩ => thn (hu pins s2 σ H2 _ I2 q2) fun vu s3 ⟨u, H3, I3, pu, q3⟩ => ?_)
  rw [evalPart_none]
  refine wpAny_pure ?_
  have I4 : Inv X pins σ H3 { s3 with heap := s3.heap.push { cls := .type "slice", data := .fields #[vl, vu, .none] } } := I3.kept (t' := s3.toks) fun b ob q => Heap.get?_push_of_some _ q
  obtain ⟨T, id, hT, ht, hg⟩ := hr pins { s3 with heap := s3.heap.push { cls := .type "slice", data := .fields #[vl, vu, .none] } } σ H3 x v vl vu l u s3.heap.objs.size Q I4 r1 (Heap.IsSliceOf.new ..) pl pu q3
  show wpAny (model X.prog X.w) X.A (subscriptTail e (.Slice lo hi none p2) v (.ref s3.heap.objs.size)) (EP X pins σ Q) X.xe { s3 with heap := s3.heap.push { cls := .type "slice", data := .fields #[vl, vu, .none] } }
  exact tail_any (ops := [.ref s3.heap.objs.size, v]) ht hT hg (by with_unfolding_all rfl)

/-- the items of xs[lo:hi] -/
def cutV (xs : List V) (lo hi : Option Int) : List V := (xs.drop (HT.sIx xs.length 0 lo)).take (HT.sIx xs.length xs.length hi - HT.sIx xs.length 0 lo)
theorem cutV_length (xs : List V) (lo hi : Option Int) : (cutV xs lo hi).length ≤ xs.length := by
  unfold cutV
  rw [List.length_take, List.length_drop]
  omega
/-- t[lo:hi], not the whole of it (the whole would be t itself) -/
def rSlT (K : PySem.W.Frag) : V → Option Int → Option Int → Hp → VK → Prop := fun x lo hi H Q => ∃ a xs, x = .ref a ∧ SqT K H a xs ∧
  ¬ (HT.sIx xs.length 0 lo = 0 ∧ HT.sIx xs.length xs.length hi = xs.length) ∧ ∀ p, H p = none → Q (.ref p) (upd H p (.tup (cutV xs lo hi)))
/-! ### t < u, t + u -/
def rLtT (K : PySem.W.Frag) : R2 := fun x y H Q => ∃ a b ns ms, x = .ref a ∧ y = .ref b ∧ SqT K H a (ns.map V.int) ∧ SqT K H b (ms.map V.int) ∧ Q (.bl (HT.lexLt ns ms)) H
/-- t + u, t not empty: u empty gives t itself -/
def rCatT (K : PySem.W.Frag) : R2 := fun x y H Q => ∃ a b xs ys, x = .ref a ∧ y = .ref b ∧ SqT K H a xs ∧ SqT K H b ys ∧ xs ≠ [] ∧ xs.length + ys.length ≤ sizeLine ∧
  (ys = [] → Q (.ref a) H) ∧ (ys ≠ [] → ∀ p, H p = none → Q (.ref p) (upd H p (.tup (xs ++ ys))))
end
end L2

namespace L2
open PySem PySem.Spec PyProof.Rows

/-! ### places -/
/-- the place that an index of any sign means -/
def ixN (n : Nat) (i : Int) : Option Nat := if 0 ≤ i then (if i < n then some i.toNat else none) else if -(n : Int) ≤ i then some (i + n).toNat else none
def atI {α : Type} (xs : List α) (i : Int) : Option α := (ixN xs.length i).bind fun j => xs[j]?
theorem ixN_seq {n : Nat} {i : Int} {j : Nat} (h : ixN n i = some j) : seqIndex? i n = some j ∧ j < n ∧ -(n : Int) ≤ i ∧ i < n := by
  unfold ixN at h
  by_cases h0 : 0 ≤ i
  · rw [if_pos h0] at h
    by_cases h1 : i < n
    · rw [if_pos h1] at h
      have e : i.toNat = j := Option.some.inj h
      exact ⟨by rw [seqIndex_of h0 h1, e], by omega, by omega, h1⟩
    · rw [if_neg h1] at h; cases h
  · rw [if_neg h0] at h
    by_cases h1 : -(n : Int) ≤ i
    · rw [if_pos h1] at h
      have e : (i + n).toNat = j := Option.some.inj h
      exact ⟨by rw [seqIndex_neg (by omega) h1, e], by omega, h1, by omega⟩
    · rw [if_neg h1] at h; cases h
theorem atI_get {α : Type} {xs : List α} {i : Int} {v : α} (h : atI xs i = some v) : ∃ j, seqIndex? i xs.length = some j ∧ xs[j]? = some v ∧ j < xs.length ∧ -(xs.length : Int) ≤ i ∧ i < xs.length := by
  unfold atI at h
  cases e : ixN xs.length i with
  | none => rw [e] at h; cases h
  | some j =>
    rw [e] at h
    obtain ⟨h1, h2, h3, h4⟩ := ixN_seq e
    exact ⟨j, h1, h, h2, h3, h4⟩
theorem atI_nat {α : Type} {xs : List α} {j : Nat} {v : α} (h : xs[j]? = some v) : atI xs (j : Int) = some v := by
  have hj : j < xs.length := (List.getElem?_eq_some_iff.mp h).1
  have e : ixN xs.length (j : Int) = some j := by
    unfold ixN
    rw [if_pos (by omega), if_pos (by omega)]; simp
  unfold atI; rw [e]; exact h
/-! ### what may be subscripted -/
/-- what stands as an index of a plain subscript -/
def PlainIx (b : Expr) : Prop := ∀ o i, subscripted b false o i = operate [o, i] (getItem o i)
/-- a subscript by values -/
def IxR (X : Cx) (r : R2) : Prop :=
  ∀ (value slice : Expr) (pins : List (Addr × Obj)) (s : Shared) (σ : St) (H : Hp) (x y : V) (v u : Value) (Q : VK), Inv X pins σ H s → RelV x v → RelV y u → r x y H Q →
    subscripted slice false v u = operate [v, u] (getItem v u) → wpAny (model X.prog X.w) X.A (subscriptTail value slice v u) (EP X pins σ Q) X.xe s
/-- a call of a builtin's method by values: the receiver, the arguments -/
def MtR (X : Cx) (id : String) (r : V → List V → Hp → VK → Prop) : Prop :=
  ∀ (pins : List (Addr × Obj)) (s : Shared) (σ : St) (H : Hp) (x : V) (xs : List V) (v : Value) (us : List Value) (Q : VK), Inv X pins σ H s → RelV x v → Vals xs us → r x xs H Q →
    wpAny (model X.prog X.w) X.A (call (.builtin id) (v :: us)) (EP X pins σ Q) X.xe s
section
variable {X : Cx} {a b : Expr} {ta tb : TE} {pos : Pos}
/-- a[b] -/
theorem pe_ix {r : R2} (hr : IxR X r) (ha : PE X a ta) (hb : PE X b tb) (hs : PlainIx b) : PE X (.Subscript a b pos) (tOp r ta tb) := by
  intro pins s σ H Q I h
  exact Subscript_ (binT ha hb I h fun v u s2 x y H2 I2 rx ry q => hr a b pins s2 σ H2 x y v u Q I2 rx ry q (hs _ _))

def rIxL (K : PySem.W.Frag) : R2 := fun x y H Q => ∃ p xs i v, x = .ref p ∧ y = .int i ∧ SqL K H p xs ∧ atI xs i = some v ∧ Q v H
def rIxT (K : PySem.W.Frag) : R2 := fun x y H Q => ∃ p xs i v, x = .ref p ∧ y = .int i ∧ SqT K H p xs ∧ atI xs i = some v ∧ Q v H
def rIxS : R2 := fun x y H Q => ∃ z i c, x = .str z ∧ y = .int i ∧ z.length ≤ sizeLine ∧ atI z.cps.toList i = some c ∧ Q (.str ⟨#[c]⟩) H
theorem ix_list : IxR X (rIxL X.K) := by
  intro value slice pins s σ H x y v u Q I rx ry h hs
  obtain ⟨p, xs, i, z, rfl, rfl, hq, he, q⟩ := h
  cases rx
  obtain ⟨t, rfl⟩ := ry
  obtain ⟨its, r, pl, hz⟩ := I.list hq
  obtain ⟨j, h1, h2, h3, h4, h5⟩ := atI_get he
  obtain ⟨w, ew, rw'⟩ := r.get h2
  have hl := r.length
  have hn := line63
  have fin : EP X pins σ Q w s := ⟨z, H, I, rw', q⟩
  by_cases h0 : 0 ≤ i
  · have hj : i.toNat = j := by
      rw [seqIndex_of h0 h5] at h1
      exact Option.some.inj h1
    exact item_listR pl.isList h0 (by omega) (by rw [hj]; simpa using ew) fin hs
  · have hj : (i + (its.toArray.size : Int)).toNat = j := by
      rw [seqIndex_neg (by omega) h4] at h1
      rw [List.size_toArray, ← hl]
      exact Option.some.inj h1
    exact subscriptTail_builtinR (x := w) pl.isList.typeIs slot_list_getitem.lookup
      (wpAny_getItem_list_neg (Q := fun r s' => r = w ∧ EP X pins σ Q r s') pl.isList (by omega) (by rw [List.size_toArray] <;> omega) (by omega) (by rw [hj]; simpa using ew) ⟨rfl, fin⟩) hs
theorem ix_tup : IxR X (rIxT X.K) := by
  intro value slice pins s σ H x y v u Q I rx ry h hs
  obtain ⟨p, xs, i, z, rfl, rfl, hq, he, q⟩ := h
  cases rx
  obtain ⟨t, rfl⟩ := ry
  obtain ⟨its, r, pl, hz⟩ := I.tuple hq
  obtain ⟨j, h1, h2, h3, h4, h5⟩ := atI_get he
  obtain ⟨w, ew, rw'⟩ := r.get h2
  have hl := r.length
  have hn := line63
  have fin : EP X pins σ Q w s := ⟨z, H, I, rw', q⟩
  exact subscriptTail_builtinR (x := w) pl.typeIs slot_tuple_getitem.lookup
    (getItem_tuple (j := j) (Q := fun r s' => r = w ∧ EP X pins σ Q r s') pl (by omega) (by omega) (by rw [List.size_toArray, ← hl]; exact h1) (by simpa using ew) ⟨rfl, fin⟩) hs
/-- list, tuple or str -/
def rIx (K : PySem.W.Frag) : R2 := fun x y H Q => rIxL K x y H Q ∨ rIxT K x y H Q ∨ rIxS x y H Q
/-! ### xs[i] = v, any sign -/
/-- the list's object behind a store -/
theorem mapSeq_set (its : List Value) (n j : Nat) (u : Value) : Obj.mapSeq (·.setIfInBounds j u) { cls := .type "list", data := .seq its.toArray n } = { cls := .type "list", data := .seq (its.set j u).toArray n } := by
  simp [Obj.mapSeq]
theorem Inv.lst {pins : List (Addr × Obj)} {σ : St} {H : Hp} {s : Shared} {p : Addr} {xs : List V} (I : Inv X pins σ H s) (h : H p = some (.lst xs)) :
    ∃ (its : List Value) (n : Nat), Vals xs its ∧ s.heap.get? p = some { cls := .type "list", data := .seq its.toArray n } ∧ xs.length ≤ sizeLine := by
  obtain ⟨z, its, n, r, e⟩ := I.hok p _ h
  exact ⟨its, n, r, e, z⟩
/-- the list at p is written by an update of its object -/
theorem Inv.lstUpd {pins : List (Addr × Obj)} {σ : St} {H : Hp} {s : Shared} {p : Addr} {xs ys : List V} {its its' : List Value} {n n' : Nat} {f : Obj → Obj} (I : Inv X pins σ H s) (h : H p = some (.lst xs))
    (ho : s.heap.get? p = some { cls := .type "list", data := .seq its.toArray n }) (hf : f { cls := .type "list", data := .seq its.toArray n } = { cls := .type "list", data := .seq its'.toArray n' }) (r : Vals ys its') (hz : ys.length ≤ sizeLine) (t : Nat) :
    Inv X pins σ (upd H p (.lst ys)) { s with heap := s.heap.update p f, toks := t } := by
  have e : (s.heap.update p f).get? p = some { cls := .type "list", data := .seq its'.toArray n' } := by
    rw [Heap.get?_update_self f ho (by rw [hf] <;> rfl), hf]
  refine I.write (x := p) (e := p) (by rw [h]; trivial) (.inl rfl) (fun b u hb q => (Heap.get?_update_other _ _ (Ne.symm hb)).trans q) ⟨_, e⟩ ?_
  exact ⟨hz, its', n', r, e⟩
def rSetL : V → V → V → Hp → (Hp → Prop) → Prop := fun o i v H Q => ∃ p xs k j, o = .ref p ∧ i = .int k ∧ H p = some (.lst xs) ∧ ixN xs.length k = some j ∧ Q (upd H p (.lst (xs.set j v)))
theorem set_list : PSet X rSetL := by
  intro pins s σ H o i v ov iv u Q I ro ri rv h
  obtain ⟨p, xs, k, j, rfl, rfl, hp, hj, q⟩ := h
  cases ro
  obtain ⟨t, rfl⟩ := ri
  obtain ⟨its, n, r, ho, hz⟩ := I.lst hp
  obtain ⟨h1, h2, h3, h4⟩ := ixN_seq hj
  have hl := r.length
  have hn := line63
  have I' : Inv X pins σ (upd H p (.lst (xs.set j v))) { s with heap := s.heap.update p (Obj.mapSeq (·.setIfInBounds j u)) } :=
    I.lstUpd hp ho (mapSeq_set its n j u) (r.set rv j) (by rw [List.length_set]; exact hz) s.toks
  by_cases h0 : 0 ≤ k
  · have hk : k.toNat = j := by
      rw [seqIndex_of h0 h4] at h1
      exact Option.some.inj h1
    exact PySem.W.ki_setAt ho h0 (by omega) (by rw [List.size_toArray, ← hl]; exact h4) (by rw [hk]; exact ⟨_, I', q⟩)
  · have hk : (k + (its.toArray.size : Int)).toNat = j := by
      rw [seqIndex_neg (by omega) h3] at h1
      rw [List.size_toArray, ← hl]
      exact Option.some.inj h1
    exact PySem.W.ki_setBack ho (by omega) (by rw [List.size_toArray, ← hl]; exact h3) (by omega) (by rw [hk]; exact ⟨_, I', q⟩)

/-! ### slices -/
theorem slice_bounds (lo hi : Option Int) (n : Nat) : (sliceBounds lo hi none n).1 = ((HT.sIx n 0 lo : Nat) : Int) ∧ (sliceBounds lo hi none n).2.1 = ((HT.sIx n n hi : Nat) : Int) ∧ (sliceBounds lo hi none n).2.2 = 1 := by
  refine ⟨?_, ?_, rfl⟩
  · cases lo with
    | none => simp [sliceBounds, HT.sIx]
    | some i =>
      simp only [sliceBounds, HT.sIx, Option.getD_none, show (1 : Int) > 0 by decide, if_true]
      by_cases h : i < 0
      · simp only [h, if_true] <;> omega
      · simp only [h, if_false] <;> omega
  · cases hi with
    | none => simp [sliceBounds, HT.sIx]
    | some i =>
      simp only [sliceBounds, HT.sIx, Option.getD_none, show (1 : Int) > 0 by decide, if_true]
      by_cases h : i < 0
      · simp only [h, if_true] <;> omega
      · simp only [h, if_false] <;> omega
theorem slicePick_cut (its : List Value) (lo hi : Option Int) : slicePick its.toArray lo hi none = ((its.drop (HT.sIx its.length 0 lo)).take (HT.sIx its.length its.length hi - HT.sIx its.length 0 lo)).toArray := by
  obtain ⟨h1, h2, h3⟩ := slice_bounds lo hi its.toArray.size
  unfold slicePick
  rw [h1, h2, h3]
  simp only [sliceRange_one, pick_run, List.size_toArray] <;> rfl
/-- xs[lo:hi] of a list: a new list -/
def rSlL (K : PySem.W.Frag) : V → Option Int → Option Int → Hp → VK → Prop := fun x lo hi H Q => ∃ a xs, x = .ref a ∧ SqL K H a xs ∧ ∀ p, H p = none → Q (.ref p) (upd H p (.lst (cutV xs lo hi)))
theorem sl_list : SlR X (rSlL X.K) := by
  intro pins s σ H x v vl vu lo hi sl Q I rx hs pl pu h
  obtain ⟨a, xs, rfl, hx, q⟩ := h
  cases rx
  obtain ⟨its, r, ht, hz⟩ := I.list hx
  have hlen := r.length
  refine ⟨"list", _, slot_list_getitem.lookup, ht.isList.typeIs, ?_⟩
  refine wpAny_getItem_list_slice ht.isList hs pl pu .none (by simp) ?_ (by rw [List.size_toArray] <;> omega)
  rw [slicePick_cut, ← hlen]
  refine ⟨.ref s.heap.objs.size, _, I.laid (t' := s.toks) (o := .lst (cutV xs lo hi)) (fun b ob q => Heap.get?_push_of_some _ q) (Nat.le_refl _) ?_, rfl, q _ (I.hok.fresh (Nat.le_refl _))⟩
  exact ⟨Nat.le_trans (cutV_length xs lo hi) hz, _, 0, (r.drop (HT.sIx xs.length 0 lo)).take (HT.sIx xs.length xs.length hi - HT.sIx xs.length 0 lo), Heap.get?_push_size _ rfl⟩

/-! ### in, not in: flat items -/
def flatV : V → Bool
  | .non => true
  | .bl _ => true
  | .int _ => true
  | .str _ => true
  | _ => false
/-- == of flat values -/
def eqV : V → V → Bool
  | .non, .non => true
  | .bl a, .bl b => a == b
  | .bl a, .int b => (if a then 1 else 0) == b
  | .int a, .bl b => a == (if b then 1 else 0)
  | .int a, .int b => a == b
  | .str a, .str b => a == b
  | _, _ => false
theorem eqAt_V {A : Around} {s : Shared} {y x : V} {u v : Value} (ry : RelV y u) (rx : RelV x v) (fy : flatV y = true) (fx : flatV x = true) : SeqAt.EqAt A s u v (eqV y x) := by
  cases y with
  | non =>
    cases ry
    cases x with
    | non => cases rx; exact SeqAt.EqAt.same _
    | bl b => cases rx; exact SeqAt.EqAt.none_bool b
    | int b => obtain ⟨t, rfl⟩ := rx; exact SeqAt.EqAt.none_int b t
    | str b => obtain ⟨t, rfl⟩ := rx; exact SeqAt.EqAt.none_str b t
    | _ => exact absurd (show false = true from fx) Bool.false_ne_true
  | bl a =>
    cases ry
    cases x with
    | non => cases rx; exact SeqAt.EqAt.bool_none a
    | bl b => cases rx; exact SeqAt.EqAt.bool_bool a b
    | int b => obtain ⟨t, rfl⟩ := rx; exact SeqAt.EqAt.bool_int a b t
    | str b => obtain ⟨t, rfl⟩ := rx; exact SeqAt.EqAt.bool_str a b t
    | _ => exact absurd (show false = true from fx) Bool.false_ne_true
  | int a =>
    obtain ⟨t', rfl⟩ := ry
    cases x with
    | non => cases rx; exact SeqAt.EqAt.int_none a t'
    | bl b => cases rx; exact SeqAt.EqAt.int_bool a t' b
    | int b => obtain ⟨t, rfl⟩ := rx; exact SeqAt.EqAt.int_int a t' b t
    | str b => obtain ⟨t, rfl⟩ := rx; exact SeqAt.EqAt.int_str a t' b t
    | _ => exact absurd (show false = true from fx) Bool.false_ne_true
  | str a =>
    obtain ⟨t', rfl⟩ := ry
    cases x with
    | non => cases rx; exact SeqAt.EqAt.str_none a t'
    | bl b => cases rx; exact SeqAt.EqAt.str_bool a t' b
    | int b => obtain ⟨t, rfl⟩ := rx; exact SeqAt.EqAt.str_int a t' b t
    | str b => obtain ⟨t, rfl⟩ := rx; exact SeqAt.EqAt.str_str a t' b t
    | _ => exact absurd (show false = true from fx) Bool.false_ne_true
  | _ => exact absurd (show false = true from fy) Bool.false_ne_true
/-- the items' answers, read off the values (a value's own answer does not lean on its token) -/
def eqU (x : V) (u : Value) : Bool := match u with
  | .none => eqV .non x
  | .bool b => eqV (.bl b) x
  | .int i _ => eqV (.int i) x
  | .str z _ => eqV (.str z) x
  | _ => false
theorem eqU_of {x y : V} {u : Value} (r : RelV y u) (f : flatV y = true) : eqU x u = eqV y x := by
  cases y with
  | non => cases r; rfl
  | bl b => cases r; rfl
  | int i => obtain ⟨t, rfl⟩ := r; rfl
  | str z => obtain ⟨t, rfl⟩ := r; rfl
  | _ => exact absurd (show false = true from f) Bool.false_ne_true
theorem any_eqU {x : V} : ∀ {xs : List V} {us : List Value}, Vals xs us → xs.all flatV = true → us.any (eqU x) = xs.any fun y => eqV y x
  | _, _, .nil, _ => rfl
  | y :: xs, u :: us, .cons r t, f => by
    rw [List.all_cons, Bool.and_eq_true] at f
    rw [List.any_cons, List.any_cons, eqU_of r f.1, any_eqU t f.2]
theorem mem_eqAt {A : Around} {s : Shared} {x : V} {v : Value} (rx : RelV x v) (fx : flatV x = true) : ∀ {xs : List V} {us : List Value}, Vals xs us → xs.all flatV = true → ∀ u ∈ us, SeqAt.EqAt A s u v (eqU x u)
  | _, _, .nil, _ => fun u hu => by cases hu
  | y :: xs, u :: us, .cons r t, f => fun u' hu => by
    rw [List.all_cons, Bool.and_eq_true] at f
    rcases List.mem_cons.mp hu with rfl | hu
    · rw [eqU_of r f.1]; exact eqAt_V r rx f.1 fx
    · exact mem_eqAt rx fx t f.2 u' hu
def inV (x : V) (xs : List V) : Bool := xs.any fun y => eqV y x
/-- x in a list or tuple of flat items -/
def rIn (K : PySem.W.Frag) (neg : Bool) : R2 := fun x y H Q => ∃ p xs, y = .ref p ∧ (SqL K H p xs ∨ SqT K H p xs) ∧ flatV x = true ∧ xs.all flatV = true ∧ Q (.bl (if neg then !inV x xs else inV x xs)) H
theorem op_in_seq : OpR X (compareOp .In) (rIn X.K false) := by
  intro pins s σ H x y v u Q I rx ry h
  obtain ⟨p, xs, rfl, hq, fx, fs, q⟩ := h
  cases ry
  rcases hq with hq | hq
  · obtain ⟨its, r, pl, hz⟩ := I.list hq
    refine SeqAt.in_listAt (eqU x) pl.isList (fun w hw => mem_eqAt rx fx r fs w (by simpa using hw)) ⟨.bl _, H, I, rfl, ?_⟩
    rw [show its.toArray.any (eqU x) = its.any (eqU x) by simp, any_eqU r fs]
    exact q
  · obtain ⟨its, r, pl, hz⟩ := I.tuple hq
    refine SeqAt.in_tupleAt (eqU x) pl (fun w hw => mem_eqAt rx fx r fs w (by simpa using hw)) ⟨.bl _, H, I, rfl, ?_⟩
    rw [show its.toArray.any (eqU x) = its.any (eqU x) by simp, any_eqU r fs]
    exact q
/-! ### len, list(x), tuple(x) of any list or tuple that is read -/
theorem call_len_seq : CallR X (.builtin "len") (fun xs H Q => ∃ p ys, xs = [.ref p] ∧ (SqL X.K H p ys ∨ SqT X.K H p ys) ∧ Q (.int ys.length) H) := by
  intro pins s σ H xs us Q I r h
  obtain ⟨p, ys, rfl, hq, q⟩ := h
  obtain ⟨u, rfl, rx⟩ := vals1 r
  cases rx
  have hn := line63
  rcases hq with hq | hq
  · obtain ⟨its, r', pl, hz⟩ := I.list hq
    have hlen := r'.length
    exact Calls.call_len_list pl.isList (by simp only [List.size_toArray] <;> omega) ⟨.int ys.length, H, I.tok _, ⟨s.toks + 1, by rw [List.size_toArray, hlen]⟩, q⟩
  · obtain ⟨its, r', pl, hz⟩ := I.tuple hq
    have hlen := r'.length
    exact len_tuple pl (by simp only [List.size_toArray] <;> omega) ⟨.int ys.length, H, I.tok _, ⟨s.toks + 1, by rw [List.size_toArray, hlen]⟩, q⟩
theorem call_list_of : CallR X (.type "list") (fun xs H Q => ∃ p ys, xs = [.ref p] ∧ (SqL X.K H p ys ∨ SqT X.K H p ys) ∧ ∀ l, H l = none → Q (.ref l) (upd H l (.lst ys))) := by
  intro pins s σ H xs us Q I r h
  obtain ⟨p, ys, rfl, hq, q⟩ := h
  obtain ⟨u, rfl, rx⟩ := vals1 r
  cases rx
  have fin : ∀ (its : List Value), Vals ys its → ys.length ≤ sizeLine → ∀ (h' : Heap) (c' : Nat), (∀ b o', s.heap.get? b = some o' → h'.get? b = some o') →
      h'.get? s.heap.objs.size = some { cls := .type "list", dict := none, data := .seq its.toArray c', slots := #[] } → EP X pins σ Q (.ref s.heap.objs.size) { s with heap := h' } := fun its r' hz h' c' kp e =>
    ⟨.ref s.heap.objs.size, _, I.laid (t' := s.toks) kp (Nat.le_refl _) (show ObjOk X.prog X.w _ h' _ (.lst ys) from ⟨hz, its, c', r', e⟩), rfl, q _ (I.hok.fresh (Nat.le_refl _))⟩
  rcases hq with hq | hq
  · obtain ⟨its, r', pl, hz⟩ := I.list hq
    have hlen := r'.length
    obtain ⟨o, ho, hc, n, hd⟩ := pl.isList
    exact call_list_seq p (.inl rfl) ho hc hd (fun h' c' kp e => fin its r' hz h' c' kp e) (by simp only [List.size_toArray] <;> omega)
  · obtain ⟨its, r', pl, hz⟩ := I.tuple hq
    have hlen := r'.length
    obtain ⟨o, ho, hc, n, hd⟩ := pl
    exact call_list_seq p (.inr rfl) ho hc hd (fun h' c' kp e => fin its r' hz h' c' kp e) (by simp only [List.size_toArray] <;> omega)
theorem call_tuple_of : CallR X (.type "tuple") (fun xs H Q => ∃ p ys, xs = [.ref p] ∧ ((SqL X.K H p ys ∧ ∀ l, H l = none → Q (.ref l) (upd H l (.tup ys))) ∨ (SqT X.K H p ys ∧ Q (.ref p) H))) := by
  intro pins s σ H xs us Q I r h
  obtain ⟨p, ys, rfl, h⟩ := h
  obtain ⟨u, rfl, rx⟩ := vals1 r
  cases rx
  rcases h with ⟨hq, q⟩ | ⟨hq, q⟩
  · obtain ⟨its, r', pl, hz⟩ := I.list hq
    have hlen := r'.length
    refine call_tuple_list pl.isList (fun h' kp => ?_) (by simp only [List.size_toArray] <;> omega)
    have I1 : Inv X pins σ H { s with heap := h' } := I.kept (t' := s.toks) kp
    have I2 : Inv X pins σ (upd H h'.objs.size (.tup ys)) { s with heap := h'.push { cls := .type "tuple", data := .seq its.toArray } } :=
      I1.laid (t' := s.toks) (fun b o e => Heap.get?_push_of_some _ e) (Nat.le_refl _) (show ObjOk X.prog X.w _ _ _ (.tup ys) from ⟨hz, its, r', IsTup.new _ _⟩)
    exact ⟨.ref h'.objs.size, _, I2, rfl, q _ (I1.hok.fresh (Nat.le_refl _))⟩
  · obtain ⟨its, r', pl, hz⟩ := I.tuple hq
    exact call_tuple_same pl ⟨.ref p, H, I, rfl, q⟩

/-! ### the call of a builtin's method: o.m(..) -/
/-- the value is of that builtin type -/
def tyV (K : PySem.W.Frag) (T : String) (x : V) (H : Hp) : Prop := match x with
  | .str _ => T = "str"
  | .int _ => T = "int"
  | .ref p => (T = "list" ∧ ∃ xs, SqL K H p xs) ∨ (T = "tuple" ∧ ∃ o, K.lookup p = some o ∧ o.cls = .type "tuple" ∧ o.dict = none) ∨
      (T = "dict" ∧ ((∃ kvs, H p = some (.dK kvs)) ∨ ∃ kvs, H p = some (.dT kvs))) ∨ (T = "set" ∧ ∃ S n, H p = some (.set S n))
  | _ => False
theorem tyV_is {pins : List (Addr × Obj)} {σ : St} {H : Hp} {s : Shared} {T : String} {x : V} {v : Value} (I : Inv X pins σ H s) (r : RelV x v) (ty : tyV X.K T x H) :
    s.TypeIs v T ∧ ∀ a, v = .ref a → ∃ ob, s.heap.get? a = some ob ∧ ob.dict = none := by
  cases x with
  | str z =>
    obtain ⟨t, rfl⟩ := r
    cases (show T = "str" from ty)
    exact ⟨typeIs_str s z t, fun _ e => nomatch e⟩
  | int i =>
    obtain ⟨t, rfl⟩ := r
    cases (show T = "int" from ty)
    exact ⟨typeIs_int s i t, fun _ e => nomatch e⟩
  | ref p =>
    cases r
    rcases ty with ⟨rfl, xs, hq⟩ | ⟨rfl, o, hk, hc, hd⟩ | ⟨rfl, hk⟩ | ⟨rfl, S, n, hk⟩
    · obtain ⟨its, _, pl, _⟩ := I.list hq
      refine ⟨pl.isList.typeIs, fun a e => ?_⟩
      cases e
      obtain ⟨o, n, e, c, hd, _⟩ := pl
      exact ⟨o, e, hd⟩
    · refine ⟨⟨o, I.kIn p o hk, hc⟩, fun a e => ?_⟩
      cases e
      exact ⟨o, I.kIn _ o hk, hd⟩
    · have z : ∃ o, s.heap.get? p = some o ∧ o.ExactDict := by
        rcases hk with ⟨kvs, hk⟩ | ⟨kvs, hk⟩
        · obtain ⟨_, _, _, _, o, _, _, e, ex, _⟩ := I.hok p _ hk
          exact ⟨o, e, ex⟩
        · obtain ⟨_, _, _, _, o, _, _, e, ex, _⟩ := I.hok p _ hk
          exact ⟨o, e, ex⟩
      obtain ⟨o, e, ex⟩ := z
      refine ⟨⟨o, e, ex.1⟩, fun a e2 => ?_⟩
      cases e2
      exact ⟨o, e, ex.2.1⟩
    · obtain ⟨o, _, _, _, e, ex, _⟩ := I.hok p _ hk
      refine ⟨⟨o, e, ex.1⟩, fun a e2 => ?_⟩
      cases e2
      exact ⟨o, e, ex.2.1⟩
  | _ => exact False.elim ty
def tBM0 (K : PySem.W.Frag) (T : String) (r : V → List V → Hp → VK → Prop) (to : TE) : TE := fun σ H Q => to σ H fun x H1 => tyV K T x H1 ∧ r x [] H1 Q
def tBM (K : PySem.W.Frag) (T : String) (r : V → List V → Hp → VK → Prop) (to : TE) (t : TA) : TE := fun σ H Q => to σ H fun x H1 => tyV K T x H1 ∧ t σ H1 fun xs H2 => r x xs H2 Q
variable {o e : Expr} {es : List Expr} {to : TE} {t : TA} {name : Str} {apos cpos : Pos} {T id : String} {r : V → List V → Hp → VK → Prop}
theorem pe_bm0 (pa : PlainAttrs T) (slot : Slot T name id) (hty : typeOf (.builtin id) = pure (.type "method_descriptor")) (hm : MtR X id r) (ho : PE X o to)
    (hbase : attributeBase o name X.env (eval o X.env) = eval o X.env := by rfl) (hline : (apos.endLine == cpos.line) = true := by rfl) : PE X (.Call (.Attribute o name apos) [] [] cpos) (tBM0 X.K T r to) := by
  intro pins s σ H Q I h
  refine wpAny_Call_method0_late hbase hline (thn (ho pins s σ H _ I h) fun v s1 ⟨x, H1, I1, r1, ty, q1⟩ => ?_)
  obtain ⟨h1, h2⟩ := tyV_is I1 r1 ty
  exact ⟨T, id, pa, slot, hty, h1, h2, Calls.callWith_builtin rfl (PySem.evalArgs_none (hm pins s1 σ H1 x [] v [] Q I1 r1 .nil q1))⟩
theorem pe_bm (pa : PlainAttrs T) (slot : Slot T name id) (hty : typeOf (.builtin id) = pure (.type "method_descriptor")) (hm : MtR X id r) (ho : PE X o to) (ha : PA X (e :: es) t)
    (hbase : attributeBase o name X.env (eval o X.env) = eval o X.env := by rfl)
    (hfew : ((backTo cpos (starEach (e :: es) X.env)).all (fun x => !x.1) && (backToKw cpos (keywordEach [] X.env)).all (fun x => x.1.isSome)
      && decide ((e :: es).length + ([] : List Keyword).length + (if ([] : List Keyword).isEmpty then 0 else 1) < 30)) = true := by rfl)
    (hline : (apos.endLine == cpos.line) = true := by rfl) (hs : starEach (e :: es) X.env = (false, eval e X.env) :: starEach es X.env := by rfl) (hplain : (backTo cpos (starEach es X.env)).any (·.1) = false := by rfl) :
    PE X (.Call (.Attribute o name apos) (e :: es) [] cpos) (tBM X.K T r to t) := by
  intro pins s σ H Q I h
  refine wpAny_Call_method_late hbase hfew hline rfl (thn (ho pins s σ H _ I h) fun v s1 ⟨x, H1, I1, r1, ty, q1⟩ => ?_)
  obtain ⟨h1, h2⟩ := tyV_is I1 r1 ty
  refine ⟨T, id, pa, slot, hty, h1, h2, ?_⟩
  have hA := ha cpos pins s1 σ H1 _ I1 q1
  rw [hs] at hA ⊢
  refine Calls.callWith_builtin (by show (false || (backTo cpos (starEach es X.env)).any (·.1)) = false; rw [hplain] <;> rfl) (Calls.evalArgs_plain ?_)
  exact thn hA fun us s2 ⟨vs, H2, I2, r2, q2⟩ => hm pins s2 σ H2 x vs v us Q I2 r1 r2 q2
/- xs.append(e), list.index on a module's tuple .. are MtR facts of 06m -/
end
end L2

namespace L2
open PySem PySem.Spec PyProof.Rows

def MtM (X : Cx) (id : String) (r : V → List V → Hp → VK → Prop) : Prop :=
  ∀ (pins : List (Addr × Obj)) (s : Shared) (σ : St) (H : Hp) (x : V) (xs : List V) (v : Value) (us : List Value) (Q : VK), Inv X pins σ H s → RelV x v → Vals xs us → r x xs H Q →
    wpAny (model X.prog X.w) X.A (call (.builtin id) (v :: us)) (EP X pins σ Q) X.xe s

/-! ### lists of values -/
theorem Vals.one : ∀ {x : V} {us : List Value}, Vals [x] us → ∃ u, us = [u] ∧ RelV x u
  | _, _, .cons r .nil => ⟨_, rfl, r⟩
theorem Vals.two : ∀ {x y : V} {us : List Value}, Vals [x, y] us → ∃ u v, us = [u, v] ∧ RelV x u ∧ RelV y v
  | _, _, _, .cons r (.cons q .nil) => ⟨_, _, rfl, r, q⟩
theorem Vals.zero : ∀ {us : List Value}, Vals [] us → us = []
  | _, .nil => rfl
theorem Vals.dropLast {xs : List V} {us : List Value} (h : Vals xs us) : Vals xs.dropLast us.dropLast := by
  induction h with
  | nil => exact .nil
  | cons r t ih =>
    cases t with
    | nil => exact .nil
    | cons q t' => exact .cons r ih
theorem Vals.rep {xs : List V} {us : List Value} (h : Vals xs us) : ∀ k : Nat, Vals (List.replicate k xs).flatten (List.replicate k us).flatten
  | 0 => .nil
  | k + 1 => by
    rw [List.replicate_succ, List.replicate_succ, List.flatten_cons, List.flatten_cons]
    exact Vals.append h (Vals.rep h k)
theorem erase_last {α : Type} (l : List α) : l.eraseIdx (l.length - 1) = l.dropLast := by
  induction l with
  | nil => rfl
  | cons a r ih =>
    cases r with
    | nil => rfl
    | cons b r =>
      have e : (a :: b :: r).length - 1 = ((b :: r).length - 1) + 1 := by
        have h1 : (a :: b :: r).length = r.length + 2 := rfl
        have h2 : (b :: r).length = r.length + 1 := rfl
        omega
      rw [e, List.eraseIdx_cons_succ, ih]
      all_goals rfl
theorem foldl_rep (its : List Value) : ∀ (k : Nat) (acc : List Value),
    List.foldl (fun x1 x2 => x1 ++ x2) acc.toArray (List.replicate k its.toArray) = (acc ++ (List.replicate k its).flatten).toArray
  | 0, acc => by simp
  | k + 1, acc => by
    have e : acc.toArray ++ its.toArray = (acc ++ its).toArray := by simp
    have e2 : (acc ++ its) ++ (List.replicate k its).flatten = acc ++ (List.replicate (k + 1) its).flatten := by
      rw [List.replicate_succ, List.flatten_cons, List.append_assoc]
    rw [← e2, ← foldl_rep its k (acc ++ its), ← e, List.replicate_succ, List.foldl_cons]

section
variable {X : Cx} {pins : List (Addr × Obj)} {σ : St} {H : Hp} {s : Shared} {l b : Addr} {xs ys zs : List V}

/-! ### the two steps: a tracked list is rewritten, a new list is laid -/
theorem Inv.lset {its its' : List Value} {n : Nat} {f : Array Value → Array Value} {t' : Nat} (I : Inv X pins σ H s) (hH : H l = some (.lst xs))
    (e : s.heap.get? l = some { cls := .type "list", data := .seq its.toArray n }) (hf : f its.toArray = its'.toArray) (hv : Vals ys its') (hz : ys.length ≤ sizeLine) :
    Inv X pins σ (upd H l (.lst ys)) { s with heap := s.heap.update l (Obj.mapSeq f), toks := t' } := by
  have q := PySem.IsL.update e f
  rw [hf] at q
  refine I.write (x := l) (e := l) (by rw [hH]; exact trivial) (.inl rfl) (fun b' u hb hu => (Heap.get?_update_other s.heap (Obj.mapSeq f) (Ne.symm hb)).trans hu) ⟨_, q⟩ ?_
  exact ⟨hz, its', _, hv, q⟩
theorem Inv.lnew {its : List Value} {t' : Nat} (I : Inv X pins σ H s) (hv : Vals ys its) (hz : ys.length ≤ sizeLine) :
    Inv X pins σ (upd H s.heap.objs.size (.lst ys)) { s with heap := s.heap.push { cls := .type "list", data := .seq its.toArray }, toks := t' } :=
  I.laid (fun _ _ q => Heap.get?_push_of_some _ q) (Nat.le_refl _) ⟨hz, its, 0, hv, Heap.get?_push_size _ rfl⟩
theorem Inv.fresh (I : Inv X pins σ H s) : H s.heap.objs.size = none := I.hok.fresh (Nat.le_refl _)
theorem Inv.lstM (I : Inv X pins σ H s) (hH : H l = some (.lst xs)) : xs.length ≤ sizeLine ∧ ∃ (its : List Value) (n : Nat), Vals xs its ∧ xs.length = its.length ∧ s.heap.get? l = some { cls := .type "list", data := .seq its.toArray n } := by
  obtain ⟨z, its, n, r, e⟩ := I.hok l _ hH
  exact ⟨z, its, n, r, r.length, e⟩

theorem notLongL {n : Nat} (h : n ≤ sizeLine) : Builtin.List.listTooLong n = false := by
  unfold Builtin.List.listTooLong
  exact decide_eq_false (by omega)
end

section
variable {X : Cx}

/-! ### methods -/
def rAppend : V → List V → Hp → VK → Prop := fun x vs H Q => ∃ l xs y, x = .ref l ∧ vs = [y] ∧ H l = some (.lst xs) ∧ xs.length < sizeLine ∧ Q .non (upd H l (.lst (xs ++ [y])))
theorem mt_append : MtM X "list.append" rAppend := by
  intro pins s σ H x vs v us Q I rx rv h
  obtain ⟨l, xs, y, rfl, rfl, hH, hz, q⟩ := h
  cases rx
  obtain ⟨u, rfl, ru⟩ := rv.one
  obtain ⟨z, its, n, r, hl, e⟩ := I.lstM hH
  refine call_meets F.slot_list_append ⟨_, e, rfl⟩ F.entry_list_append (F.args_list_append_2 _ _) (PySem.list_append l its.toArray n u (by rw [List.size_toArray]; omega)) ⟨e, ?_⟩
  refine ⟨.non, _, I.lset (its' := its ++ [u]) hH e (by simp) (r.append (.cons ru .nil)) ?_, rfl, q⟩
  rw [List.length_append, List.length_singleton]
  omega

def rExtend : V → List V → Hp → VK → Prop := fun x vs H Q => ∃ l b xs zs, x = .ref l ∧ vs = [.ref b] ∧ H l = some (.lst xs) ∧ H b = some (.lst zs) ∧ xs.length + zs.length ≤ sizeLine ∧ Q .non (upd H l (.lst (xs ++ zs)))
def rPop : V → List V → Hp → VK → Prop := fun x vs H Q => ∃ l xs y, x = .ref l ∧ vs = [] ∧ H l = some (.lst xs) ∧ xs[xs.length - 1]? = some y ∧ Q y (upd H l (.lst xs.dropLast))
theorem mt_pop : MtM X "list.pop" rPop := by
  intro pins s σ H x vs v us Q I rx rv h
  obtain ⟨l, xs, y, rfl, rfl, hH, hy, q⟩ := h
  cases rx
  have hus := rv.zero
  subst hus
  obtain ⟨z, its, n, r, hl, e⟩ := I.lstM hH
  obtain ⟨u, hu, ru⟩ := r.get hy
  have hy' : its.toArray[its.toArray.size - 1]? = some u := by
    show its.toArray[its.length - 1]? = some u
    rw [← Array.getElem?_toList, ← hl]
    exact hu
  refine call_meets F.slot_list_pop ⟨_, e, rfl⟩ F.entry_list_pop (F.args_list_pop_1 _) (MeetsSeq.list_pop_last l its.toArray n u hy' (by rw [List.size_toArray]; omega)) ⟨e, ?_⟩
  refine ⟨y, _, I.lset (its' := its.dropLast) hH e ?_ r.dropLast ?_, ru, q⟩
  · show its.toArray.eraseIdxIfInBounds (its.toArray.size - 1) = its.dropLast.toArray
    rw [List.size_toArray, List.eraseIdxIfInBounds_toArray, erase_last]
  · rw [List.length_dropLast]
    omega

def rPopAt : V → List V → Hp → VK → Prop := fun x vs H Q => ∃ l xs i k y, x = .ref l ∧ vs = [.int i] ∧ H l = some (.lst xs) ∧ -(2 ^ 63) ≤ i ∧ i < 2 ^ 63 ∧ seqIndex? i xs.length = some k ∧ xs[k]? = some y ∧ Q y (upd H l (.lst (xs.eraseIdx k)))
def rReverse : V → List V → Hp → VK → Prop := fun x vs H Q => ∃ l xs, x = .ref l ∧ vs = [] ∧ H l = some (.lst xs) ∧ Q .non (upd H l (.lst xs.reverse))
def rClear : V → List V → Hp → VK → Prop := fun x vs H Q => ∃ l xs, x = .ref l ∧ vs = [] ∧ H l = some (.lst xs) ∧ Q .non (upd H l (.lst []))
theorem mt_clear : MtM X "list.clear" rClear := by
  intro pins s σ H x vs v us Q I rx rv h
  obtain ⟨l, xs, rfl, rfl, hH, q⟩ := h
  cases rx
  have hus := rv.zero
  subst hus
  obtain ⟨z, its, n, r, hl, e⟩ := I.lstM hH
  refine call_meets F.slot_list_clear ⟨_, e, rfl⟩ F.entry_list_clear (F.args_list_clear_1 _) (AutoSeq1.list_clear_list_0 l its.toArray n (by rw [List.size_toArray]; omega)) ⟨e, ?_⟩
  exact ⟨.non, _, I.lset (its' := []) (ys := []) hH e rfl .nil (Nat.zero_le _), rfl, q⟩

/-! ### list + list, list += list, list * int -/
def rCat : R2 := fun x y H Q => ∃ l b xs zs, x = .ref l ∧ y = .ref b ∧ H l = some (.lst xs) ∧ H b = some (.lst zs) ∧ xs.length + zs.length ≤ sizeLine ∧ ∀ p, H p = none → Q (.ref p) (upd H p (.lst (xs ++ zs)))
theorem op_cat : OpR X (binaryOp .Add) rCat := by
  intro pins s σ H x y v u Q I rx ry h
  obtain ⟨l, b, xs, zs, rfl, rfl, hH, hB, hz, q⟩ := h
  cases rx
  cases ry
  obtain ⟨z, its, n, r, hl, e⟩ := I.lstM hH
  obtain ⟨z2, its2, n2, r2, hl2, e2⟩ := I.lstM hB
  refine PySem.P.add_list e e2 ?_ (by rw [List.size_toArray, List.size_toArray]; omega)
  have ea : its.toArray ++ its2.toArray = (its ++ its2).toArray := by simp
  rw [ea]
  exact ⟨.ref _, _, I.lnew (t' := s.toks) (r.append r2) (by rw [List.length_append]; omega), rfl, q _ I.fresh⟩
/-- a list times an int (a negative one is nothing) -/
def rRep : R2 := fun x y H Q => ∃ l k xs, x = .ref l ∧ y = .int k ∧ H l = some (.lst xs) ∧ -(2 ^ 63) ≤ k ∧ k < 2 ^ 63 ∧ xs.length * k.toNat ≤ sizeLine ∧
  ∀ p, H p = none → Q (.ref p) (upd H p (.lst (List.replicate k.toNat xs).flatten))
theorem len_rep {α : Type} (xs : List α) (k : Nat) : (List.replicate k xs).flatten.length = k * xs.length := by
  induction k with
  | zero => simp
  | succ k ih => rw [List.replicate_succ, List.flatten_cons, List.length_append, ih, Nat.succ_mul, Nat.add_comm]
theorem op_rep : OpR X (binaryOp .Mult) rRep := by
  intro pins s σ H x y v u Q I rx ry h
  obtain ⟨l, k, xs, rfl, rfl, hH, h1, h2, hz, q⟩ := h
  cases rx
  obtain ⟨t, rfl⟩ := ry
  obtain ⟨z, its, n, r, hl, e⟩ := I.lstM hH
  have hlen : its.toArray.size * k.toNat ≤ sizeLine := by rw [List.size_toArray, ← hl]; exact hz
  have hcap : ¬ its.toArray.size * k.toNat > (2 ^ 63 - 1) / 8 := by
    have : (sizeLine : Nat) ≤ (2 ^ 63 - 1) / 8 := by decide
    omega
  have hfit : ¬ (!Builtin.List.listFitsIndex k) = true := by
    rw [fitsIndex_both h1 h2]
    exact Bool.false_ne_true
  have hlong : ¬ Builtin.List.listTooLong (its.toArray.size * k.toNat) = true := by
    rw [notLongL hlen]
    exact Bool.false_ne_true
  have hnew : List.foldl (fun x1 x2 => x1 ++ x2) #[] (List.replicate (if its.toArray.isEmpty = true then 0 else k.toNat) its.toArray) = (List.replicate k.toNat its).flatten.toArray := by
    have f0 : ∀ m : Nat, List.foldl (fun x1 x2 => x1 ++ x2) #[] (List.replicate m its.toArray) = (List.replicate m its).flatten.toArray := fun m => by
      have := foldl_rep its m []
      rw [List.nil_append] at this
      exact this
    rw [f0]
    cases its with
    | nil => simp
    | cons a r' => rw [if_neg (by simp)]
  refine wpAny_binaryOp_repeat_ref (T := "list") (U := "int") (by decide) ⟨_, e, rfl⟩ (fun s' => typeIs_int s' k t) noFill_list_mul F.fills_int_mul F.slot_int_rmul repeat_list F.slot_int_index.lookup
    (call_meets F.slot_int_rmul (typeIs_int s k t) F.entry_int_rmul (F.args_int_rmul_2 _ _) (int___rmul___int_list k t l its.toArray n)
      ⟨e, rfl, ⟨_, e, rfl⟩, call_meets F.slot_list_mul ⟨_, e, rfl⟩ F.entry_list_mul (F.args_list_mul_2 _ _) (AutoListH.list___mul___list_int_3 l its.toArray n k t hfit hcap hlong) ⟨e, ?_⟩⟩)
  rw [hnew]
  exact ⟨.ref _, _, I.lnew (t' := s.toks) (r.rep k.toNat) (by rw [len_rep, Nat.mul_comm]; exact hz), rfl, q _ I.fresh⟩

/-! ### del xs[i] -/
end

/-! ### xs[a:b] = ys -/
section
variable {prog : Program} {w : World} {A : Around} {E : Value → Shared → Prop} {s : Shared}
end

section
variable {X : Cx}
end
end L2

namespace Att
open PySem PySem.W PySem.Calls PyProof.Rows

/-! ### the script -/
theorem ints_of_wellAll {P : Params} {h : Heap} : ∀ (ns : List Int) (vs : List Value), WellAll P h vs (ns.map WData.int) → IntsAre vs ns := by
  intro ns
  induction ns with
  | nil =>
    intro vs w
    rw [List.map_nil] at w
    cases w
    exact .nil
  | cons n ns ih =>
    intro vs w
    rw [List.map_cons] at w
    cases w with
    | cons a b =>
      cases a
      exact .cons _ _ (ih _ b)

theorem script_of {l : OpenLaw} {n : Nat} (hn : l.most = some n) {P : Params} {h : Heap} {args : List WData} {vals : List Value}
    (hpre : l.row.toRowW.claim.pre args = true) (hwl : WellAll P h vals args) :
    ∃ a vs ns, vals = [Value.ref a] ∧ args = [WData.list (ns.map WData.int)] ∧ h.get? a = some { cls := .type "list", data := .seq vs.toArray } ∧ IntsAre vs ns ∧ ns.length ≤ n := by
  have hsh : WShape.hasAll [] args [.list .int] = true := (pre_splitW hpre).1
  have hc : l.pre.holds [] { args := args } = true := (pre_splitW hpre).2
  obtain ⟨d, r, rfl, h1, h2⟩ := hasAllW_cons hsh
  obtain rfl := hasAllW_nil h2
  obtain ⟨xs, rfl, h3⟩ := hasW_list h1
  obtain ⟨ns, rfl⟩ := items_int h3
  have hlen : ns.length ≤ n := by
    unfold OpenLaw.pre at hc
    have h4 : (WTm.not (.lt (.lit (.int (n : Int))) (.len (.arg 0)))).holds [] { args := [.list (ns.map .int)] } = true := by
      have h4 := (holds_andW hc).1
      rw [hn] at h4
      exact h4
    have h5 := condW_of h4 (w_not (w_lt w_lit (w_len_list (w_arg rfl))))
    rw [List.length_map] at h5
    refine Nat.le_of_not_lt fun q => ?_
    have q' : (n : Int) < ((ns.length : Nat) : Int) := by omega
    first
      | (rw [decide_eq_true q'] at h5; exact absurd h5 (by decide))
      | (simp at h5; omega)
  cases hwl with
  | cons w1 w2 =>
    cases w2
    cases w1 with
    | list ho hall => exact ⟨_, _, ns, rfl, rfl, ho, ints_of_wellAll ns _ hall, hlen⟩

theorem post_true (l : OpenLaw) (args : List WData) : l.row.toRowW.claim.post args (.bool true) args = true :=
  postW_of (r := l.row.toRowW) (X := (true == true))
    (show WShape.has [] (.bool true) .bool = true by first | rfl | decide | simp [WShape.has, WShape.arms, WShape.armsAll])
    (show (WTm.eq .res (.lit (.bool true))).value [] { args := args, res := some (.bool true), after := args } = some (.bool (true == true)) from w_eq_bool (w_res rfl) w_lit) rfl

/-! ### the attachment: holds_open's last premise (the goal 'hc' behind k_head) from a wpAny of the law's body -/
/-- the same from a codeAny of the CALL (for a layer whose function contracts speak of calls) -/
theorem attach_call {l : OpenLaw} {n : Nat} {q : Program} {loose : List Str} {XP : (Str → Option Value) → Heap → Prop} {YP : World → Heap → Prop} {d : DefRec}
    (hn : l.most = some n) (hdf : d.params.defaults = [])
    (call : ∀ (w : World) (s₀ s₁ : Shared) (mg mb : Str → Option Value) (fa : Addr) (o : Obj) (pm cd doc : Value) (a : Addr) (vs : List Value) (ns : List Int),
      Ground q loose [] XP w s₀ mg mb s₁.heap → YP w s₁.heap →
      s₁.heap.get? fa = some o → o.data = .func (docDef d.name d.params d.body d.scope pm cd doc) → s₁.heap.CodeRec cd d.name → mg d.name = some (.ref fa) →
      s₁.heap.get? a = some { cls := .type "list", data := .seq vs.toArray } → IntsAre vs ns → ns.length ≤ n → s₁.gens = #[] →
      codeAny (model l.prog w) callerA (.call (.ref fa) ⟨[.ref a], []⟩) (fun r s' => r = .ok (.ret (.bool true)) ∧ OldK s₁.heap s'.heap ∧ s'.os = s₁.os ∧ AllBare s'.gens) s₁) :
    WalkO q loose XP YP l.row.toRowW d [] (fun f vs => PySem.call f vs) := by
  intro w s₀ s₁ mg mb G Y fa o pm cd doc dV kV ho hd hcd hD hmg hg args vals as hpre hlay hrd hwl hlo
  obtain rfl : dV = .none := Dflts.none hD hdf
  obtain rfl : kV = .none := Dflts.noKw hD
  obtain ⟨a, vs, ns, rfl, rfl, hobj, hints, hlen⟩ := script_of hn hpre hwl
  refine enter_call (codeAny_mono (call w s₀ s₁ mg mb fa o pm cd doc a vs ns G Y ho (fd_plain hd) hcd hmg hobj hints hlen hg) fun r s' hq => ?_)
  obtain ⟨rfl, h2, h3, h4⟩ := hq
  exact ⟨.inl ⟨.bool true, .bool true, [], rfl, fun _ => rfl, .bool true, post_true l _, fun _ => ⟨List.Pairwise.nil, fun _ hm => (nomatch hm)⟩⟩, h2, h3, h4⟩

/-! ### rules over ANY heap (no ledger) from facts about the written part K: the library's own take a ledger (News) for what they write -/
section
variable {prog : Program} {w : World} {A : Around} {E : Value → Shared → Prop} {s : Shared} {K : Frag}

/-! the whole heap as the ledger: makes every rule that writes through a ledger a rule over any heap -/
def noObjs (h : Heap) : Heap := { h with objs := #[] }
theorem noObjs_get (h : Heap) (b : Addr) : (noObjs h).get? b = none := by
  cases e : (noObjs h).get? b with
  | none => rfl
  | some o => exact absurd (Heap.lt_size e) (Nat.not_lt_zero _)
def ledger (h : Heap) (L d : Addr) : List (Addr × Obj) := (List.range h.objs.size).filterMap fun a => if a = L ∨ a = d then none else (h.get? a).map fun o => (a, o)
theorem mem_ledger {h : Heap} {L d a : Addr} {o : Obj} : (a, o) ∈ ledger h L d ↔ a ≠ L ∧ a ≠ d ∧ h.get? a = some o := by
  unfold ledger
  rw [List.mem_filterMap]
  constructor
  · rintro ⟨b, _, e⟩
    split at e
    · cases e
    · rename_i hb
      obtain ⟨o', ho, e'⟩ := Option.map_eq_some_iff.mp e
      cases e'
      exact ⟨fun q => hb (.inl q), fun q => hb (.inr q), ho⟩
  · rintro ⟨n1, n2, ho⟩
    refine ⟨a, List.mem_range.mpr (Heap.lt_size ho), ?_⟩
    rw [if_neg (show ¬ (a = L ∨ a = d) from fun q => q.elim n1 n2), ho] <;> rfl
theorem fr_all {h : Heap} {L : Addr} {m : Str → Option Value} (n : h.Ns L m) : Fr (noObjs h) L h m :=
  ⟨n, fun b o e => (by rw [noObjs_get] at e; cases e), Nat.zero_le _⟩
end
end Att

namespace L2
open PySem PySem.Spec PyProof.Rows

theorem vals_ints : ∀ {vs : List Value} {ns : List Int}, IntsAre vs ns → Vals (ns.map V.int) vs
  | _, _, .nil => .nil
  | _, _, .cons n t h => .cons ⟨t, rfl⟩ (vals_ints h)

/-- nothing is tracked but the script, known to the object (or it is an object of the module) -/
def Only (H : Hp) : Prop := ∀ b, H b = none ∨ ∃ o xs, H b = some (.frz o (.lst xs))

end L2

namespace L2
open PySem PySem.Spec PyProof.Rows

abbrev KOf {K : PySem.W.Frag} {h : Heap} (_ : K.In h) : PySem.W.Frag := K

end L2



/-! SHORT WORDS over the layer: a def of the text, its body, what a loop and a test want. -/
namespace L2
open PySem PySem.Spec PyProof.Rows

/-! ### the text by places -/
/-- the j-th statement of a class's body -/
def inClass (s : Stmt) (j : Nat) : Stmt := match s with
  | .ClassDef _ _ _ body _ _ _ _ _ _ _ => body.getD j (.Pass ⟨0, 0, 0, 0⟩)
  | _ => .Pass ⟨0, 0, 0, 0⟩
def defArgs (s : Stmt) : Arguments := match s with
  | .FunctionDef _ a _ _ _ _ _ _ _ _ => a
  | _ => { posonlyargs := [], args := [], vararg := none, kwonlyargs := [], kw_defaults := [], kwarg := none, defaults := [] }
def defBody (s : Stmt) : List Stmt := match s with
  | .FunctionDef _ _ b _ _ _ _ _ _ _ => b
  | _ => []
def defScope (s : Stmt) : Scope := match s with
  | .FunctionDef _ _ _ _ _ _ sc _ _ _ => sc
  | _ => { kind := .function, names := [], isGenerator := false, isCoroutine := false }

/-! ### no exception leaves a def -/
abbrev CX0 : CXT := fun _ _ _ _ _ _ => False
abbrev E0 : XK := fun _ _ _ => False
theorem pass0 {X : Cx} : Passes CX0 X E0 := fun _ _ _ _ _ _ _ h => h.elim

/-! ### a def (or method) of the text as it stands behind the top -/
structure Fun (K : PySem.W.Frag) (x qual : Str) (st : Stmt) (f : Addr) (fd : FuncData) : Prop where
  ex : ∃ (oc : Value) (od : Option Addr) (kV doc pm : Value) (an : Option Addr) (cdv ct : Value) (osl : Array (Option Value)),
    fd = PySem.W.fnOf x qual (defArgs st) (defBody st) (defScope st) .none kV doc pm an cdv ct ∧ K.lookup f = some ⟨oc, od, .func fd, osl⟩ ∧ PySem.W.codeIn K cdv qual = true
  kp : PySem.W.keepIn K (.ref f) = true
section
variable {P : Program} {w : World} {K : PySem.W.Frag} {mg : Str → Option Value} {base : Heap}
/-- THE RULE for a def: its body as a term of rules, and the reading of that term -/
theorem Fun.ok {x qual : Str} {st : Stmt} {f : Addr} {fd : FuncData} {N ps : List Str} {k : Nat} {sp : Sp} (F : Fun K x qual st f fd) (S : FnScope N ps (defScope st)) (len : ∀ vs H Q E, sp vs H Q E → vs.length = ps.length)
    (hbody : ∀ (cdv : Value) (A : Around) (outer : List Env) (s : Shared) (H : Hp) (vs : List V) (Q : VK) (E : XK), Room k (A.deeper (envOfC qual (defScope st) s.heap.objs.size f cdv)) → sp vs H Q E →
      ∃ t, PSs (cxOf CX0 P w K mg base N qual (defScope st) f cdv A outer s H E).nox (defBody st) t ∧ t { nx := fun _ H' => Q .non H', rt := Q } (start N vs) H) : FnOk P w K mg base CX0 (k + 1) f fd ps sp := by
  obtain ⟨oc, od, kV, doc, pm, an, cdv, ct, osl, rfl, lk, hcd⟩ := F.ex
  refine fn_of lk hcd S len fun A outer s H vs Q E hr hsp => ?_
  obtain ⟨t, h, q⟩ := hbody cdv A outer s H vs Q E hr hsp
  exact ⟨t, h.nox, q⟩
/-- how its arguments bind (no defaults): h is «fun _ _ _ _ _ _ us hl => match us, hl with | [_, _], _ => rfl», one _ a parameter -/
theorem Fun.binds {x qual : Str} {st : Stmt} {f : Addr} {fd : FuncData} {ps : List Str} (F : Fun K x qual st f fd)
    (h : ∀ (kV doc pm : Value) (an : Option Addr) (cdv ct : Value) (us : List Value), us.length = ps.length → bindArgs (PySem.W.fnOf x qual (defArgs st) (defBody st) (defScope st) .none kV doc pm an cdv ct) ⟨us, []⟩ = pure (ps.zip us)) : Binds K fd ps [] := by
  obtain ⟨oc, od, kV, doc, pm, an, cdv, ct, osl, rfl, lk, hcd⟩ := F.ex
  exact .all (h kV doc pm an cdv ct)
theorem fun_mk {x qual : Str} {st : Stmt} {f : Addr} {oc : Value} {od an : Option Addr} {osl : Array (Option Value)} {kV doc pm cdv ct : Value} (l : K.lookup f = some ⟨oc, od, .func (PySem.W.fnOf x qual (defArgs st) (defBody st) (defScope st) .none kV doc pm an cdv ct), osl⟩)
    (c : PySem.W.codeIn K cdv qual = true) (k : PySem.W.keepIn K (.ref f) = true) : Fun K x qual st f (PySem.W.fnOf x qual (defArgs st) (defBody st) (defScope st) .none kV doc pm an cdv ct) := ⟨⟨oc, od, kV, doc, pm, an, cdv, ct, osl, rfl, l, c⟩, k⟩
end
theorem small1000 {n : Nat} (h : n ≤ 1000) : n < sizeLine := Nat.lt_of_le_of_lt h (by decide)

/-! ### expressions in short: the name that stands in the i-th slot -/
section
variable {X : Cx}
theorem pv (i : Nat) {x : Str} {pos : Pos} (hN : X.N[i]? = some x := by rfl) (hv : Vis X.env.scope x := by first | exact Or.inl rfl | exact Or.inr (Or.inl rfl) | exact Or.inr (Or.inr rfl)) (hd : (x == ("__debug__" : Str)) = false := by decide)
    (hcd : (x == ("__classdict__" : Str)) = false := by decide) : PE X (.Name x pos) (tVar i) := pe_var hN hv hd hcd
end

/-! ### tests -/
theorem iteF {A B : Prop} (h : B) : if false = true then A else B := by
  rw [if_neg Bool.false_ne_true]
  exact h
theorem iteT {A B : Prop} (h : A) : if true = true then A else B := by
  rw [if_pos rfl]
  exact h
/-! ### heaps -/
/-- all that was tracked is as it was -/
def Same (H H' : Hp) : Prop := ∀ b o, H b = some o → H' b = some o
theorem Same.refl (H : Hp) : Same H H := fun _ _ h => h
theorem Same.trans {H H1 H2 : Hp} (a : Same H H1) (b : Same H1 H2) : Same H H2 := fun c o h => b c o (a c o h)
theorem Same.free {H H' : Hp} (e : Same H H') {l : Addr} (h : H' l = Option.none) : H l = Option.none := by
  cases q : H l with
  | none => rfl
  | some o =>
    rw [e l o q] at h
    cases h
theorem Same.seq {K : PySem.W.Frag} {H H' : Hp} {a : Addr} {xs : List V} (e : Same H H') (h : SqL K H a xs) : SqL K H' a xs := by
  rcases h with (h | ⟨o, h⟩) | h
  · exact .inl (.inl (e _ _ h))
  · exact .inl (.inr ⟨o, e _ _ h⟩)
  · exact .inr h

end L2

set_option Elab.async false
set_option linter.all false
set_option maxRecDepth 100000
namespace L2
open PySem PySem.Spec PyProof.Rows

/-! ## comprehensions: the closure -/
/-- the cells that a block takes along -/
def closL (cells : List (Str × Addr)) : List (Str × NameKind) → List (Str × Addr) → List (Str × Addr)
  | [], cs => cs
  | (n, k) :: r, cs => closL cells r (if k = .free then (n, (cells.lookup n).getD 0) :: cs else cs)

theorem clos_for (env : Env) : ∀ (l : List (Str × NameKind)) (cs : List (Str × Addr)), (∀ y ∈ l, y.2 = .free → ∃ c, env.cells.lookup y.1 = some c) →
    (forIn l cs fun (x : Str × NameKind) (r : List (Str × Addr)) => (if (x.2 == NameKind.free) = true then do
        let c ← cellOf env x.1
        pure (ForInStep.yield ((x.1, c) :: r)) else pure (ForInStep.yield r) : Sem (ForInStep (List (Str × Addr))))) = (pure (closL env.cells l cs) : Sem (List (Str × Addr)))
  | [], cs, _ => rfl
  | (n, k) :: r, cs, h => by
    rw [List.forIn_cons]
    by_cases hk : k = .free
    · obtain ⟨c, hc⟩ := h (n, k) List.mem_cons_self hk
      have e1 : cellOf env n = pure c := by unfold cellOf; rw [show env.cells.lookup n = some c from hc]
      subst hk
      simp only [beq_self_eq_true, if_true, e1, pure_bind]
      rw [clos_for env r _ fun y hy => h y (List.mem_cons_of_mem _ hy)]
      show _ = pure (closL env.cells r (if NameKind.free = .free then (n, (env.cells.lookup n).getD 0) :: cs else cs))
      rw [if_pos rfl, show env.cells.lookup n = some c from hc]
      rfl
    · have hb : (k == NameKind.free) = false := by simpa using hk
      simp only [hb, Bool.false_eq_true, if_false, pure_bind]
      rw [clos_for env r _ fun y hy => h y (List.mem_cons_of_mem _ hy)]
      show _ = pure (closL env.cells r (if k = .free then (n, (env.cells.lookup n).getD 0) :: cs else cs))
      rw [if_neg hk]

theorem closureFor_all {sc : Scope} {env : Env} (h : ∀ y ∈ sc.names, y.2 = .free → ∃ c, env.cells.lookup y.1 = some c) : closureFor sc env = pure (closL env.cells sc.names []) := by
  have e := clos_for env sc.names [] h
  simp only [closureFor]
  rw [e, pure_bind]

/-- what the closure holds is the enclosing def's -/
theorem closL_sound {cells : List (Str × Addr)} : ∀ {l : List (Str × NameKind)} {cs : List (Str × Addr)}, (∀ y ∈ l, y.2 = .free → ∃ c, cells.lookup y.1 = some c) → (∀ x c, cs.lookup x = some c → cells.lookup x = some c) →
    ∀ x c, (closL cells l cs).lookup x = some c → cells.lookup x = some c
  | [], cs, _, hc, x, c, e => hc x c e
  | (n, k) :: r, cs, h, hc, x, c, e => by
    refine closL_sound (l := r) (cs := if k = .free then (n, (cells.lookup n).getD 0) :: cs else cs) (fun y hy => h y (List.mem_cons_of_mem _ hy)) ?_ x c e
    intro z d q
    by_cases hk : k = .free
    · rw [if_pos hk, List.lookup_cons] at q
      cases hz : z == n with
      | true =>
        rw [hz] at q
        have ez : z = n := by simpa using hz
        obtain ⟨c', e'⟩ := h (n, k) List.mem_cons_self hk
        have e2 : cells.lookup n = some c' := e'
        rw [e2] at q
        rw [ez, e2]
        exact q
      | false => rw [hz] at q; exact hc z d q
    · rw [if_neg hk] at q; exact hc z d q
theorem closL_keep {cells : List (Str × Addr)} {x : Str} : ∀ {l : List (Str × NameKind)} {cs : List (Str × Addr)}, (∃ c, cs.lookup x = some c) → ∃ c, (closL cells l cs).lookup x = some c
  | [], _, h => h
  | (n, k) :: r, cs, h => by
    refine closL_keep (l := r) (cs := if k = .free then (n, (cells.lookup n).getD 0) :: cs else cs) ?_
    obtain ⟨c, e⟩ := h
    by_cases hk : k = .free
    · rw [if_pos hk, List.lookup_cons]
      cases x == n with
      | true => exact ⟨_, rfl⟩
      | false => exact ⟨c, e⟩
    · rw [if_neg hk]; exact ⟨c, e⟩
theorem closL_full {cells : List (Str × Addr)} {x : Str} : ∀ {l : List (Str × NameKind)} {cs : List (Str × Addr)}, (x, NameKind.free) ∈ l → ∃ c, (closL cells l cs).lookup x = some c
  | (n, k) :: r, cs, h => by
    show ∃ c, (closL cells r (if k = .free then (n, (cells.lookup n).getD 0) :: cs else cs)).lookup x = some c
    rcases List.mem_cons.mp h with e | h
    · cases e
      refine closL_keep ?_
      rw [if_pos rfl, List.lookup_cons, beq_self_eq_true]
      exact ⟨_, rfl⟩
    · exact closL_full h

/-! ## the names of a block -/
theorem lookup_mapK {g : Str → NameKind → NameKind} {x : Str} : ∀ l : List (Str × NameKind), (l.map fun p => (p.1, g p.1 p.2)).lookup x = (l.lookup x).map (g x)
  | [] => rfl
  | (n, k) :: r => by
    rw [List.map_cons, List.lookup_cons, List.lookup_cons]
    cases hx : x == n with
    | true =>
      have e : x = n := by simpa using hx
      rw [e]; rfl
    | false => exact lookup_mapK r
def relK (env : Env) (n : Str) (k : NameKind) : NameKind := if (k == .free && env.scope.kind == .function && env.kindOf n == some .cell) = true then .cell else k
theorem relabel_names (sc : Scope) (env : Env) : (relabel sc env).names = sc.names.map fun p => (p.1, relK env p.1 p.2) := by
  unfold relabel relK
  refine List.map_congr_left fun p _ => ?_
  obtain ⟨n, k⟩ := p
  dsimp only
  split <;> rfl
theorem relabel_lookup (sc : Scope) (env : Env) (x : Str) : (relabel sc env).names.lookup x = (sc.names.lookup x).map (relK env x) := by
  rw [relabel_names]; exact lookup_mapK _
theorem relK_free {env : Env} {n : Str} : relK env n .free = .cell ∨ relK env n .free = .free := by
  unfold relK; split
  · exact .inl rfl
  · exact .inr rfl
theorem relK_ne {env : Env} {n : Str} {k : NameKind} (h : k ≠ .free) : relK env n k = k := by
  unfold relK
  have e : (k == NameKind.free) = false := by simpa using h
  rw [e]; rfl

/-- a block's names are in order: S the enclosing def's scope, N its names, M the block's -/
def lcOk (S sc : Scope) (N M : List Str) : Bool :=
  sc.kind == .function && (sc.names.all fun y => y.2 != .cell) && (sc.names.all fun y => y.2 != .local || sc.names.lookup y.1 == some .local) &&
  (sc.names.all fun y => y.2 != .free || S.names.lookup y.1 == some .cell || S.names.lookup y.1 == some .free) &&
  (sc.names.all fun y => y.2 != .free || sc.names.lookup y.1 == some .free) &&
  decide (N.length ≤ M.length) && decide M.Nodup &&
  ((List.range M.length).all fun i => match M[i]? with
    | none => true
    | some x => match sc.names.lookup x with
      | some .free => N[i]? == some x
      | some .local => decide (N.length ≤ i)
      | _ => true)
structure LcOk (S sc : Scope) (N M : List Str) : Prop where
  kind : sc.kind = .function
  ncell : ∀ y ∈ sc.names, y.2 ≠ .cell
  loc : ∀ y ∈ sc.names, y.2 = .local → sc.names.lookup y.1 = some .local
  fr : ∀ y ∈ sc.names, y.2 = .free → S.names.lookup y.1 = some .cell ∨ S.names.lookup y.1 = some .free
  frl : ∀ y ∈ sc.names, y.2 = .free → sc.names.lookup y.1 = some .free
  le : N.length ≤ M.length
  nd : M.Nodup
  old : ∀ (i : Nat) x, M[i]? = some x → sc.names.lookup x = some .free → N[i]? = some x
  new : ∀ (i : Nat) x, M[i]? = some x → sc.names.lookup x = some .local → N.length ≤ i
theorem lcOk_of {S sc : Scope} {N M : List Str} (h : lcOk S sc N M = true) : LcOk S sc N M := by
  unfold lcOk at h
  simp only [Bool.and_eq_true, List.all_eq_true, decide_eq_true_eq] at h
  obtain ⟨⟨⟨⟨⟨⟨⟨h1, h2⟩, h3⟩, h4⟩, h4'⟩, h5⟩, h6⟩, h7⟩ := h
  have at7 : ∀ (i : Nat) x, M[i]? = some x → (match sc.names.lookup x with | some .free => N[i]? == some x | some .local => decide (N.length ≤ i) | _ => true) = true := fun i x e => by
    have := h7 i (List.mem_range.mpr (List.getElem?_eq_some_iff.mp e).1)
    rw [e] at this
    exact this
  refine ⟨by simpa using h1, fun y hy => by simpa using h2 y hy, fun y hy e => ?_, fun y hy e => ?_, fun y hy e => ?_, h5, h6, fun i x e k => ?_, fun i x e k => ?_⟩
  · have := h3 y hy; rw [e] at this; simpa using this
  · have := h4 y hy; rw [e] at this; simpa using this
  · have := h4' y hy; rw [e] at this; simpa using this
  · have := at7 i x e; rw [k] at this; simpa using this
  · have := at7 i x e; rw [k] at this; simpa using this

/-! ## the block's context -/
def cxLc (X : Cx) (sc : Scope) (C : Addr) (s : Shared) (H : Hp) (fp : List Addr) (M : List Str) : Cx :=
  { X with N := M, s₀ := s, H₀ := H, env := compEnvC sc (closL X.env.cells sc.names []) C X.env, outer := X.stack, ex := fp, fn := fun _ => false, pn := [], xe := fun _ _ => False }
end L2

set_option Elab.async false
set_option linter.all false
set_option maxRecDepth 100000
namespace L2
open PySem PySem.Spec PyProof.Rows
section
variable {X : Cx} {tg : Expr}

/-- the block's state at its entry -/
theorem lc_inv {pins : List (Addr × Obj)} {σ : St} {H : Hp} {s : Shared} {sc : Scope} {C : Addr} {fp : List Addr} {M : List Str} {h4 : Heap} {t4 : Nat} {m : Str → Option Value}
    (L : LcOk X.env.scope sc X.N M) (I : Inv X pins σ H s) (hf : ∀ b ∈ fp, FpOk X pins H b) (hfo : ∀ b ∈ fp, ∃ o, s.heap.get? b = some o)
    (hC : s.heap.objs.size ≤ C) (hk : ∀ b o, s.heap.get? b = some o → h4.get? b = some o) (hn : h4.Ns C m) :
    Inv (cxLc X sc C s H fp M) [] (σ ++ List.replicate (M.length - X.N.length) none) H { s with heap := h4, toks := t4 } := by
  have hcl : ∀ y ∈ sc.names, y.2 = .free → ∃ c, X.env.cells.lookup y.1 = some c := fun y hy e => I.ok.has y.1 (by
    rcases L.fr y hy e with z | z
    · exact .inl z
    · exact .inr z)
  have snd : ∀ x c, (closL X.env.cells sc.names []).lookup x = some c → X.env.cells.lookup x = some c := closL_sound hcl fun _ _ q => by cases q
  have kinds : ∀ x, ((relabel sc X.env).names.lookup x = some .cell ∨ (relabel sc X.env).names.lookup x = some .free) → sc.names.lookup x = some .free := fun x hx => by
    rw [relabel_lookup] at hx
    cases e : sc.names.lookup x with
    | none => rw [e] at hx; rcases hx with z | z <;> cases z
    | some k =>
      by_cases hk : k = .free
      · rw [hk]
      · rw [e] at hx
        have z0 : (some k).map (relK X.env x) = some k := by show some (relK X.env x k) = some k; rw [relK_ne hk]
        rw [z0] at hx
        rcases hx with z | z
        · cases z; exact absurd rfl (L.ncell _ (PySem.mem_of_lookup e))
        · cases z; exact absurd rfl hk
  have ok : (cxLc X sc C s H fp M).Ok := by
    refine ⟨I.ok.mod, ?_, I.ok.glob, I.ok.blt, hC, fun x y c h1 h2 => I.ok.inj x y c (snd x c h1) (snd y c h2), fun x hx => ?_, fun x c h1 _ => ?_, I.ok.hd, I.ok.frames, .inl rfl, fun b hb => ⟨?_, fun x c e => (hf b hb).2.2.2.2.1 x c (snd x c e)⟩,
      I.bs, Nat.le_trans I.ok.bsz I.sz, fun b o e hb => ?_, fun b hb z => ?_, I.stack, I.stkFree⟩
    · show (relabel sc X.env).kind = _
      unfold relabel; exact L.kind
    · exact closL_full (PySem.mem_of_lookup (kinds x hx))
    · cases h1
    · obtain ⟨o, e⟩ := hfo b hb
      exact Nat.ne_of_lt (Nat.lt_of_lt_of_le (Heap.lt_size e) hC)
    · rcases (hf b hb).2.2.2.1 with z | z
      · exact I.ok.noex b o e z
      · exact absurd (Heap.lt_size e) (Nat.not_lt.mpr (Nat.le_trans I.ok.bsz z))
    · rcases List.mem_cons.mp (I.stkSub b z) with q | q
      · exact (hf b hb).2.1 q
      · exact (hf b hb).2.2.1 q
  refine ⟨ok, rfl, I.bare, Un.kept hk, ⟨m, hn, fun i x v e1 e2 e3 => ?_⟩, fun x c e => ?_, I.hok.fresh hC, fun x c e => I.freeC x c (snd x c e), fun p hp => absurd (show p ∈ ([] : List (Addr × Obj)) from hp) (by simp), I.hok.kept hk, ?_⟩
  · have e1' : M[i]? = some x := e1
    have e3' : Vis (relabel sc X.env) x := e3
    have hi : i < σ.length := by
      by_cases hi : i < σ.length
      · exact hi
      · rw [List.getElem?_append_right (by omega), List.getElem?_replicate] at e2
        split at e2 <;> cases e2
    rw [List.getElem?_append_left hi] at e2
    rcases e3' with z | z
    · have z' : sc.names.lookup x = some .local := by
        rw [relabel_lookup] at z
        cases e : sc.names.lookup x with
        | none => rw [e] at z; cases z
        | some k =>
          rw [e] at z
          have z2 : relK X.env x k = .local := Option.some.inj z
          by_cases hk : k = .free
          · rw [hk] at z2
            rcases relK_free (env := X.env) (n := x) with q | q <;> (rw [q] at z2; cases z2)
          · rw [relK_ne hk] at z2; rw [z2]
      have := L.new i x e1' z'
      rw [I.len] at hi
      omega
    · have fr := kinds x z
      have mem := PySem.mem_of_lookup fr
      have hX := L.old i x e1' fr
      obtain ⟨mX, hnX, hl⟩ := I.loc
      have vis : Vis X.env.scope x := .inr (L.fr _ mem rfl)
      obtain ⟨u, r, l⟩ := hl i x v hX e2 vis
      refine ⟨u, r, .inr ⟨z, ?_⟩⟩
      obtain ⟨c', ec'⟩ := closL_full (cells := X.env.cells) (cs := []) mem
      rcases l with ⟨k, _⟩ | ⟨k, c, ec, cell⟩
      · have k' : X.env.scope.names.lookup x = some .local := k
        rcases L.fr _ mem rfl with q | q
        · have q' : X.env.scope.names.lookup x = some .cell := q
          rw [k'] at q'; cases q'
        · have q' : X.env.scope.names.lookup x = some .free := q
          rw [k'] at q'; cases q'
      · have e := snd x c' ec'
        rw [ec] at e; cases e
        exact ⟨_, ec', cell.keeps hk⟩
  · obtain ⟨v, q⟩ := I.cell x c (snd x c e)
    exact ⟨v, q.keeps hk⟩
  · show _ = M.length
    have := L.le
    rw [List.length_append, List.length_replicate, I.len]
    omega

/-- the tests of a block -/
def PIfs (X : Cx) (ifs : List Expr) (t : TT) : Prop :=
  ∀ (pins : List (Addr × Obj)) (s : Shared) (σ : St) (H : Hp) (Q : Bool → Hp → Prop), Inv X pins σ H s → t σ H Q →
    wpAny (model X.prog X.w) X.A (forIn ifs true fun c r => if r = true then do let ok ← isTrue c X.env (eval c X.env); pure (ForInStep.yield ok) else pure (ForInStep.yield r)) (TP X pins σ Q) X.xe s
def tTT : TT := fun _ H Q => Q true H
theorem pifs_nil : PIfs X [] tTT := fun _ _ _ H _ I h => wpAny_tests_nil ⟨H, I, h⟩
theorem pifs_one {c : Expr} {t : TT} (h : PT X c t) : PIfs X [c] t := fun pins s σ H Q I hw => wpAny_tests_one (h pins s σ H Q I hw)
end

section
variable {prog : Program} {w : World} {A : Around} {R : Result → Shared → Prop} {s : Shared}
/-- the loop of a block, its target any -/
theorem compLoop_own {elt target iter : Expr} {ifs : List Expr} {scope : Scope} {pos : Pos} {it acc : Value} {env : Env} (I : Nat → Shared → Prop)
    (turn : ∀ n s, I n s → wpAny (model prog w) A (pyNext it) (fun r s₁ => match r with
      | none => R (.ok .next) s₁
      | some v => wpAny (model prog w) A (letOwnedTupleGo target it v) (fun _ s₀ => wpAny (model prog w) A (assign target env v) (fun _ s₂ =>
          wpAny (model prog w) A (forIn ifs true fun c r => if r = true then do let ok ← isTrue c env (eval c env); pure (ForInStep.yield ok) else pure (ForInStep.yield r)) (fun ok s₃ =>
            if ok = true then wpAny (model prog w) A (eval elt env) (fun x s₄ =>
              wpAny (model prog w) A (call (.builtin "list.append") [acc, x]) (fun _ s₅ => ∃ m, m < n ∧ I m s₅) (fun _ _ => False) s₄) (fun _ _ => False) s₃
            else ∃ m, m < n ∧ I m s₃) (fun _ _ => False) s₂) (fun _ _ => False) s₀) (fun _ _ => False) s₁) (fun _ _ => False) s)
    (n : Nat) (h : I n s) :
    codeAny (model prog w) A (.compLoop (.ListComp elt [⟨target, iter, ifs, 0⟩] scope pos) 0 it acc env) R s := by
  refine codeAny_loop rfl I (fun n s hI => ?_) n h
  show wpAny _ A ((compTurn (.ListComp elt [⟨target, iter, ifs, 0⟩] scope pos) 0 it acc env).onRaise (fun x => do noteFrame x env; theTreesLotGoes x)) _ _ s
  refine wpAny_noted ?_
  rw [compTurn_list]
  refine wpAny_bind (wpAny_standAt (wpAny_bind (wpAny_mono (turn n s hI) (fun r s₁ h₁ => ?_) fun _ _ h' => h'.elim)))
  cases r with
  | none => exact wpAny_pure h₁
  | some v =>
    refine wpAny_bind (wpAny_mono h₁ (fun _ s₀ h₀ => ?_) fun _ _ h' => h'.elim)
    refine wpAny_bind (wpAny_mono h₀ (fun _ s₂ h₂ => wpAny_bind (wpAny_mono h₂ (fun ok s₃ h₃ => ?_) fun _ _ h' => h'.elim)) fun _ _ h' => h'.elim)
    cases ok with
    | false => exact wpAny_pure ⟨rfl, h₃⟩
    | true =>
      exact wpAny_bind (wpAny_bind (wpAny_mono h₃ (fun x s₄ h₄ => wpAny_bind (wpAny_mono h₄ (fun _ s₅ h₅ => wpAny_pure (wpAny_pure ⟨rfl, h₅⟩)) fun _ _ h' => h'.elim)) fun _ _ h' => h'.elim))
end

section
variable {X : Cx} {tg : Expr}
/-- W: the turn, a measure, what has been gathered, the block's names, the heap -/
def tLcB (J : It) (g : TG) (tc : TT) (te : TE) (k : Nat) (σ : St) (H1 : Hp) (Q : VK) : Prop :=
  ∃ W : Nat → Nat → List V → St → Hp → Prop, (∃ m, W 0 m [] (σ ++ List.replicate k none) H1) ∧ ∀ i m ys σ' H', W i m ys σ' H' →
    (J.stop i H' ∧ ∀ D, H' D = none → Q (.ref D) (upd H' D (.lst ys))) ∨
    (J.go i H' ∧ ys.length < sizeLine ∧ ∀ x H2, J.yld i H' x H2 → g x σ' H2 fun σ2 H3 => tc σ2 H3 fun b H4 =>
      if b = true then te σ2 H4 fun y H5 => ∃ m', m' < m ∧ W (i + 1) m' (ys ++ [y]) σ2 H5 else ∃ m', m' < m ∧ W (i + 1) m' ys σ2 H4)
def tLc (wi : TI) (g : TG) (tc : TT) (te : TE) (k : Nat) : TE := fun σ H Q => wi σ H fun J H1 => tLcB J g tc te k σ H1 Q

theorem lc_block {pins : List (Addr × Obj)} {σ : St} {H : Hp} {s : Shared} {elt iter : Expr} {ifs : List Expr} {sc : Scope} {pos : Pos} {it : Addr} {fp : List Addr} {tn : Nat → Heap → Prop} {J : It} {g : TG} {tc : TT} {te : TE} {M : List Str} {Q : VK}
    {RR : Value → Addr → Result → Shared → Prop} {E : Value → Shared → Prop}
    (L : LcOk X.env.scope sc X.N M) (hcalm : X.calm = true) (I : Inv X pins σ H s) (T : Turn X.prog X.w X.K tg J fp it tn) (st : tn 0 s.heap) (hf : ∀ b ∈ fp, FpOk X pins H b)
    (hg : ∀ C s H fp, PG (cxLc X sc C s H fp M) tg g) (hc : ∀ C s H fp, PIfs (cxLc X sc C s H fp M) ifs tc) (he : ∀ C s H fp, PE (cxLc X sc C s H fp M) elt te)
    (hw : tLcB J g tc te (M.length - X.N.length) σ H Q)
    (hRR : ∀ D C s' m H', s.heap.objs.size ≤ C → Inv X pins σ H' s' → H' C = none → s'.heap.Ns C m → Q (.ref D) H' → RR (.ref D) C (.ok .next) s') :
    wpAny (model X.prog X.w) X.A (newList []) (fun acc s3 => wpAny (model X.prog X.w) X.A (newFunctionEnv sc X.env.globals (closL X.env.cells sc.names []) [] X.env.qual none .none (some X.env)) (fun cenv s4 =>
      codeAny (model X.prog X.w) X.A (.compStart (.ListComp elt [⟨tg, iter, ifs, 0⟩] sc pos) 0 (.ref it) acc { cenv with scope := relabel sc X.env }) (RR acc cenv.locals) s4) E s3) E s := by
  refine wpAny_newObj_type (wpAny_newFunctionEnv L.ncell (by intro y hy; simp at hy) (fun h₁ hns hsb => ?_) L.kind)
  dsimp only at hns hsb ⊢
  generalize hH2 : s.heap.push { cls := .type "list", dict := none, data := .seq ([] : List Value).toArray } = G2 at hns hsb ⊢
  have hC : G2.objs.size = s.heap.objs.size + 1 := by rw [← hH2, Heap.size_push]
  have hfo : ∀ b ∈ fp, ∃ o, s.heap.get? b = some o := fun b hb => let ⟨o, e, _⟩ := T.obj 0 _ st b hb; ⟨o, e⟩
  have old : ∀ b o, s.heap.get? b = some o → h₁.get? b = some o := fun b o e =>
    hsb.extBut b o (Nat.ne_of_lt (Nat.lt_of_lt_of_le (Heap.lt_size e) (by omega))) (Heap.get?_push_of_some _ (hH2 ▸ Heap.get?_push_of_some _ e))
  have hacc : h₁.PlainList s.heap.objs.size ([] : List Value).toArray := ⟨_, hsb.extBut _ _ (Nat.ne_of_lt (by omega)) (Heap.get?_push_of_some _ (hH2 ▸ Heap.get?_push_size _ rfl))⟩
  have hCle : s.heap.objs.size ≤ G2.objs.size := by omega
  generalize hCC : G2.objs.size = C at hns hsb hC hCle ⊢
  generalize hDD : s.heap.objs.size = D at hacc hC hCle ⊢
  have I0 : Inv (cxLc X sc C s H fp M) [] (σ ++ List.replicate (M.length - X.N.length) none) H { s with heap := h₁, toks := s.toks + ([] : List (Str × Value)).length } := lc_inv L I hf hfo (by omega) old hns
  have hDC : D ≠ C := by omega
  have hDfs : D ∉ frs X.stack := fun hb => by
    obtain ⟨_, o, e, _⟩ := I.stack.mem hb
    have z : D < s.heap.objs.size := Heap.lt_size e
    rw [hDD] at z
    exact absurd z (Nat.lt_irrefl _)
  have hDfp : ∀ b ∈ fp, b ≠ D := fun b hb => by
    obtain ⟨o, e⟩ := hfo b hb
    have z : b < s.heap.objs.size := Heap.lt_size e
    rw [hDD] at z
    exact Nat.ne_of_lt z
  have hcells : ∀ x c, (cxLc X sc C s H fp M).env.cells.lookup x = some c → c ≠ D := fun x c e => by
    have hcl : ∀ y ∈ sc.names, y.2 = .free → ∃ c, X.env.cells.lookup y.1 = some c := fun y hy e => I.ok.has y.1 (by
      rcases L.fr y hy e with z | z
      · exact .inl z
      · exact .inr z)
    obtain ⟨v, q⟩ := I.cell x c (closL_sound hcl (fun _ _ q => by cases q) x c e)
    have z : c < s.heap.objs.size := q.lt
    rw [hDD] at z
    exact Nat.ne_of_lt z
  -- the iterator's own objects, in the block
  have stat : ∀ {o : Obj} {H' : Hp}, (∀ b ∈ fp, H' b = none) → ∀ b ∈ fp, FpOk (cxLc X sc C s H fp M) [(D, o)] H' b := fun {o H'} hn b hb => by
    refine ⟨hn b hb, (I0.ok.exf b hb).1, I0.ok.exfs b hb, .inl hb, (I0.ok.exf b hb).2, fun p hp => ?_⟩
    have e : p = (D, o) := by simpa using (show p ∈ ([] : List (Addr × Obj)) ++ [(D, o)] from hp)
    rw [e]; exact (hDfp b hb).symm
  obtain ⟨W, ⟨m0, w0⟩, hW⟩ := hw
  have loop : ∀ s₂ : Shared, s₂ = { s with heap := h₁, toks := s.toks + ([] : List (Str × Value)).length } →
      codeAny (model X.prog X.w) X.A (.compLoop (.ListComp elt [⟨tg, iter, ifs, 0⟩] sc pos) 0 (.ref it) (.ref D) (compEnvC sc (closL X.env.cells sc.names []) C X.env)) (RR (.ref D) C) s₂ := by
    rintro s₂ rfl
    refine compLoop_own (fun n s' => ∃ i ys σ' H' its, Inv (cxLc X sc C s H fp M) [] σ' H' s' ∧ tn i s'.heap ∧ (∀ b ∈ fp, H' b = none) ∧ s'.heap.PlainList D (List.toArray its) ∧ H' D = none ∧ Vals ys its ∧ ys.length ≤ sizeLine ∧ W i n ys σ' H') ?_ m0
      ⟨0, [], _, H, [], I0, T.keep 0 _ _ st fun b _ o e => old b o e, fun b hb => (hf b hb).1, hacc, I.hok.fresh (by omega), .nil, Nat.zero_le _, w0⟩
    rintro n s' ⟨i, ys, σ', H', its, I', st', fr', pl', nD, rv, hz, w'⟩
    obtain ⟨kk, eD⟩ := id pl'
    have ID : Inv (cxLc X sc C s H fp M) [(D, { cls := .type "list", data := .seq its.toArray kk })] σ' H' s' := I'.pins_of fun p hp => by
      have e : p = (D, { cls := .type "list", data := .seq its.toArray kk }) := by simpa using hp
      rw [e]
      exact ⟨eD, nD, hDC, hDfs, fun v z => by cases z⟩
    rcases hW i n ys σ' H' w' with ⟨stop, q⟩ | ⟨go, hlt, step⟩
    · refine wpAny_mono (T.done (cxLc X sc C s H fp M) rfl rfl rfl hcalm i _ s' σ' H' (fun _ _ => False) ID (stat fr') st' stop) (fun r s1 ⟨hr, I1⟩ => ?_) fun _ _ f => f
      subst hr
      obtain ⟨m, hn1, _⟩ := I1.loc
      have pD := I1.pin (D, { cls := .type "list", data := .seq its.toArray kk }) (by show _ ∈ ([] : List (Addr × Obj)) ++ _; simp)
      have eC : H' C = none := I1.free
      have hIX : Inv X pins σ (upd H' D (.lst ys)) s1 := by
        refine I.call' (ch := fp) I1.os ⟨I1.base.keep, I1.base.slot, fun b o e n hx => ?_, I1.base.there, fun b xs e => ?_, fun b o u e => ?_, fun b ps e => ?_⟩ (fun b o e => ?_) I1.bare fun b hb => ⟨(hf b hb).2.2.2.1, (hf b hb).2.1, (hf b hb).2.2.2.2.1, (hf b hb).2.2.2.2.2⟩
        · have : b ≠ D := by
            have z : b < s.heap.objs.size := Heap.lt_size (show s.heap.get? b = some o from e)
            rw [hDD] at z
            exact Nat.ne_of_lt z
          rw [upd_ne this]
          exact I1.base.free b o e n hx
        · have z := I1.base.tups b xs e
          rw [upd_ne (ne_of_none z nD)]; exact z
        · have z := I1.base.frzs b o u e
          rw [upd_ne (ne_of_none z nD)]; exact z
        · obtain ⟨more, z⟩ := I1.base.tbls b ps e
          exact ⟨more, by rw [upd_ne (ne_of_none z nD)]; exact z⟩
        · by_cases hb : b = D
          · subst hb
            rw [upd_same] at e; cases e
            exact ⟨hz, its, kk, rv, pD.1⟩
          · rw [upd_ne hb] at e
            exact (I1.hok b o e).stay (fun _ _ _ q => q) (fun c q => by rw [upd_ne (ne_of_none q nD)]; exact q) fun c xs q => by rw [upd_ne (ne_of_none q nD)]; exact q
      exact hRR D C s1 m _ (by omega) hIX (by rw [upd_ne hDC.symm]; exact eC) hn1 (q D nD)
    · refine wpAny_mono (T.item (cxLc X sc C s H fp M) rfl rfl rfl hcalm i _ s' σ' H' (fun _ _ => False) ID (stat fr') st' go) (fun r s1 ⟨u, hr, h4⟩ => ?_) fun _ _ f => f
      subst hr
      refine wpAny_mono h4 (fun _ s2 ⟨x, H2, I2, r2, y2, st2, fr2⟩ => ?_) fun _ _ f => f
      have I2' := I2.pinned (stat fr2) (T.obj _ _ st2)
      refine wpAny_mono (hg C s H fp _ s2 σ' H2 x u _ I2' r2 (step x H2 y2)) (fun _ s3 ⟨σ3, H3, I3, q3⟩ => ?_) fun _ _ f => f
      refine wpAny_mono (hc C s H fp _ s3 σ3 H3 _ I3 q3) (fun ok s4 ⟨H4, I4, q4⟩ => ?_) fun _ _ f => f
      -- what the pins say
      have pinD : ∀ {σ5 : St} {H5 : Hp} {s5 : Shared}, Inv (cxLc X sc C s H fp M) ([(D, { cls := .type "list", data := .seq its.toArray kk })] ++ pinsAt fp s2.heap) σ5 H5 s5 →
          s5.heap.get? D = some { cls := .type "list", data := .seq its.toArray kk } ∧ H5 D = none := fun {σ5 H5 s5} I5 => by
        have z := I5.pin (D, { cls := .type "list", data := .seq its.toArray kk }) (by show _ ∈ ([] : List (Addr × Obj)) ++ _; simp)
        exact ⟨z.1, z.2.1⟩
      have pinF : ∀ {σ5 : St} {H5 : Hp} {s5 : Shared}, Inv (cxLc X sc C s H fp M) ([(D, { cls := .type "list", data := .seq its.toArray kk })] ++ pinsAt fp s2.heap) σ5 H5 s5 →
          tn (i + 1) s5.heap ∧ ∀ b ∈ fp, H5 b = none := fun {σ5 H5 s5} I5 => by
        refine ⟨T.keep _ _ _ st2 fun b hb o e => (I5.pin (b, o) (List.mem_append_right _ (List.mem_append_right _ (mem_pinsAt hb e)))).1, fun b hb => ?_⟩
        obtain ⟨o, e, d⟩ := T.obj _ _ st2 b hb
        exact (I5.pin (b, o) (List.mem_append_right _ (List.mem_append_right _ (mem_pinsAt hb e)))).2.1
      cases ok with
      | false =>
        rw [if_neg Bool.false_ne_true] at q4
        obtain ⟨m', hm, w4⟩ := q4
        rw [if_neg Bool.false_ne_true]
        exact ⟨m', hm, i + 1, ys, σ3, H4, its, I4.pins_of (fun p hp => absurd hp (by simp)), (pinF I4).1, (pinF I4).2, ⟨kk, (pinD I4).1⟩, (pinD I4).2, rv, hz, w4⟩
      | true =>
        rw [if_pos rfl] at q4
        rw [if_pos rfl]
        refine wpAny_mono (he C s H fp _ s4 σ3 H4 _ I4 q4) (fun yv s5 ⟨y, H5, I5, r5, m', hm, w5⟩ => ?_) fun _ _ f => f
        have hsz : its.toArray.size ≤ sizeLine := by rw [List.size_toArray, ← rv.length]; exact hz
        refine wpAny_list_append_plain (hsz := hsz) ⟨kk, (pinD I5).1⟩ fun h6 hpl hs6 => ?_
        have I6 : Inv (cxLc X sc C s H fp M) [] σ3 H5 { s5 with heap := h6, toks := s5.toks } := (I5.pins_of (pins' := []) (fun p hp => absurd hp (by simp))).turned (it := D) (fun b o hb e => (hs6.2 b hb).trans e) (pinD I5).2 hDC (.inr (by show s.heap.objs.size ≤ D; omega)) hcells
          fun p hp => absurd (show p ∈ ([] : List (Addr × Obj)) ++ [] from hp) (by simp)
        refine ⟨m', hm, i + 1, ys ++ [y], σ3, H5, its ++ [yv], I6, T.keep _ _ _ (pinF I5).1 fun b hb o e => (hs6.2 b (hDfp b hb)).trans e, (pinF I5).2, ?_, (pinD I5).2, rv.append (.cons r5 .nil), ?_, w5⟩
        · have e : (its ++ [yv]).toArray = its.toArray.push yv := by simp
          rw [e]; exact hpl
        · rw [List.length_append, List.length_singleton]; omega
  have st1 : tn 0 h₁ := T.keep 0 _ _ st fun b _ o e => old b o e
  exact codeAny_compStart_list (loop _ rfl) (T.self X.A 0 _ _ _ st1 (loop _ rfl))

theorem lc_clos {pins : List (Addr × Obj)} {σ : St} {H : Hp} {s : Shared} {sc : Scope} {M : List Str} (L : LcOk X.env.scope sc X.N M) (I : Inv X pins σ H s) : closureFor sc X.env = pure (closL X.env.cells sc.names []) :=
  closureFor_all fun y hy e => I.ok.has y.1 (by
    rcases L.fr y hy e with z | z
    · exact .inl z
    · exact .inr z)
/-- the block's frame is let go -/
theorem lc_after {pins : List (Addr × Obj)} {σ : St} {H H0 : Hp} {s0 s' : Shared} {C : Addr} {h' : Heap} (I0 : Inv X pins σ H0 s0) (I : Inv X pins σ H s') (hC : s0.heap.objs.size ≤ C) (nC : H C = none) (hs : Heap.SameBut C s'.heap h') : Inv X pins σ H { s' with heap := h' } := by
  refine I.turned (t' := s'.toks) (it := C) (fun b o hb e => (hs.2 b hb).trans e) nC ?_ (.inr (Nat.le_trans I0.sz hC)) (fun x c e => ?_) fun p hp => ?_
  · exact Nat.ne_of_gt (Nat.lt_of_lt_of_le I0.lt hC)
  · obtain ⟨v, q⟩ := I0.cell x c e
    exact Nat.ne_of_lt (Nat.lt_of_lt_of_le q.lt hC)
  · exact Nat.ne_of_lt (Nat.lt_of_lt_of_le (Heap.lt_size (I0.pin p hp).1) hC)

/-- [elt for tg in iter if ..] -/
theorem pe_lc {elt iter : Expr} {ifs : List Expr} {sc : Scope} {pos : Pos} {wi : TI} {g : TG} {tc : TT} {te : TE} {M : List Str} (hcalm : X.calm = true) (L : LcOk X.env.scope sc X.N M) (hi : PI X tg iter wi)
    (hg : ∀ C s H fp, PG (cxLc X sc C s H fp M) tg g) (hc : ∀ C s H fp, PIfs (cxLc X sc C s H fp M) ifs tc) (he : ∀ C s H fp, PE (cxLc X sc C s H fp M) elt te)
    (hs : ∀ x, foldedSetIterable iter X.env x = pure x := by intro _; rfl) :
    PE X (.ListComp elt [⟨tg, iter, ifs, 0⟩] sc pos) (tLc wi g tc te (M.length - X.N.length)) := by
  intro pins s σ H Q I h
  rw [eval_ListComp]
  refine wpAny_comprehension_free (use := none) rfl hs (lc_clos L I) L.kind L.loc (thn (hi pins s σ H _ I h) fun v s1 h1 => thn h1 fun itv s2 h2 => ?_)
  obtain ⟨it, fp, tn, J, H2, e, I2, T, st2, f2, hw⟩ := h2
  subst e
  refine lc_block (RR := fun acc C => compPost (model X.prog X.w) X.A X.xe none (EP X pins σ Q) acc C) L hcalm I2 T st2 f2 hg hc he hw fun D C s' m H' hC I' nC hn hq => ?_
  exact ⟨m, hn, fun h' hs' => ⟨.ref D, H', lc_after I2 I' hC nC hs', rfl, hq⟩⟩

/-- x = [elt for tg in iter if ..] where the store comes ahead of the block's names -/
theorem ps_lc {elt iter : Expr} {ifs : List Expr} {sc : Scope} {pos spos py : Pos} {wi : TI} {g : TG} {tc : TT} {te : TE} {M : List Str} {i : Nat} {y : Str} (hN : X.N.Nodup) (hy : X.N[i]? = some y) (hyl : X.env.scope.names.lookup y = some .local)
    (hcalm : X.calm = true) (L : LcOk X.env.scope sc X.N M) (hi : PI X tg iter wi)
    (hg : ∀ C s H fp, PG (cxLc X sc C s H fp M) tg g) (hc : ∀ C s H fp, PIfs (cxLc X sc C s H fp M) ifs tc) (he : ∀ C s H fp, PE (cxLc X sc C s H fp M) elt te)
    (hsw : swapsWith (.ListComp elt [⟨tg, iter, ifs, 0⟩] sc pos) (some (.Name y py)) spos.line X.env = pure true := by rfl)
    (hs : ∀ x, foldedSetIterable iter X.env x = pure x := by intro _; rfl) :
    PS X (.Assign [.Name y py] (.ListComp elt [⟨tg, iter, ifs, 0⟩] sc pos) spos) (tAsg (tLc wi g tc te (M.length - X.N.length)) (gName i)) := by
  intro pins s σ H D I h
  rw [exec_Assign_Name_used _ _ _ _ hsw]
  refine wpAny_bind (wpAny_standAt (wpAny_bind ?_))
  show wpAny _ X.A (do let _ ← comprehension (.ListComp elt [⟨tg, iter, ifs, 0⟩] sc pos) sc X.env _ (newList []) false (eval iter X.env) (some (assign (.Name y py) X.env))) _ _ s
  refine wpAny_bind (wpAny_mono (wpAny_comprehension_free (use := some (assign (.Name y py) X.env)) (Q := fun _ s' => SP X pins D .next s') rfl hs (lc_clos L I) L.kind L.loc
    (thn (hi pins s σ H _ I h) fun v s1 h1 => thn h1 fun itv s2 h2 => ?_)) (fun _ s' hq => wpAny_pure (wpAny_pure hq)) fun _ _ e => e)
  obtain ⟨it, fp, tn, J, H2, e, I2, T, st2, f2, hw⟩ := h2
  subst e
  refine lc_block (RR := fun acc C => compPost (model X.prog X.w) X.A X.xe (some (assign (.Name y py) X.env)) (fun _ s' => SP X pins D .next s') acc C) L hcalm I2 T st2 f2 hg hc he hw fun a C s' m H' hC I' nC hn hq => ?_
  show wpAny _ X.A (assign (.Name y py) X.env (.ref a)) _ _ _
  have cneq : C ≠ X.env.locals := Nat.ne_of_gt (Nat.lt_of_lt_of_le I2.lt hC)
  refine wpAny_assign_Name (store_ok2 I' hN hy (.inl hyl) (v := .ref a) rfl (fun s'' I'' ⟨b, sb, hb⟩ => ?_) (.inr hyl))
  have hbC : C ≠ b := by
    rcases hb with z | z
    · rw [z]; exact cneq
    · obtain ⟨v, q⟩ := I2.cell y b z
      exact Nat.ne_of_gt (Nat.lt_of_lt_of_le q.lt hC)
  refine ⟨m, hn.sameBut sb hbC, fun h' hs' => ⟨σ.set i (some (.ref a)), H', ?_, hq⟩⟩
  refine I''.turned (t' := s''.toks) (it := C) (fun b o hb e => (hs'.2 b hb).trans e) nC cneq (.inr (Nat.le_trans I2.sz hC)) (fun x c e => ?_) fun p hp => ?_
  · obtain ⟨v, q⟩ := I2.cell x c e
    exact Nat.ne_of_lt (Nat.lt_of_lt_of_le q.lt hC)
  · exact Nat.ne_of_lt (Nat.lt_of_lt_of_le (Heap.lt_size (I2.pin p hp).1) hC)
end
end L2

set_option Elab.async false
set_option linter.all false
set_option maxRecDepth 100000
namespace L2
open PySem PySem.Spec PyProof.Rows
section
variable {X : Cx}

/-! ## any, all, sum -/
theorem bools_of {bs : List Bool} : ∀ {us : List Value}, Vals (bs.map V.bl) us → LSm.BoolsAre us bs := by
  induction bs with
  | nil => intro us r; cases r; exact .nil
  | cons b bs ih =>
    intro us r
    rw [List.map_cons] at r
    cases r with
    | cons r1 r2 =>
      cases r1
      exact .cons b (ih r2)
section
variable {prog : Program} {w : World} {A : Around} {E : Value → Shared → Prop} {s : Shared} {l : Addr} {vs : List Value} {bs : List Bool} {Q : Value → Shared → Prop}
theorem any_own (hh : A.handled = none) (hl : s.heap.IsList l vs.toArray) (hb : LSm.BoolsAre vs bs)
    (h : ∀ h' tk, (∀ b x, s.heap.get? b = some x → h'.get? b = some x) → Q (.bool (bs.any id)) { s with heap := h', toks := tk }) :
    wpAny (model prog w) A (call (.builtin "any") [.ref l]) Q E s := by
  have hlt : l < s.heap.objs.size := by obtain ⟨_, e, _⟩ := hl; exact Heap.lt_size e
  refine call_any_walk (wpAny_pyIter_list hl ⟨s.heap.objs.size, [s.heap.objs.size, l], [s.heap.objs.size], vs.toArray.size, _, _, fun i => (bs[i]?).getD false, rfl,
    Walks.list (A := A.in1) hh _ l (Nat.ne_of_lt hlt) vs.toArray, ⟨⟨_, Heap.get?_push_size _ rfl, rfl, rfl⟩, hl.push _⟩, fun i v s' Q' E' hP hQ => ?_, fun h' tk hk => ?_⟩)
  · obtain ⟨b, e, rfl⟩ := hb.get i v (by simpa using hP)
    simp only [e, Option.getD_some] at hQ
    exact wpAny_truthy_bool hQ
  · have e : ((List.range vs.toArray.size).any fun i => (bs[i]?).getD false) = bs.any id := by
      rw [List.size_toArray, hb.length]; exact LSm.range_any bs
    rw [e]
    exact h h' tk (LSm.kept_iter hk)
theorem all_own (hh : A.handled = none) (hl : s.heap.IsList l vs.toArray) (hb : LSm.BoolsAre vs bs)
    (h : ∀ h' tk, (∀ b x, s.heap.get? b = some x → h'.get? b = some x) → Q (.bool (bs.all id)) { s with heap := h', toks := tk }) :
    wpAny (model prog w) A (call (.builtin "all") [.ref l]) Q E s := by
  have hlt : l < s.heap.objs.size := by obtain ⟨_, e, _⟩ := hl; exact Heap.lt_size e
  refine call_all_walk (wpAny_pyIter_list hl ⟨s.heap.objs.size, [s.heap.objs.size, l], [s.heap.objs.size], vs.toArray.size, _, _, fun i => (bs[i]?).getD true, rfl,
    Walks.list (A := A.in1) hh _ l (Nat.ne_of_lt hlt) vs.toArray, ⟨⟨_, Heap.get?_push_size _ rfl, rfl, rfl⟩, hl.push _⟩, fun i v s' Q' E' hP hQ => ?_, fun h' tk hk => ?_⟩)
  · obtain ⟨b, e, rfl⟩ := hb.get i v (by simpa using hP)
    simp only [e, Option.getD_some] at hQ
    exact wpAny_truthy_bool hQ
  · have e : ((List.range vs.toArray.size).all fun i => (bs[i]?).getD true) = bs.all id := by
      rw [List.size_toArray, hb.length]; exact LSm.range_all bs
    rw [e]
    exact h h' tk (LSm.kept_iter hk)
theorem sum_own {ns : List Int} (hh : A.handled = none) (hl : s.heap.IsList l vs.toArray) (hi : IntsAre vs ns)
    (h : ∀ h' tk t', (∀ b x, s.heap.get? b = some x → h'.get? b = some x) → Q (.int ns.sum t') { s with heap := h', toks := tk }) :
    wpAny (model prog w) A (call (.builtin "sum") [.ref l]) Q E s := by
  obtain ⟨xs, hx⟩ := hi.allInts.items
  have hl' : s.heap.IsList l (intItems xs) := hx ▸ hl
  refine sum_intListG hh hl' fun h' tk t' hk => ?_
  have e1 : ns = xs.toList.map (·.1) := by
    rw [← nums_intItems, ← hx]
    exact (show numsOf vs.toArray.toList = ns from hi.numsOf).symm
  have e2 : preSum (numAt xs) xs.size = ns.sum := by rw [preSum_eq, List.take_of_length_le (by simp), e1]
  rw [e2]
  exact h h' tk t' hk
end
def rAny (K : PySem.W.Frag) : List V → Hp → VK → Prop := fun xs H Q => ∃ (p : Addr) (bs : List Bool), xs = [.ref p] ∧ SqL K H p (bs.map V.bl) ∧ Q (.bl (bs.any id)) H
def rAll (K : PySem.W.Frag) : List V → Hp → VK → Prop := fun xs H Q => ∃ (p : Addr) (bs : List Bool), xs = [.ref p] ∧ SqL K H p (bs.map V.bl) ∧ Q (.bl (bs.all id)) H
def rSum (K : PySem.W.Frag) : List V → Hp → VK → Prop := fun xs H Q => ∃ (p : Addr) (ns : List Int), xs = [.ref p] ∧ SqL K H p (ns.map V.int) ∧ Q (.int ns.sum) H
theorem call_any (hc : X.calm = true) : CallR X (.builtin "any") (rAny X.K) := by
  intro pins s σ H xs us Q I r h
  obtain ⟨p, bs, rfl, hq, q⟩ := h
  obtain ⟨u, rfl, ru⟩ := r.one
  cases ru
  obtain ⟨its, rv, pl, hz⟩ := I.list hq
  exact any_own (I.ok.hd hc) pl.isList (bools_of rv) fun h' tk hk => ⟨.bl _, H, I.kept hk, rfl, q⟩
theorem call_all (hc : X.calm = true) : CallR X (.builtin "all") (rAll X.K) := by
  intro pins s σ H xs us Q I r h
  obtain ⟨p, bs, rfl, hq, q⟩ := h
  obtain ⟨u, rfl, ru⟩ := r.one
  cases ru
  obtain ⟨its, rv, pl, hz⟩ := I.list hq
  exact all_own (I.ok.hd hc) pl.isList (bools_of rv) fun h' tk hk => ⟨.bl _, H, I.kept hk, rfl, q⟩
theorem call_sum (hc : X.calm = true) : CallR X (.builtin "sum") (rSum X.K) := by
  intro pins s σ H xs us Q I r h
  obtain ⟨p, ns, rfl, hq, q⟩ := h
  obtain ⟨u, rfl, ru⟩ := r.one
  cases ru
  obtain ⟨its, rv, pl, hz⟩ := I.list hq
  exact sum_own (I.ok.hd hc) pl.isList (intsAre_of rv) fun h' tk t' hk => ⟨.int _, H, I.kept hk, ⟨t', rfl⟩, q⟩

/-! ## range(n), list(range(n)) -/
def rRange1 : List V → Hp → VK → Prop := fun xs H Q => ∃ j : Int, xs = [.int j] ∧ ∀ p, H p = none → Q (.ref p) (upd H p (.rng 0 j))
theorem call_range1 : CallR X (.type "range") rRange1 := by
  intro pins s σ H xs us Q I r h
  obtain ⟨j, rfl, q⟩ := h
  obtain ⟨u, rfl, ru⟩ := r.one
  obtain ⟨t, rfl⟩ := ru
  refine call_range_1 ⟨.ref s.heap.objs.size, _, I.laid (o := .rng 0 j) (fun b u e => Heap.get?_push_of_some _ e) (Nat.le_refl _) ?_, rfl, q _ (I.hok.fresh (Nat.le_refl _))⟩
  exact ⟨_, _, _, Heap.get?_push_size _ rfl⟩
/-- 0, 1, .. as values -/
def upto (n : Nat) : List V := (List.range n).map fun (i : Nat) => V.int (i : Int)
theorem upto_length (n : Nat) : (upto n).length = n := by unfold upto; rw [List.length_map, List.length_range]
def rListRng : List V → Hp → VK → Prop := fun xs H Q => ∃ (p : Addr) (j : Int), xs = [.ref p] ∧ H p = some (.rng 0 j) ∧ 0 ≤ j ∧ j ≤ 1000 ∧ ∀ l, H l = none → Q (.ref l) (upd H l (.lst (upto j.toNat)))
theorem vals_items {acc : Array Value} {n : Nat} (h : ItemsOf (fun i v => ∃ t, v = Value.int (0 + i * 1) t) acc n) : Vals (upto n) acc.toList := by
  have key : ∀ (k : Nat) (l : List Value) (o : Nat), l.length = k → (∀ (i : Nat) v, l[i]? = some v → ∃ t, v = Value.int (((o + i : Nat)) : Int) t) → Vals ((List.range k).map fun (i : Nat) => V.int ((o + i : Nat) : Int)) l := by
    intro k
    induction k with
    | zero => intro l o hl _; rw [List.length_eq_zero_iff.mp hl]; exact .nil
    | succ k ih =>
      intro l o hl hi
      match l, hl with
      | v :: r, hl =>
        rw [List.range_succ_eq_map, List.map_cons, List.map_map]
        refine .cons ?_ ?_
        · obtain ⟨t, e⟩ := hi 0 v rfl
          exact ⟨t, e⟩
        · have := ih r (o + 1) (by simpa using hl) fun i u e => by
            obtain ⟨t, q⟩ := hi (i + 1) u (by simpa using e)
            exact ⟨t, by rw [q]; congr 1; omega⟩
          have e : ((List.range k).map fun (i : Nat) => V.int ((o + 1 + i : Nat) : Int)) = (List.range k).map ((fun (i : Nat) => V.int ((o + i : Nat) : Int)) ∘ Nat.succ) := by
            refine List.map_congr_left fun i _ => ?_
            show V.int _ = V.int _
            congr 1
            simp only [Nat.succ_eq_add_one]
            omega
          rw [← e]; exact this
  have := key n acc.toList 0 (by rw [Array.length_toList]; exact h.1) fun i v e => by
    obtain ⟨t, q⟩ := h.2 i v (by simpa using e)
    exact ⟨t, by rw [q]; congr 1; omega⟩
  unfold upto
  have e : ((List.range n).map fun (i : Nat) => V.int ((0 + i : Nat) : Int)) = (List.range n).map fun (i : Nat) => V.int (i : Int) := List.map_congr_left fun i _ => by rw [Nat.zero_add]
  rw [← e]; exact this
theorem call_list_rng (hc : X.calm = true) : CallR X (.type "list") rListRng := by
  intro pins s σ H xs us Q I r h
  obtain ⟨p, j, rfl, hp, j0, j1, q⟩ := h
  obtain ⟨u, rfl, ru⟩ := r.one
  cases ru
  obtain ⟨t, u, v, e⟩ := (show ObjOk X.prog X.w H s.heap p (.rng 0 j) from I.hok p _ hp)
  have hn : Builtin.Range.rangeSize 0 j 1 = (j.toNat : Int) := by rw [rangeSize_one]; split <;> omega
  refine call_list_range (n := j.toNat) (I.ok.hd hc) (show IsRange s.heap p 0 j 1 t u v from e) (small_one (by omega) (by omega) (by omega) (by omega)) hn (by omega) fun h' tk acc c hk hl ha => ?_
  have hf : H s.heap.objs.size = none := I.hok.fresh (Nat.le_refl _)
  have rv := vals_items ha
  refine ⟨.ref s.heap.objs.size, _, I.laid (o := .lst (upto j.toNat)) hk (Nat.le_refl _) ?_, rfl, q _ hf⟩
  refine ⟨by rw [upto_length]; exact Nat.le_of_lt (small1000 (by omega)), acc.toList, c, rv, ?_⟩
  rw [hl, Array.toArray_toList]

/-! ## isinstance -/
def isiB (t c : String) : Bool := t == c || (t == "bool" && c == "int")
def rIsi (K : PySem.W.Frag) : List V → Hp → VK → Prop := fun xs H Q => ∃ x t c k, xs = [x, .ty c] ∧ TyOf K H x (.type t) ∧ (c = "int" ∨ c = "bool" ∨ c = "list") ∧ isiB t c = k ∧ Q (.bl k) H
theorem call_isi : CallR X (.builtin "isinstance") (rIsi X.K) := by
  intro pins s σ H xs us Q I r h
  obtain ⟨x, t, c, k0, rfl, ty, hc, ek, q⟩ := h
  obtain ⟨u, v, rfl, ru, rv⟩ := r.two
  cases rv
  rw [← ek] at q
  have fin : ∀ {k : Bool}, isiB t c = k → EP X pins σ Q (.bool k) s := fun e => ⟨.bl _, H, I, rfl, e ▸ q⟩
  have fin' : ∀ {k : Bool} {tk : Nat}, isiB t c = k → EP X pins σ Q (.bool k) { s with toks := tk } := fun e => ⟨.bl _, H, I.tok _, rfl, e ▸ q⟩
  cases ty with
  | int i =>
    obtain ⟨tk, rfl⟩ := ru
    rcases hc with rfl | rfl | rfl
    · exact IsiPair.int_int (fin rfl)
    · exact IsiPair.int_bool (fin' rfl)
    · exact IsiPair.int_list (fin' rfl)
  | bl b =>
    cases ru
    rcases hc with rfl | rfl | rfl
    · exact IsiPair.bool_int (fin rfl)
    · exact IsiPair.bool_bool (fin rfl)
    · exact IsiPair.bool_list (fin' rfl)
  | @lst a ys e =>
    cases ru
    obtain ⟨_, _, n, _, h1⟩ := (show ObjOk X.prog X.w H s.heap a (.lst ys) from I.hok a _ e)
    rcases hc with rfl | rfl | rfl
    · exact IsiPair.list_int h1 rfl (fin' rfl)
    · exact IsiPair.list_bool h1 rfl (fin' rfl)
    · exact IsiPair.list_list h1 rfl (fin rfl)
  | @frz a o ys e =>
    cases ru
    obtain ⟨_, _, _, n, _, h1⟩ := (show ObjOk X.prog X.w H s.heap a (.frz o (.lst ys)) from I.hok a _ e)
    rcases hc with rfl | rfl | rfl
    · exact IsiPair.list_int h1 rfl (fin' rfl)
    · exact IsiPair.list_bool h1 rfl (fin' rfl)
    · exact IsiPair.list_list h1 rfl (fin rfl)
  | non =>
    cases ru
    rcases hc with rfl | rfl | rfl
    · exact IsiPair.NoneType_int (fin' rfl)
    · exact IsiPair.NoneType_bool (fin' rfl)
    · exact IsiPair.NoneType_list (fin' rfl)
  | str z =>
    obtain ⟨tk, rfl⟩ := ru
    rcases hc with rfl | rfl | rfl
    · exact IsiPair.str_int (fin' rfl)
    · exact IsiPair.str_bool (fin' rfl)
    · exact IsiPair.str_list (fin' rfl)
  | flt z =>
    obtain ⟨tk, rfl⟩ := ru
    rcases hc with rfl | rfl | rfl
    · exact IsiPair.float_int (fin' rfl)
    · exact IsiPair.float_bool (fin' rfl)
    · exact IsiPair.float_list (fin' rfl)
  | @tup a ys e =>
    cases ru
    obtain ⟨_, _, _, pp⟩ := (show ObjOk X.prog X.w H s.heap a (.tup ys) from I.hok a _ e)
    obtain ⟨o, h1, h2, _⟩ := pp
    rcases hc with rfl | rfl | rfl
    · exact IsiPair.tuple_int h1 h2 (fin' rfl)
    · exact IsiPair.tuple_bool h1 h2 (fin' rfl)
    · exact IsiPair.tuple_list h1 h2 (fin' rfl)
  | @dK a kvs e =>
    cases ru
    obtain ⟨_, _, vs, _, pp⟩ := (show ObjOk X.prog X.w H s.heap a (.dK kvs) from I.hok a _ e)
    obtain ⟨o, es, ep, h1, h2, _⟩ := pp
    rcases hc with rfl | rfl | rfl
    · exact IsiPair.dict_int h1 h2.1 (fin' rfl)
    · exact IsiPair.dict_bool h1 h2.1 (fin' rfl)
    · exact IsiPair.dict_list h1 h2.1 (fin' rfl)
  | @dT a kvs e =>
    cases ru
    obtain ⟨_, _, xs, _, o, es, ep, h1, h2, _⟩ := (show ObjOk X.prog X.w H s.heap a (.dT kvs) from I.hok a _ e)
    rcases hc with rfl | rfl | rfl
    · exact IsiPair.dict_int h1 h2.1 (fin' rfl)
    · exact IsiPair.dict_bool h1 h2.1 (fin' rfl)
    · exact IsiPair.dict_list h1 h2.1 (fin' rfl)

/-! ## lists of ints compared -/
def rNeL (K : PySem.W.Frag) : R2 := fun x y H Q => ∃ (p q : Addr) (ns ms : List Int), x = .ref p ∧ y = .ref q ∧ SqL K H p (ns.map V.int) ∧ SqL K H q (ms.map V.int) ∧ Q (.bl (!decide (ns = ms))) H
def rEqL (K : PySem.W.Frag) : R2 := fun x y H Q => ∃ (p q : Addr) (ns ms : List Int), x = .ref p ∧ y = .ref q ∧ SqL K H p (ns.map V.int) ∧ SqL K H q (ms.map V.int) ∧ Q (.bl (decide (ns = ms))) H
theorem all_same {ns ms : List Int} (h : ns.length = ms.length) : ((List.range ns.length).all fun j => ns.getD j 0 == ms.getD j 0) = decide (ns = ms) := by
  rw [Bool.eq_iff_iff, List.all_eq_true, decide_eq_true_eq]
  constructor
  · intro q
    refine List.ext_getElem h fun i h1 h2 => ?_
    have := q i (List.mem_range.mpr h1)
    simp only [List.getD_eq_getElem?_getD, List.getElem?_eq_getElem h1, List.getElem?_eq_getElem h2, Option.getD_some, beq_iff_eq] at this
    exact this
  · intro q i _
    rw [q]; simp
theorem get_int {ns : List Int} {its : List Value} (r : Vals (ns.map V.int) its) {j : Nat} (h : j < its.toArray.size) : ∃ t, its.toArray[j] = Value.int (ns.getD j 0) t := by
  have hj : j < its.length := by simpa using h
  have hn : j < ns.length := by have := r.length; rw [List.length_map] at this; omega
  obtain ⟨u, e, q⟩ := r.get (i := j) (x := .int ns[j]) (by rw [List.getElem?_map, List.getElem?_eq_getElem hn]; rfl)
  obtain ⟨t, rfl⟩ := q
  refine ⟨t, ?_⟩
  have e2 : its[j]? = some its[j] := List.getElem?_eq_getElem hj
  rw [e2] at e
  have e3 : its[j] = Value.int ns[j] t := Option.some.inj e
  simp only [List.getElem_toArray, e3, List.getD_eq_getElem?_getD, List.getElem?_eq_getElem hn, Option.getD_some]
theorem op_eqL (hu : X.A.units < cLine) : OpR X (compareOp .Eq) (rEqL X.K) := by
  intro pins s σ H x y v u Q I rx ry h
  obtain ⟨p, q, ns, ms, rfl, rfl, h1, h2, hq⟩ := h
  cases rx
  cases ry
  obtain ⟨its, r1, p1, _⟩ := I.list h1
  obtain ⟨its2, r2, p2, _⟩ := I.list h2
  have l1 := r1.length
  have l2 := r2.length
  rw [List.length_map] at l1 l2
  by_cases hl : ns.length = ms.length
  · refine SeqAt.eq_listAt (e := fun j => ns.getD j 0 == ms.getD j 0) p1.isList p2.isList (by rw [List.size_toArray, List.size_toArray, ← l1, ← l2, hl]) hu (fun j a b => ?_) ?_
    · obtain ⟨t, e⟩ := get_int r1 a
      obtain ⟨t', e'⟩ := get_int r2 b
      rw [e, e']
      exact SeqAt.EqAt.int_int _ _ _ _
    · rw [List.size_toArray, ← l1, all_same hl]
      exact ⟨.bl _, H, I, rfl, hq⟩
  · refine SeqAt.eq_list_lengthsAt p1.isList p2.isList (by rw [List.size_toArray, List.size_toArray, ← l1, ← l2]; simpa using hl) hu ⟨.bl false, H, I, rfl, ?_⟩
    have e : decide (ns = ms) = false := decide_eq_false fun z => hl (by rw [z])
    rw [e] at hq
    exact hq

/-! ## xs[::-1] -/
def tRev (K : PySem.W.Frag) (te : TE) : TE := fun σ H Q => te σ H fun x H1 => ∃ a xs, x = .ref a ∧ SqL K H1 a xs ∧ ∀ p, H1 p = none → Q (.ref p) (upd H1 p (.lst xs.reverse))
/-! ## enumerate -/
/-- the pairs of a list's places and items -/
def Ite (K : PySem.W.Frag) (a : Addr) : It :=
  ⟨fun i H => ∃ xs x, SqL K H a xs ∧ xs[i]? = some x, fun i H y H' => ∃ p x, H p = none ∧ y = .ref p ∧ H' = upd H p (.tup [.int (i : Nat), x]) ∧ ∀ xs, SqL K H a xs → xs[i]? = some x, fun i H => ∃ xs, SqL K H a xs ∧ xs.length ≤ i⟩
theorem turn_enum {P : Program} {w : World} {K : PySem.W.Frag} {els : List Expr} {x1 : Nat} {pt : Pos} (a e it : Addr) (hne : e ≠ it) :
    Turn P w K (.Tuple els x1 pt) (Ite K a) [e, it] e (fun i h => (∃ old, IsEnum h e it ((i : Nat) : Int) old) ∧ h.IsListIter it a i) where
  mem := by simp
  obj := fun i h st b hb => by
    obtain ⟨⟨old, he⟩, ⟨o, e1, c, d⟩⟩ := st
    rcases List.mem_cons.mp hb with z | z
    · rw [z]; exact ⟨_, he, fun v z => by cases z⟩
    · have z' : b = it := by simpa using z
      rw [z']; exact ⟨o, e1, fun v z => by rw [d] at z; cases z⟩
  keep := fun i h h' st k => by
    obtain ⟨⟨old, he⟩, hit⟩ := st
    exact ⟨⟨old, k e (by simp) _ he⟩, hit.at fun o q => k it (by simp) o q⟩
  item := by
    intro X hP hw hK hc i pins s σ H E I hf st hg
    subst hP hw hK
    obtain ⟨xs, x, hq, hx⟩ := hg
    obtain ⟨its, rv, pl, hz⟩ := I.list hq
    obtain ⟨u, hu, ru⟩ := rv.get hx
    obtain ⟨⟨old, he⟩, hit⟩ := st
    have fe := hf e (by simp)
    have fi := hf it (by simp)
    refine wpAny_pyNext_enum_item he hit pl.isList (x := u) (by simpa using hu) hne fun h' heo hit' ht' hsz hk' => ⟨_, rfl, ?_⟩
    refine wpAny_letOwnedTupleGo_enum heo fun h2 he2 hs2 => ?_
    have lte : e < s.heap.objs.size := Heap.lt_size he
    have lti : it < s.heap.objs.size := by obtain ⟨o, q, _⟩ := hit; exact Heap.lt_size q
    have hfr : H s.heap.objs.size = none := I.hok.fresh (Nat.le_refl _)
    have kk : ∀ b o, b ≠ e → b ≠ it → s.heap.get? b = some o → h2.get? b = some o := fun b o h1 h3 q => (hs2.2 b h1).trans (hk' b o h1 h3 q)
    have pt2 : h2.get? s.heap.objs.size = some { cls := .type "tuple", data := .seq #[.int i s.toks, u] } := (hs2.2 _ (Nat.ne_of_gt lte)).trans ht'
    have I1 : Inv X pins σ (upd H s.heap.objs.size (.tup [.int (i : Nat), x])) { s with heap := h2, toks := s.toks + 1 } := by
      refine I.step (g' := s.gens) (d' := s.drawn) (ch := [e, it]) (fun b hb => ?_) (fun b o _ _ hc q _ => kk b o (fun z => hc (by simp [z])) (fun z => hc (by simp [z])) q) (fun b o _ _ hc q _ => ⟨o.slots, kk b o (fun z => hc (by simp [z])) (fun z => hc (by simp [z])) q⟩)
        (fun b o hc q n => by rw [upd_ne (Nat.ne_of_lt (Heap.lt_size q))]; exact n) (fun b o hc q => ⟨o, kk b o (fun z => hc (by simp [z])) (fun z => hc (by simp [z])) q⟩) (fun b ys q => by rw [upd_ne (ne_of_none q hfr)]; exact q) (fun b o u q => by rw [upd_ne (ne_of_none q hfr)]; exact q)
        (fun b ps q => ⟨#[], by rw [upd_ne (ne_of_none q hfr), q]; simp⟩) (fun m hm => ?_) (fun b o q => ?_) I.bare
      · rcases List.mem_cons.mp hb with z | z
        · rw [z]; exact ⟨fe.2.2.2.1, fe.2.1, fe.2.2.2.2.1, fe.2.2.2.2.2⟩
        · have z' : b = it := by simpa using z
          rw [z']; exact ⟨fi.2.2.2.1, fi.2.1, fi.2.2.2.2.1, fi.2.2.2.2.2⟩
      · obtain ⟨o, es, ep, ho, r⟩ := hm
        exact ⟨o, es, ep, kk _ o (Ne.symm fe.2.1) (Ne.symm fi.2.1) ho, r⟩
      · by_cases hb : b = s.heap.objs.size
        · subst hb
          rw [upd_same] at q; cases q
          refine ⟨by show 2 ≤ sizeLine; decide, [.int i s.toks, u], .cons ⟨_, rfl⟩ (.cons ru .nil), ⟨_, pt2, rfl, _, rfl⟩⟩
        · rw [upd_ne hb] at q
          refine (I.hok b o q).stay (fun c v hc z => kk c v ?_ ?_ z) (fun c z => by rw [upd_ne (ne_of_none z hfr)]; exact z) fun c ys z => by rw [upd_ne (ne_of_none z hfr)]; exact z
          · rintro rfl
            rcases hc with z' | z'
            · rw [← z', fe.1] at q; cases q
            · rw [fe.1] at z'; cases z'
          · rintro rfl
            rcases hc with z' | z'
            · rw [← z', fi.1] at q; cases q
            · rw [fi.1] at z'; cases z'
    refine ⟨.ref s.heap.objs.size, _, I1, rfl, ⟨_, x, hfr, rfl, rfl, fun ys hy => by rw [I.list_inj hy hq]; exact hx⟩, ⟨⟨u, ?_⟩, hit'.extBut hs2.extBut (Ne.symm hne)⟩, fun b hb => ?_⟩
    · have ec : (((i + 1 : Nat)) : Int) = (i : Int) + 1 := by omega
      rw [ec]; exact he2
    · rcases List.mem_cons.mp hb with z | z
      · rw [z, upd_ne (Nat.ne_of_lt lte)]; exact fe.1
      · have z' : b = it := by simpa using z
        rw [z', upd_ne (Nat.ne_of_lt lti)]; exact fi.1
  done := by
    intro X hP hw hK hc i pins s σ H E I hf st hg
    subst hP hw hK
    obtain ⟨xs, hq, hx⟩ := hg
    obtain ⟨its, rv, pl, hz⟩ := I.list hq
    obtain ⟨⟨old, he⟩, hit⟩ := st
    have fi := hf it (by simp)
    have hl := rv.length
    exact wpAny_pyNext_enum_end (I.ok.hd hc) he hit pl.isList (by simp; omega) fun h' eb => ⟨rfl, I.turned (t' := s.toks) (fun b o hb q => eb b o hb q) fi.1 fi.2.1 fi.2.2.2.1 fi.2.2.2.2.1 fi.2.2.2.2.2⟩
  self := fun _ _ _ _ _ st h => by
    obtain ⟨⟨old, he⟩, _⟩ := st
    exact wpAny_pyIter_enum he h
def iEnum (K : PySem.W.Frag) (ta : TA) : TI := fun σ H R => ta σ H fun vs H1 => ∃ a xs, vs = [.ref a] ∧ SqL K H1 a xs ∧ R (Ite K a) H1
theorem pi_enum {els : List Expr} {x1 : Nat} {pt : Pos} {a : Expr} {ta : TA} {p pos : Pos} (hg : Gl X "enumerate") (hm : X.mg "enumerate" = none) (ha : PA X [a] ta) (hs : starEach [a] X.env = [(false, eval a X.env)] := by rfl) :
    PI X (.Tuple els x1 pt) (.Call (.Name "enumerate" p) [a] [] pos) (iEnum X.K ta) := by
  intro pins s σ H R I h
  refine Call_ (ld_blt I hg hm boot_enumerate (PyProof.Rows.callWith_type1 (thn (ha pos pins s σ H _ I h) fun us s1 ⟨vs, H1, I1, r1, q1⟩ => ?_) hs rfl))
  obtain ⟨l, xs, e, hq, q⟩ := q1
  subst e
  obtain ⟨u, rfl, ru⟩ := r1.one
  cases ru
  obtain ⟨its, rv, pl, hz⟩ := I1.list hq
  refine call_enumerate_list pl.isList fun h' he hit hsz hk => wpAny_pyIter_enum he ?_
  have I2 : Inv X pins σ H1 { s1 with heap := h' } := I1.kept (t' := s1.toks) hk
  refine ⟨s1.heap.objs.size + 1, [s1.heap.objs.size + 1, s1.heap.objs.size], _, _, H1, rfl, I2, turn_enum l _ _ (Nat.ne_of_gt (Nat.lt_succ_self _)), ⟨⟨_, he⟩, hit⟩, fun b hb => ?_, q⟩
  have hge : s1.heap.objs.size ≤ b := by
    rcases List.mem_cons.mp hb with z | z
    · rw [z]; exact Nat.le_succ _
    · have z' : b = s1.heap.objs.size := by simpa using z
      rw [z']; exact Nat.le_refl _
  exact I1.fpOk hge (I1.hok.fresh hge)
end
end L2

set_option Elab.async false
set_option linter.all false
set_option maxRecDepth 100000
namespace Wv
open PySem
/-! ## groups as ints, as the text reckons them -/
def hasB (g m : Int) : Bool := decide (Builtin.bitAnd (g / 2 ^ m.toNat) 1 = 1)
def withinB (s l : Int) : Bool := decide (Builtin.bitAnd s l = s)
def carrB (gs : List Int) (g : Int) : Bool := gs.any fun o => withinB o g
/-- 0, 1, .. below n -/
def up (n : Nat) : List Int := (List.range n).map fun (i : Nat) => (i : Int)
theorem mem_up {n : Nat} {x : Int} : x ∈ up n ↔ 0 ≤ x ∧ x < n := by
  unfold up
  rw [List.mem_map]
  constructor
  · rintro ⟨i, hi, rfl⟩
    have := List.mem_range.mp hi
    omega
  · rintro ⟨h0, h1⟩
    exact ⟨x.toNat, List.mem_range.mpr (by omega), by omega⟩
theorem up_length (n : Nat) : (up n).length = n := by unfold up; rw [List.length_map, List.length_range]
theorem up_get {n i : Nat} (h : i < n) : (up n)[i]? = some (i : Int) := by
  unfold up
  rw [List.getElem?_map, List.getElem?_range h]
  rfl
theorem up_succ (n : Nat) : up (n + 1) = up n ++ [(n : Int)] := by
  unfold up
  rw [List.range_succ, List.map_append]
  rfl
def tabOf (n : Nat) (gs : List Int) : List Bool := (up (2 ^ n)).map (carrB gs)
theorem tabOf_length (n : Nat) (gs : List Int) : (tabOf n gs).length = 2 ^ n := by unfold tabOf; rw [List.length_map, up_length]
def at_ (tb : List Bool) (g : Int) : Bool := tb.getD g.toNat false
theorem at_tab {n : Nat} {gs : List Int} {g : Int} (h0 : 0 ≤ g) (h1 : g < ((2 ^ n : Nat) : Int)) : at_ (tabOf n gs) g = carrB gs g := by
  unfold at_ tabOf
  have hi : g.toNat < 2 ^ n := by omega
  rw [List.getD_eq_getElem?_getD, List.getElem?_map, up_get hi]
  have e : ((g.toNat : Nat) : Int) = g := by omega
  rw [e]
  rfl
/-- members in a group, out of it -/
def ins (n : Nat) (g : Int) : List Int := (up n).filter (hasB g)
def outs (n : Nat) (g : Int) : List Int := (up n).filter fun m => !hasB g m
def leastBy (f : Int → Int → Int) (n : Nat) (tb : List Bool) : List Int := (up (2 ^ n)).filter fun g => at_ tb g && !((ins n g).map fun m => at_ tb (f g m)).any id
def greatBy (f : Int → Int → Int) (n : Nat) (tb : List Bool) : List Int := (up (2 ^ n)).filter fun g => !at_ tb g && ((outs n g).map fun m => at_ tb (f g m)).all id

theorem bits_in : ∀ g : Fin 32, ∀ m : Fin 5, hasB (g.val : Int) (m.val : Int) = true → ((g.val : Int) - 1 * 2 ^ ((m.val : Int)).toNat = Builtin.bitXor g.val (1 * 2 ^ ((m.val : Int)).toNat) ∧ 0 ≤ (g.val : Int) - 1 * 2 ^ ((m.val : Int)).toNat) := by decide +kernel
theorem bits_out : ∀ n : Fin 6, ∀ g : Fin 32, ∀ m : Fin 5, g.val < 2 ^ n.val → m.val < n.val → hasB (g.val : Int) (m.val : Int) = false →
    ((g.val : Int) + 1 * 2 ^ ((m.val : Int)).toNat = Builtin.bitOr g.val (1 * 2 ^ ((m.val : Int)).toNat) ∧ (g.val : Int) + 1 * 2 ^ ((m.val : Int)).toNat < ((2 ^ n.val : Nat) : Int)) := by decide +kernel
theorem bits_sub : ∀ o : Fin 32, ∀ g : Fin 32, withinB o.val g.val = true → ∀ m : Fin 5, hasB (o.val : Int) (m.val : Int) = true → hasB (g.val : Int) (m.val : Int) = true := by decide +kernel
theorem pow5 : ∀ n : Fin 6, 2 ^ n.val ≤ 32 := by decide
theorem two_le {n : Nat} (h : n ≤ 5) : 2 ^ n ≤ 32 := pow5 ⟨n, by omega⟩
section
variable {n : Nat} {g m : Int}
theorem sub_ok (hn : n ≤ 5) (hg : g ∈ up (2 ^ n)) (hm : m ∈ ins n g) : g - 1 * 2 ^ m.toNat = Builtin.bitXor g (1 * 2 ^ m.toNat) ∧ 0 ≤ g - 1 * 2 ^ m.toNat ∧ g - 1 * 2 ^ m.toNat < ((2 ^ n : Nat) : Int) := by
  have h5 := two_le hn
  obtain ⟨g0, g1⟩ := mem_up.mp hg
  unfold ins at hm
  rw [List.mem_filter] at hm
  obtain ⟨m0, m1⟩ := mem_up.mp hm.1
  have e1 : ((g.toNat : Nat) : Int) = g := by omega
  have e2 : ((m.toNat : Nat) : Int) = m := by omega
  have q := bits_in ⟨g.toNat, by omega⟩ ⟨m.toNat, by omega⟩ (by simp only [e1, e2]; exact hm.2)
  simp only [e1, e2] at q
  refine ⟨q.1, q.2, ?_⟩
  have : (0 : Int) < 2 ^ m.toNat := Int.pow_pos (by decide)
  omega
theorem add_ok (hn : n ≤ 5) (hg : g ∈ up (2 ^ n)) (hm : m ∈ outs n g) : g + 1 * 2 ^ m.toNat = Builtin.bitOr g (1 * 2 ^ m.toNat) ∧ 0 ≤ g + 1 * 2 ^ m.toNat ∧ g + 1 * 2 ^ m.toNat < ((2 ^ n : Nat) : Int) := by
  have h5 := two_le hn
  obtain ⟨g0, g1⟩ := mem_up.mp hg
  unfold outs at hm
  rw [List.mem_filter] at hm
  obtain ⟨m0, m1⟩ := mem_up.mp hm.1
  have e1 : ((g.toNat : Nat) : Int) = g := by omega
  have e2 : ((m.toNat : Nat) : Int) = m := by omega
  have q := bits_out ⟨n, by omega⟩ ⟨g.toNat, by omega⟩ ⟨m.toNat, by omega⟩ (by show g.toNat < 2 ^ n; omega) (by show m.toNat < n; omega) (by simp only [e1, e2]; simpa using hm.2)
  simp only [e1, e2] at q
  refine ⟨q.1, ?_, q.2⟩
  have : (0 : Int) < 2 ^ m.toNat := Int.pow_pos (by decide)
  omega
theorem within_has (hn : n ≤ 5) {o : Int} (ho : o ∈ up (2 ^ n)) (hg : g ∈ up (2 ^ n)) (h : withinB o g = true) (hm : m ∈ up n) (q : hasB o m = true) : hasB g m = true := by
  have h5 := two_le hn
  obtain ⟨g0, g1⟩ := mem_up.mp hg
  obtain ⟨o0, o1⟩ := mem_up.mp ho
  obtain ⟨m0, m1⟩ := mem_up.mp hm
  have e1 : ((g.toNat : Nat) : Int) = g := by omega
  have e2 : ((m.toNat : Nat) : Int) = m := by omega
  have e3 : ((o.toNat : Nat) : Int) = o := by omega
  have r := bits_sub ⟨o.toNat, by omega⟩ ⟨g.toNat, by omega⟩ (by simp only [e1, e3]; exact h) ⟨m.toNat, by omega⟩ (by simp only [e2, e3]; exact q)
  simpa only [e1, e2] using r
end
/-! ## weights -/
def wtOf (ws : List Int) (g : Int) : Int := ((up ws.length).filter (hasB g) |>.map fun k => ws.getD k.toNat 0).sum
theorem wt_le {l : List Int} {p q : Int → Bool} {f : Int → Int} (h : ∀ x ∈ l, p x = true → q x = true) (h0 : ∀ x ∈ l, 0 ≤ f x) : ((l.filter p).map f).sum ≤ ((l.filter q).map f).sum := by
  induction l with
  | nil => exact Int.le_refl _
  | cons x r ih =>
    have ih' := ih (fun y hy => h y (List.mem_cons_of_mem _ hy)) fun y hy => h0 y (List.mem_cons_of_mem _ hy)
    have hx := h x List.mem_cons_self
    have h0x := h0 x List.mem_cons_self
    rw [List.filter_cons, List.filter_cons]
    cases hp : p x with
    | true =>
      rw [hx hp]
      simp only [if_true, List.map_cons, List.sum_cons]
      omega
    | false =>
      simp only [Bool.false_eq_true, if_false]
      split
      · simp only [List.map_cons, List.sum_cons]
        omega
      · exact ih'
theorem within_self {n : Nat} (hn : n ≤ 5) {g : Int} (hg : g ∈ up (2 ^ n)) : withinB g g = true := by
  unfold withinB
  rw [PyProof.Rows.bitAnd_self]
  simp
/-- the council of the groups that weigh enough -/
theorem carr_weights {n : Nat} (hn : n ≤ 5) {ws : List Int} (hl : ws.length = n) (h0 : ∀ w ∈ ws, 0 ≤ w) (quota : Int) {g : Int} (hg : g ∈ up (2 ^ n)) :
    carrB ((up (2 ^ n)).filter fun o => decide (quota ≤ wtOf ws o)) g = decide (quota ≤ wtOf ws g) := by
  rw [Bool.eq_iff_iff]
  unfold carrB
  rw [List.any_eq_true, decide_eq_true_eq]
  constructor
  · rintro ⟨o, ho, hw⟩
    rw [List.mem_filter, decide_eq_true_eq] at ho
    refine Int.le_trans ho.2 ?_
    unfold wtOf
    refine wt_le (fun x hx q => within_has hn ho.1 hg hw (by rw [← hl]; exact hx) q) fun x hx => ?_
    rw [List.getD_eq_getElem?_getD]
    cases e : ws[x.toNat]? with
    | none => exact Int.le_refl _
    | some w => exact h0 w (List.mem_of_getElem? e)
  · intro h
    exact ⟨g, List.mem_filter.mpr ⟨hg, decide_eq_true h⟩, within_self hn hg⟩
theorem tab_weights {n : Nat} (hn : n ≤ 5) {ws : List Int} (hl : ws.length = n) (h0 : ∀ w ∈ ws, 0 ≤ w) (quota : Int) :
    tabOf n ((up (2 ^ n)).filter fun o => decide (quota ≤ wtOf ws o)) = (up (2 ^ n)).map fun g => decide (quota ≤ wtOf ws g) :=
  List.map_congr_left fun _ hg => carr_weights hn hl h0 quota hg
/-- a table that grows with the groups -/
def Mono (n : Nat) (tb : List Bool) : Prop := ∀ o g, o ∈ up (2 ^ n) → g ∈ up (2 ^ n) → withinB o g = true → at_ tb o = true → at_ tb g = true
end Wv

set_option Elab.async false
set_option linter.all false
set_option maxRecDepth 100000
namespace L2
open PySem PySem.Spec PyProof.Rows
theorem same_new {H : Hp} {p : Addr} (h : H p = none) (o : HO) : Same H (upd H p o) := fun b u q => by rw [upd_ne (ne_of_none q h)]; exact q
theorem take_one_more {α : Type} {xs : List α} {i : Nat} {x : α} (h : xs[i]? = some x) : xs.take (i + 1) = xs.take i ++ [x] := by
  rw [List.take_add_one, h]; rfl
theorem set_tail {σ : St} {t : Option V} {x : V} {n : Nat} (hn : σ.length = n) : (σ ++ [t]).set n (some x) = σ ++ [some x] := by
  subst hn
  rw [List.set_append_right _ _ (Nat.le_refl _), Nat.sub_self]
  rfl
section
variable {K : PySem.W.Frag} {a : Addr} {xs : List V} {σ : St} {H1 : Hp} {n : Nat} {tc : TT} {te : TE} {Q : VK}
/-- a comprehension over a list, one name: p what is tested, f what is gathered -/
theorem lcB_list (hn : σ.length = n) (hq : SqL K H1 a xs) (hz : xs.length ≤ 1000) (p : V → Bool) (f : V → V)
    (hp : ∀ x ∈ xs, ∀ H', Same H1 H' → ∀ R : Bool → Hp → Prop, (∀ H'', Same H' H'' → R (p x) H'') → tc (σ ++ [some x]) H' R)
    (hf : ∀ x ∈ xs, p x = true → ∀ H', Same H1 H' → ∀ R : VK, (∀ H'', Same H' H'' → R (f x) H'') → te (σ ++ [some x]) H' R)
    (hQ : ∀ H' D, Same H1 H' → H' D = none → Q (.ref D) (upd H' D (.lst ((xs.filter p).map f)))) : tLcB (Itl K a) (gName n) tc te 1 σ H1 Q := by
  refine ⟨fun i m ys σ' H' => m = xs.length - i ∧ i ≤ xs.length ∧ ys = ((xs.take i).filter p).map f ∧ (∃ t, σ' = σ ++ [t]) ∧ Same H1 H', ⟨xs.length, by simp, Nat.zero_le _, by simp, ⟨none, rfl⟩, Same.refl _⟩, ?_⟩
  rintro i m ys σ' H' ⟨rfl, hi, rfl, ⟨t, rfl⟩, hs⟩
  have q' := hs.seq hq
  by_cases hlt : i < xs.length
  · refine .inr ⟨⟨xs, xs[i], q', by simp [hlt]⟩, ?_, fun x H2 y => ?_⟩
    · rw [List.length_map]
      have z1 : ((xs.take i).filter p).length ≤ (xs.take i).length := List.length_filter_le _ _
      rw [List.length_take] at z1
      exact small1000 (by omega)
    obtain ⟨e, y⟩ := y
    subst e
    have hx := y xs q'
    have hmem := List.mem_of_getElem? hx
    show tc ((σ ++ [t]).set n (some x)) _ _
    rw [set_tail hn]
    refine hp x hmem _ hs _ fun H4 h4 => ?_
    have et := take_one_more hx
    cases hb : p x with
    | true =>
      rw [if_pos rfl]
      refine hf x hmem hb _ (hs.trans h4) _ fun H5 h5 => ⟨xs.length - (i + 1), by omega, rfl, hlt, ?_, ⟨_, rfl⟩, hs.trans (h4.trans h5)⟩
      rw [et, List.filter_append, List.map_append, List.filter_cons, hb]
      rfl
    | false =>
      rw [if_neg Bool.false_ne_true]
      refine ⟨xs.length - (i + 1), by omega, rfl, hlt, ?_, ⟨_, rfl⟩, hs.trans h4⟩
      rw [et, List.filter_append, List.map_append, List.filter_cons, hb]
      exact (List.append_nil _).symm
  · have e : i = xs.length := by omega
    subst e
    refine .inl ⟨⟨xs, q', Nat.le_refl _⟩, fun D hD => ?_⟩
    rw [List.take_length]
    exact hQ _ D hs hD
/-- .. over range(k) -/
theorem lcB_range {k : Nat} (hn : σ.length = n) (hz : k ≤ 1000) (p : Int → Bool) (f : Int → V)
    (hp : ∀ x : Int, 0 ≤ x → x < k → ∀ H', Same H1 H' → ∀ R : Bool → Hp → Prop, (∀ H'', Same H' H'' → R (p x) H'') → tc (σ ++ [some (.int x)]) H' R)
    (hf : ∀ x : Int, 0 ≤ x → x < k → p x = true → ∀ H', Same H1 H' → ∀ R : VK, (∀ H'', Same H' H'' → R (f x) H'') → te (σ ++ [some (.int x)]) H' R)
    (hQ : ∀ H' D, Same H1 H' → H' D = none → Q (.ref D) (upd H' D (.lst (((Wv.up k).filter p).map f)))) : tLcB (Itr 0 k) (gName n) tc te 1 σ H1 Q := by
  refine ⟨fun i m ys σ' H' => m = k - i ∧ i ≤ k ∧ ys = ((Wv.up i).filter p).map f ∧ (∃ t, σ' = σ ++ [t]) ∧ Same H1 H', ⟨k, by simp, Nat.zero_le _, rfl, ⟨none, rfl⟩, Same.refl _⟩, ?_⟩
  rintro i m ys σ' H' ⟨rfl, hi, rfl, ⟨t, rfl⟩, hs⟩
  by_cases hlt : i < k
  · refine .inr ⟨hlt, ?_, fun x H2 y => ?_⟩
    · rw [List.length_map]
      have z1 : ((Wv.up i).filter p).length ≤ (Wv.up i).length := List.length_filter_le _ _
      rw [Wv.up_length] at z1
      exact small1000 (by omega)
    obtain ⟨e, y⟩ := y
    have y' : x = .int (i : Int) := by rw [y]; congr 1; omega
    subst e y'
    show tc ((σ ++ [t]).set n (some (.int (i : Int)))) _ _
    rw [set_tail hn]
    refine hp i (by omega) (by omega) _ hs _ fun H4 h4 => ?_
    have et := Wv.up_succ i
    cases hb : p (i : Int) with
    | true =>
      rw [if_pos rfl]
      refine hf i (by omega) (by omega) hb _ (hs.trans h4) _ fun H5 h5 => ⟨k - (i + 1), by omega, rfl, hlt, ?_, ⟨_, rfl⟩, hs.trans (h4.trans h5)⟩
      rw [et, List.filter_append, List.map_append, List.filter_cons, hb]
      rfl
    | false =>
      rw [if_neg Bool.false_ne_true]
      refine ⟨k - (i + 1), by omega, rfl, hlt, ?_, ⟨_, rfl⟩, hs.trans h4⟩
      rw [et, List.filter_append, List.map_append, List.filter_cons, hb]
      exact (List.append_nil _).symm
  · have e : i = k := by omega
    subst e
    exact .inl ⟨Nat.le_refl _, fun D hD => hQ _ D hs hD⟩
/-- places and items -/
def pairs (xs : List V) : List (Nat × V) := (List.range xs.length).zip xs
theorem pairs_take {xs : List V} {i : Nat} {x : V} (h : xs[i]? = some x) : (pairs xs).take (i + 1) = (pairs xs).take i ++ [(i, x)] := by
  refine take_one_more ?_
  unfold pairs
  have hi := (List.getElem?_eq_some_iff.mp h).1
  rw [List.getElem?_zip_eq_some]
  exact ⟨by rw [List.getElem?_range hi], h⟩
theorem pairs_length (xs : List V) : (pairs xs).length = xs.length := by unfold pairs; rw [List.length_zip, List.length_range, Nat.min_self]
theorem set_tail2 {σ : St} {t u : Option V} {x y : V} {n m : Nat} (hn : σ.length = n) (hm : m = n + 1) : ((σ ++ [t, u]).set n (some x)).set m (some y) = σ ++ [some x, some y] := by
  subst hn hm
  rw [List.set_append_right _ _ (Nat.le_refl _), Nat.sub_self, List.set_append_right _ _ (Nat.le_succ _)]
  have e : σ.length + 1 - σ.length = 1 := by omega
  rw [e]
  rfl
theorem lcB_enum {m : Nat} (hn : σ.length = n) (hm : m = n + 1) (hq : SqL K H1 a xs) (hz : xs.length ≤ 1000) (p : Nat → V → Bool) (f : Nat → V → V)
    (hp : ∀ i x, xs[i]? = some x → ∀ H', Same H1 H' → ∀ R : Bool → Hp → Prop, (∀ H'', Same H' H'' → R (p i x) H'') → tc (σ ++ [some (.int (i : Nat)), some x]) H' R)
    (hf : ∀ i x, xs[i]? = some x → p i x = true → ∀ H', Same H1 H' → ∀ R : VK, (∀ H'', Same H' H'' → R (f i x) H'') → te (σ ++ [some (.int (i : Nat)), some x]) H' R)
    (hQ : ∀ H' D, Same H1 H' → H' D = none → Q (.ref D) (upd H' D (.lst (((pairs xs).filter fun q => p q.1 q.2).map fun q => f q.1 q.2)))) :
    tLcB (Ite K a) (gTup K 2 (gCons (gName n) (gCons (gName m) gNil))) tc te 2 σ H1 Q := by
  refine ⟨fun i k ys σ' H' => k = xs.length - i ∧ i ≤ xs.length ∧ ys = (((pairs xs).take i).filter fun q => p q.1 q.2).map (fun q => f q.1 q.2) ∧ (∃ t u, σ' = σ ++ [t, u]) ∧ Same H1 H', ⟨xs.length, by simp, Nat.zero_le _, by simp, ⟨none, none, rfl⟩, Same.refl _⟩, ?_⟩
  rintro i k ys σ' H' ⟨rfl, hi, rfl, ⟨t, u, rfl⟩, hs⟩
  have q' := hs.seq hq
  by_cases hlt : i < xs.length
  · refine .inr ⟨⟨xs, xs[i], q', by simp [hlt]⟩, ?_, fun y H2 yl => ?_⟩
    · rw [List.length_map]
      have z1 : (((pairs xs).take i).filter fun q => p q.1 q.2).length ≤ ((pairs xs).take i).length := List.length_filter_le _ _
      rw [List.length_take] at z1
      exact small1000 (by omega)
    obtain ⟨b, x, nb, e1, e2, yx⟩ := yl
    subst e1 e2
    have hx := yx xs q'
    have hs2 : Same H1 (upd H' b (.tup [.int (i : Nat), x])) := hs.trans (same_new nb _)
    refine ⟨b, [.int (i : Nat), x], rfl, SqT.of upd_same, rfl, _, _, rfl, _, _, rfl, rfl, ?_⟩
    show tc (((σ ++ [t, u]).set n (some (.int (i : Nat)))).set m (some x)) _ _
    rw [set_tail2 hn hm]
    refine hp i x hx _ hs2 _ fun H4 h4 => ?_
    have et := pairs_take hx
    cases hb : p i x with
    | true =>
      rw [if_pos rfl]
      refine hf i x hx hb _ (hs2.trans h4) _ fun H5 h5 => ⟨xs.length - (i + 1), by omega, rfl, hlt, ?_, ⟨_, _, rfl⟩, hs2.trans (h4.trans h5)⟩
      rw [et, List.filter_append, List.map_append, List.filter_cons]
      simp only [hb, if_true]
      rfl
    | false =>
      rw [if_neg Bool.false_ne_true]
      refine ⟨xs.length - (i + 1), by omega, rfl, hlt, ?_, ⟨_, _, rfl⟩, hs2.trans h4⟩
      rw [et, List.filter_append, List.map_append, List.filter_cons]
      simp only [hb, Bool.false_eq_true, if_false]
      exact (List.append_nil _).symm
  · have e : i = xs.length := by omega
    subst e
    refine .inl ⟨⟨xs, q', Nat.le_refl _⟩, fun D hD => ?_⟩
    rw [← pairs_length xs, List.take_length]
    exact hQ _ D hs hD
end
theorem isi_ii : isiB "int" "int" = true := by decide
theorem isi_ib : isiB "int" "bool" = false := by decide
theorem isi_ll : isiB "list" "list" = true := by decide
theorem isi_bb : isiB "bool" "bool" = true := by decide
/-! ## promises in short -/
def sp1 (pre : Int → Prop) (f : Int → V) : Sp := fun vs H Q _ => ∃ x, vs = [.int x] ∧ pre x ∧ ∀ H', Same H H' → Q (f x) H'
def sp2 (pre : Int → Int → Prop) (f : Int → Int → V) : Sp := fun vs H Q _ => ∃ x y, vs = [.int x, .int y] ∧ pre x y ∧ ∀ H', Same H H' → Q (f x y) H'
theorem ite_t {c : Bool} {A B : Prop} (h : c = true) (x : A) : if c = true then A else B := by rw [if_pos h]; exact x
theorem ite_f {c : Bool} {A B : Prop} (h : c = false) (x : B) : if c = true then A else B := by rw [if_neg (by rw [h]; exact Bool.false_ne_true)]; exact x
theorem ite_b {c : Bool} {A B : Prop} (h1 : c = true → A) (h2 : c = false → B) : if c = true then A else B := by
  cases c with
  | true => exact ite_t rfl (h1 rfl)
  | false => exact ite_f rfl (h2 rfl)
end L2

set_option Elab.async false
set_option linter.all false
set_option maxRecDepth 100000
namespace L2
open PySem PySem.Spec PyProof.Rows
theorem same_upd {H H' : Hp} {p : Addr} {o : HO} (h : Same H H') (n : H p = none) : Same H (upd H' p o) := fun b u q => by rw [upd_ne (ne_of_none q n)]; exact h b u q
section
variable {K : PySem.W.Frag} {σ : St} {H1 : Hp} {n : Nat} {tc : TT} {te : TE} {Q : VK}
/-- a comprehension over range(k) without a test, whose items are ints of which P is known -/
theorem lcB_rangeP {k : Nat} (hn : σ.length = n) (hz : k ≤ 1000) (P : Int → Prop)
    (hf : ∀ x : Int, 0 ≤ x → x < k → ∀ H', Same H1 H' → ∀ R : VK, (∀ v H'', P v → Same H' H'' → R (.int v) H'') → te (σ ++ [some (.int x)]) H' R)
    (hQ : ∀ (ws : List Int) H' D, ws.length = k → (∀ v ∈ ws, P v) → Same H1 H' → H' D = none → Q (.ref D) (upd H' D (.lst (ws.map V.int)))) : tLcB (Itr 0 k) (gName n) tTT te 1 σ H1 Q := by
  refine ⟨fun i m ys σ' H' => m = k - i ∧ i ≤ k ∧ (∃ ws : List Int, ws.length = i ∧ (∀ v ∈ ws, P v) ∧ ys = ws.map V.int) ∧ (∃ t, σ' = σ ++ [t]) ∧ Same H1 H', ⟨k, by simp, Nat.zero_le _, ⟨[], rfl, (fun v hv => by cases hv), rfl⟩, ⟨none, rfl⟩, Same.refl _⟩, ?_⟩
  rintro i m ys σ' H' ⟨rfl, hi, ⟨ws, wl, wp, rfl⟩, ⟨t, rfl⟩, hs⟩
  by_cases hlt : i < k
  · refine .inr ⟨hlt, ?_, fun x H2 y => ?_⟩
    · rw [List.length_map, wl]
      exact small1000 (by omega)
    obtain ⟨e, y⟩ := y
    have y' : x = .int (i : Int) := by rw [y]; congr 1; omega
    subst e y'
    dsimp only [gName, tTT]
    rw [if_pos rfl, set_tail hn]
    refine hf i (by omega) (by omega) _ hs _ fun v H5 pv h5 => ⟨k - (i + 1), by omega, rfl, hlt, ⟨ws ++ [v], by rw [List.length_append, wl]; rfl, fun u hu => ?_, ?_⟩, ⟨_, rfl⟩, hs.trans h5⟩
    · rcases List.mem_append.mp hu with z | z
      · exact wp u z
      · have z' : u = v := by simpa using z
        rw [z']; exact pv
    · rw [List.map_append]; rfl
  · have e : i = k := by omega
    subst e
    exact .inl ⟨Nat.le_refl _, fun D hD => hQ ws _ D wl wp hs hD⟩
end
end L2

set_option Elab.async false
set_option linter.all false
set_option maxRecDepth 100000
namespace L2
open PySem PySem.Spec PyProof.Rows
theorem qbl {Q : VK} {H : Hp} {b b' : Bool} (h : b = b') (q : Q (.bl b) H) : Q (.bl b') H := h ▸ q
/-! ## the same rules with the written part K named (a block's context bears it under its own name) -/
section
variable {X : Cx}
theorem ix_listK (K : PySem.W.Frag) (h : X.K = K := by rfl) : IxR X (rIxL K) := by subst h; exact ix_list
theorem ix_tupK (K : PySem.W.Frag) (h : X.K = K := by rfl) : IxR X (rIxT K) := by subst h; exact ix_tup
theorem call_anyK (K : PySem.W.Frag) (hc : X.calm = true) (h : X.K = K := by rfl) : CallR X (.builtin "any") (rAny K) := by subst h; exact call_any hc
theorem call_allK (K : PySem.W.Frag) (hc : X.calm = true) (h : X.K = K := by rfl) : CallR X (.builtin "all") (rAll K) := by subst h; exact call_all hc
theorem call_sumK (K : PySem.W.Frag) (hc : X.calm = true) (h : X.K = K := by rfl) : CallR X (.builtin "sum") (rSum K) := by subst h; exact call_sum hc
theorem call_isiK (K : PySem.W.Frag) (h : X.K = K := by rfl) : CallR X (.builtin "isinstance") (rIsi K) := by subst h; exact call_isi
def rLen (K : PySem.W.Frag) : List V → Hp → VK → Prop := fun xs H Q => ∃ p ys, xs = [.ref p] ∧ (SqL K H p ys ∨ SqT K H p ys) ∧ Q (.int ys.length) H
theorem call_lenK (K : PySem.W.Frag) (h : X.K = K := by rfl) : CallR X (.builtin "len") (rLen K) := by subst h; exact call_len_seq
def rListOf (K : PySem.W.Frag) : List V → Hp → VK → Prop := fun xs H Q => ∃ p ys, xs = [.ref p] ∧ (SqL K H p ys ∨ SqT K H p ys) ∧ ∀ l, H l = none → Q (.ref l) (upd H l (.lst ys))
theorem call_list_ofK (K : PySem.W.Frag) (h : X.K = K := by rfl) : CallR X (.type "list") (rListOf K) := by subst h; exact call_list_of
def rTupOf (K : PySem.W.Frag) : List V → Hp → VK → Prop := fun xs H Q => ∃ p ys, xs = [.ref p] ∧ ((SqL K H p ys ∧ ∀ l, H l = none → Q (.ref l) (upd H l (.tup ys))) ∨ (SqT K H p ys ∧ Q (.ref p) H))
theorem call_tuple_ofK (K : PySem.W.Frag) (h : X.K = K := by rfl) : CallR X (.type "tuple") (rTupOf K) := by subst h; exact call_tuple_of
theorem op_eqLK (K : PySem.W.Frag) (hu : X.A.units < cLine) (h : X.K = K := by rfl) : OpR X (compareOp .Eq) (rEqL K) := by subst h; exact op_eqL hu
theorem sl_listK (K : PySem.W.Frag) (h : X.K = K := by rfl) : SlR X (rSlL K) := by subst h; exact sl_list
theorem pe_fldK (K : PySem.W.Frag) {e : Expr} {ta : TE} {f : Str} {pos : Pos} (he : PE X e ta) (hb : attributeBase e f X.env (eval e X.env) = eval e X.env) (h : X.K = K := by rfl) : PE X (.Attribute e f pos) (tFld K ta f) := by subst h; exact pe_fld he hb
theorem pg_tupK (K : PySem.W.Frag) {es : List Expr} {k : Nat} {t : TGs} {n : Nat} {pos : Pos} (hc : X.calm = true) (h : PGs X es t) (hn : (assignEach es X.env).length = n := by rfl) (hst : (assignEach es X.env).findIdx? (·.1) = none := by rfl)
    (hK : X.K = K := by rfl) : PG X (.Tuple es k pos) (gTup K n t) := by subst hK; exact pg_tup hc h hn hst
theorem pi_listK (K : PySem.W.Frag) {tg l : Expr} {tl : TE} (hl : PE X l tl) (h : X.K = K := by rfl) : PI X tg l (iList K tl) := by subst h; exact pi_list hl
end
end L2

set_option Elab.async false
set_option linter.all false
set_option maxRecDepth 100000
namespace L2
open PySem PySem.Spec PyProof.Rows
/-! ## an exception in flight -/
/-- the exception at e, its newest entry at T, fl the entry's mark; nothing hangs behind it -/
def Fly (h : Heap) (e T : Addr) (cls fl : Value) : Prop :=
  ∃ oe vs oT ts, h.get? e = some oe ∧ oe.cls = cls ∧ oe.data = .fields vs ∧ vs[1]? = some (.ref T) ∧ vs[2]? = some .none ∧ T ≠ e ∧ h.get? T = some oT ∧ oT.data = .fields ts ∧ ts[3]? = some fl
/-- what stays: all but the records at ex and the slots of the frames at fs -/
structure KeptX (fs ex : List Addr) (h h' : Heap) : Prop where
  keep : ∀ b o, b ∉ fs → b ∉ ex → h.get? b = some o → h'.get? b = some o
  slot : ∀ b o, b ∈ fs → b ∉ ex → h.get? b = some o → ∃ sl, h'.get? b = some { o with slots := sl }
section
variable {M : Model} {A : Around} {E : Value → Shared → Prop} {s : Shared}
end
end L2

set_option Elab.async false
set_option linter.all false
set_option maxRecDepth 100000
namespace L2
open PySem PySem.Spec PyProof.Rows
/-! ## an exception behind a call, by the layer's own heap -/
def CXe (P : Program) (w : World) : CXT := fun outer H s E e s' => ∃ (ea T : Addr) (cls : Value) (H' : Hp), e = .ref ea ∧ s'.os = s.os ∧ AllBare s'.gens ∧ Fly s'.heap ea T cls .none ∧ H' ea = none ∧ H' T = none ∧
  s.heap.get? ea = none ∧ s.heap.get? T = none ∧ Un (frs outer) [] H H' s.heap s'.heap ∧ HOk P w H' s'.heap ∧ E cls none H'
section
variable {P : Program} {w : World} {K : PySem.W.Frag} {mg : Str → Option Value} {base : Heap} {N : List Str} {qual : Str} {scope : Scope} {f : Addr} {cd : Value} {A : Around} {outer : List Env} {s0 : Shared} {H0 : Hp} {E : XK}
end
/-! ## raise X('..') of an own class under ValueError -/
abbrev bmV : List Value := [.type "ValueError", .type "Exception", .type "BaseException", .type "object"]
section
open PySem.W
end
section
variable {X : Cx}
def tRaise (EX : Hp → Prop) (ta : TA) : TS := fun _ σ H => ta σ H fun vs H1 => vs.length ≤ sizeLine ∧ EX H1
end
end L2

set_option Elab.async false
set_option linter.all false
set_option maxRecDepth 100000
namespace L2
open PySem PySem.Spec PyProof.Rows PySem.W
/-- what of the text an own exception class bears -/
structure XCls (K : Frag) (C : Addr) : Prop where
  ex : excIn K C bmV "ValueError.__new__" = true
  ga : findIn K (.ref C) "__getattribute__" = some (some (.builtin "BaseException.__getattribute__"))
  gn : findIn K (.ref C) "__getattr__" = some none
  cl : findIn K (.ref C) "__class__" = some (some (.builtin "object.__class__"))
  mb : mroIn K C (.type "BaseException") = some true
  mo : mroIn K C (.type "object") = some true
/-- an exception stands at e, nothing behind it -/
def ExcAt (e C : Addr) : Heap → Prop := fun h => ∃ oe vs, h.get? e = some oe ∧ oe.cls = .ref C ∧ oe.data = .fields vs ∧ vs[2]? = some .none
section
variable {prog : Program} {w : World} {A : Around} {E : Value → Shared → Prop} {h : Heap} {g : Array GenState} {d : Drawn} {t : Nat} {os : OsState} {a C : Addr} {o : Obj} {K : Frag}
end
/-- an exception, tracked -/
abbrev excO (e C : Addr) : HO := .ext (ExcAt e C)
def rIsX (K : Frag) : List V → Hp → VK → Prop := fun xs H Q => ∃ e C c k, xs = [.ref e, c] ∧ H e = some (excO e C) ∧ XCls K C ∧ ((∃ D, c = .ref D ∧ kitOne K (.ref C) (.ref D) = some k) ∨ (∃ T, c = .ty T ∧ kitOne K (.ref C) (.type T) = some k)) ∧ Q (.bl k) H
section
variable {X : Cx}
end
end L2

set_option Elab.async false
set_option linter.all false
set_option maxRecDepth 100000
namespace L2
open PySem PySem.Spec PyProof.Rows PySem.W
section
variable {prog : Program} {w : World} {A : Around} {E : Value → Shared → Prop} {s : Shared}
end
def rAnyH (K : Frag) (e : Addr) : List V → Hp → VK → Prop := fun xs H Q => ∃ (p : Addr) (bs : List Bool) (C : Addr), xs = [.ref p] ∧ SqL K H p (bs.map V.bl) ∧ H e = some (excO e C) ∧ Q (.bl (bs.any id)) H
end L2

set_option Elab.async false
set_option linter.all false
set_option maxRecDepth 100000
namespace L2
open PySem PySem.Spec PyProof.Rows PySem.W
/-! ## try, except C as n -/
section
variable {M : Model} {A : Around} {E : Value → Shared → Prop} {s : Shared} {K : Frag}
end
abbrev Cx.inTry (X : Cx) (pn : List (Addr × Obj)) (xe : Value → Shared → Prop) : Cx := { X with pn := pn, xe := xe }
abbrev Cx.inSuite (X : Cx) (ea : Addr) : Cx := { X with A := X.A.mark (some (.ref ea)), calm := false, xe := fun _ _ => False }
section
variable {X : Cx} {pins pins' : List (Addr × Obj)} {σ : St} {H : Hp} {s : Shared} {xe : Value → Shared → Prop} {ea : Addr}
/-- an object that stood untracked is tracked from here on -/
theorem Inv.track {a : Addr} {o : HO} (I : Inv X pins σ H s) (na : X.s₀.heap.get? a = none) (hn : H a = none) (new : ObjOk X.prog X.w (upd H a o) s.heap a o) (nl : a ≠ X.env.locals) (nc : ∀ x c, X.env.cells.lookup x = some c → c ≠ a) (np : ∀ p ∈ X.pn ++ pins, p.1 ≠ a) :
    Inv X pins σ (upd H a o) s := by
  have ne : ∀ {b : Addr} {u : HO}, H b = some u → b ≠ a := fun q => ne_of_none q hn
  refine ⟨I.ok, I.os, I.bare, ⟨I.base.keep, I.base.slot, fun b ob e n hx => ?_, I.base.there, fun b xs e => ?_, fun b ob u e => ?_, fun b ps e => ?_⟩, I.loc, I.cell, ?_, fun x c e => ?_, fun p hp => ?_, fun b u e => ?_, I.len⟩
  · rw [upd_ne (fun z => by rw [z, na] at e; cases e)]; exact I.base.free b ob e n hx
  · have z := I.base.tups b xs e; rw [upd_ne (ne z)]; exact z
  · have z := I.base.frzs b ob u e; rw [upd_ne (ne z)]; exact z
  · obtain ⟨more, z⟩ := I.base.tbls b ps e; exact ⟨more, by rw [upd_ne (ne z)]; exact z⟩
  · rw [upd_ne (Ne.symm nl)]; exact I.free
  · rw [upd_ne (nc x c e)]; exact I.freeC x c e
  · obtain ⟨e1, e2, e3, e4, e5⟩ := I.pin p hp
    exact ⟨e1, by rw [upd_ne (np p hp)]; exact e2, e3, e4, e5⟩
  · by_cases hb : b = a
    · subst hb
      rw [upd_same] at e; cases e
      exact new
    · rw [upd_ne hb] at e
      exact (I.hok b u e).stay (fun _ _ _ q => q) (fun c q => by rw [upd_ne (ne q)]; exact q) fun c xs q => by rw [upd_ne (ne q)]; exact q
end
section
variable {X : Cx}
/-- what is wanted of an exception that the body lets out: it is caught, and the suite goes well -/
def Caught (X : Cx) (Cc : Addr) (i : Nat) (ts : Addr → TS) (D : Ends) : XK := fun cls _ H' => ∃ C, cls = .ref C ∧ XCls X.K C ∧ mroIn X.K C (.ref Cc) = some true ∧
  ∀ ea, H' ea = none → ts ea { nx := fun _ H2 => D.nx (List.replicate X.N.length none) H2, rt := D.rt } ((List.replicate X.N.length none).set i (some (.ref ea))) (upd H' ea (excO ea C))
/-- try: body / except Cc as n: suite -/
def tTry (X : Cx) (Cc : Addr) (i : Nat) (tb : XK → TS) (ts : Addr → TS) : TS := fun D σ H => tb (Caught X Cc i ts D) D σ H
end
end L2

set_option Elab.async false
set_option linter.all false
set_option maxRecDepth 100000
namespace L2
open PySem PySem.Spec PyProof.Rows PySem.W
section
variable {X : Cx} {CX : CXT} {k : Nat} {f : Addr} {fd : FuncData} {ps : List Str} {sp : Sp} {dvs : List V} {ds : List Value} {E : XK} {x : Str} {p pos : Pos} {e : Expr} {es : List Expr} {tf : TE} {t : TA}
/-- a call of a def that a name of the body holds -/
def tCallV (f : Addr) (sp : Sp) (dvs : List V) (E : XK) (tf : TE) (t : TA) : TE := fun σ H Q => tf σ H fun v H1 => v = .ref f ∧ t σ H1 fun vs H2 => sp (vs ++ dvs) H2 Q E
/-- the ways out of a statement meet again -/
def tJoin (t : TS) : TS := fun D σ H => ∃ Mid : St → Hp → Prop, t { D with nx := Mid } σ H ∧ ∀ σ' H', Mid σ' H' → D.nx σ' H'
theorem ps_join {st : Stmt} {t : TS} (h : PS X st t) : PS X st (tJoin t) := by
  intro pins s σ H D I ⟨Mid, h1, h2⟩
  refine thn (h pins s σ H _ I h1) fun f s1 q => ?_
  cases f with
  | next =>
    obtain ⟨σ', H', I', q⟩ := q
    exact ⟨σ', H', I', h2 σ' H' q⟩
  | ret v => exact q
  | brk => exact q
  | cont => exact q
end
end L2

set_option Elab.async false
set_option linter.all false
set_option maxRecDepth 100000
namespace L2
open PySem PySem.Spec PyProof.Rows
/-! ## xs.count(k) of ints -/
section
variable {X : Cx}
def rCountI (K : PySem.W.Frag) : V → List V → Hp → VK → Prop := fun x vs H Q => ∃ (l : Addr) (ns : List Int) (k : Int), x = .ref l ∧ vs = [.int k] ∧ SqL K H l (ns.map V.int) ∧ Q (.int ((ns.count k : Nat) : Int)) H
end
section
variable {X : Cx} {o e : Expr} {es : List Expr} {to : TE} {t : TA} {name : Str} {apos cpos : Pos} {T id : String} {r : V → List V → Hp → VK → Prop}
end
/-! ## a comprehension without a test, whose items are known by a word -/
section
variable {K : PySem.W.Frag} {a : Addr} {xs : List V} {σ : St} {H1 : Hp} {n : Nat} {te : TE} {Q : VK}
end
end L2

set_option Elab.async false
set_option linter.all false
set_option maxRecDepth 100000
namespace L2
open PySem PySem.Spec PyProof.Rows Builtin Builtin.Str
section
variable {X : Cx}
/-! ## texts -/
def rJoin (K : PySem.W.Frag) : V → List V → Hp → VK → Prop := fun x vs H Q => ∃ (sep : Str) (l : Addr) (zs : List Str), x = .str sep ∧ vs = [.ref l] ∧ SqL K H l (zs.map V.str) ∧
  (zs.map Str.length).sum + zs.length * sep.length ≤ 16777216 ∧ Q (.str (Str.join sep zs)) H
def rSplit : V → List V → Hp → VK → Prop := fun x vs H Q => ∃ (z sep : Str), x = .str z ∧ vs = [.str sep] ∧ sep.length = 1 ∧ z.length < 16777215 ∧
  ∀ p, H p = none → Q (.ref p) (upd H p (.lst ((Txt.split z sep).map V.str)))
def rSlS : V → Option Int → Option Int → Hp → VK → Prop := fun x lo hi H Q => ∃ z : Str, x = .str z ∧ z.length ≤ sizeLine ∧ Q (.str (Txt.slice z lo hi)) H
/-- xs.index(x) of flat items -/
def rIndex (K : PySem.W.Frag) : V → List V → Hp → VK → Prop := fun x vs H Q => ∃ (l : Addr) (xs : List V) (y : V) (j : Nat), x = .ref l ∧ vs = [y] ∧ SqL K H l xs ∧ flatV y = true ∧ xs.all flatV = true ∧ j < xs.length ∧ xs.length ≤ 1000 ∧
  (∀ z, xs[j]? = some z → eqV z y = true) ∧ (∀ i z, i < j → xs[i]? = some z → eqV z y = false) ∧ Q (.int (j : Int)) H
/-- isinstance(x, str) -/
def rIsS (K : PySem.W.Frag) : List V → Hp → VK → Prop := fun xs H Q => ∃ x t k, xs = [x, .ty "str"] ∧ TyOf K H x (.type t) ∧ (t == "str") = k ∧ Q (.bl k) H
end
end L2
namespace L2
open PySem PySem.Spec PyProof.Rows
section
variable {X : Cx}
theorem op_inK (K : PySem.W.Frag) (h : X.K = K := by rfl) : OpR X (compareOp .In) (rIn K false) := by subst h; exact op_in_seq
end
end L2

set_option Elab.async false
set_option linter.all false
set_option maxRecDepth 100000
namespace L2
open PySem PySem.Spec PyProof.Rows
/-! ## a def that is called while an exception is handled -/
structure RoomH (k : Nat) (A : Around) : Prop where
  dp : A.depth + 3 * k + 5 < recursionLimit
  un : A.units + 16 * k + 200 < cLine
structure FnOkH (P : Program) (w : World) (K : PySem.W.Frag) (mg : Str → Option Value) (base : Heap) (CX : CXT) (k : Nat) (f : Addr) (fd : FuncData) (ps : List Str) (sp : Sp) : Prop where
  len : ∀ vs H Q E, sp vs H Q E → vs.length = ps.length
  run : ∀ (A : Around) (outer : List Env) (s : Shared) (H : Hp) (args : Args) (us : List Value) (vs : List V) (Q : VK) (E : XK), RoomH k A → Env0 P w K mg base A outer s H → BindsTo s fd args (ps.zip us) → Vals vs us → sp vs H Q E →
    codeAny (model P w) A (.call (.ref f) args) (CR CX outer P w H s Q E) s
def cxOfH (CX : CXT) (P : Program) (w : World) (K : PySem.W.Frag) (mg : Str → Option Value) (base : Heap) (N : List Str) (qual : Str) (scope : Scope) (f : Addr) (cd : Value) (A : Around) (outer : List Env) (s : Shared) (H : Hp) (E : XK) : Cx :=
  { cxOf CX P w K mg base N qual scope f cd A outer s H E with calm := false }
section
variable {P : Program} {w : World} {K : PySem.W.Frag} {mg : Str → Option Value} {base : Heap}
end
section
variable {X : Cx} {CX : CXT} {k : Nat} {f C : Addr} {fd : FuncData} {ps : List Str} {sp : Sp} {dvs : List V} {ds : List Value} {E : XK} {x m : Str} {p pos apos : Pos} {e o : Expr} {es : List Expr} {ta : TE} {t : TA}
/-- xs.count(x) of flat items -/
def rCountF (K : PySem.W.Frag) : V → List V → Hp → VK → Prop := fun x vs H Q => ∃ (l : Addr) (xs : List V) (y : V), x = .ref l ∧ vs = [y] ∧ SqL K H l xs ∧ flatV y = true ∧ xs.all flatV = true ∧ Q (.int ((xs.countP (fun z => eqV z y) : Nat) : Int)) H
end
end L2

set_option Elab.async false
set_option linter.all false
set_option maxRecDepth 100000
namespace L2
open PySem PySem.Spec PyProof.Rows
/-- whole numbers from 0 to m, True and False are none -/
def whB (m : Int) : V → Bool
  | .int i => decide (0 ≤ i ∧ i ≤ m)
  | _ => false
/-- a def that answers some and raises at others -/
theorem FnOk.both {P : Program} {w : World} {K : PySem.W.Frag} {mg : Str → Option Value} {base : Heap} {CX : CXT} {k : Nat} {f : Addr} {fd : FuncData} {ps : List Str} {sp sp' : Sp} (F : FnOk P w K mg base CX0 k f fd ps sp) (G : FnOk P w K mg base CX k f fd ps sp') :
    FnOk P w K mg base CX k f fd ps (fun vs H Q E => sp vs H Q E ∨ sp' vs H Q E) := by
  refine ⟨fun vs H Q E h => h.elim (F.len vs H Q E) (G.len vs H Q E), fun A outer s H args us vs Q E hr e0 hb r hsp => ?_⟩
  rcases hsp with h | h
  · refine codeAny_mono (F.run A outer s H args us vs Q E hr e0 hb r h) fun res s' hq => ?_
    cases res with
    | error e => exact False.elim hq
    | ok fl =>
      cases fl with
      | ret u => exact hq
      | next => exact False.elim hq
      | brk => exact False.elim hq
      | cont => exact False.elim hq
  · exact G.run A outer s H args us vs Q E hr e0 hb r h
section
variable {X : Cx} {pos : Pos}
/-- {} -/
def tDict0 : TE := fun _ H Q => ∀ p, H p = none → Q (.ref p) (upd H p (.dK []))
end
end L2

set_option Elab.async false
set_option linter.all false
set_option maxRecDepth 100000
namespace L2
open PySem PySem.Spec PyProof.Rows
/-! ## for c in a text -/
def Its (z : Str) : It := ⟨fun i _ => i < z.length, fun i H x H' => H' = H ∧ ∃ c, z.cps[i]? = some c ∧ x = .str ⟨#[c]⟩, fun i _ => z.length ≤ i⟩
section
variable {X : Cx} {tg : Expr}
def iStr (tl : TE) : TI := fun σ H R => tl σ H fun x H1 => ∃ z : Str, x = .str z ∧ R (Its z) H1
end
end L2

set_option Elab.async false
set_option linter.all false
set_option maxRecDepth 100000
namespace L2
open PySem PySem.Spec PyProof.Rows
section
variable {X : Cx}
/-- sorted(xs) of ints -/
def rSortI (K : PySem.W.Frag) : List V → Hp → VK → Prop := fun xs H Q => ∃ (p : Addr) (ns : List Int), xs = [.ref p] ∧ SqL K H p (ns.map V.int) ∧ ns.length < 64 ∧
  ∀ (ms : List Int) (l : Addr), ms.Perm ns → ms.Pairwise (· ≤ ·) → H l = none → Q (.ref l) (upd H l (.lst (ms.map V.int)))
/-- isinstance(x, C) of an instance of an own class -/
def rIsO (K : PySem.W.Frag) : List V → Hp → VK → Prop := fun xs H Q => ∃ (x : V) (C D : Addr) (b : Bool), xs = [x, .ref D] ∧ TyOf K H x (.ref C) ∧ PySem.W.kitOne K (.ref C) (.ref D) = some b ∧ Q (.bl b) H
theorem call_isO (K : PySem.W.Frag) (hK : X.K = K := by rfl) : CallR X (.builtin "isinstance") (rIsO K) := by
  subst hK
  intro pins s σ H xs us Q I r h
  obtain ⟨x, C, D, b, rfl, ty, hk, q⟩ := h
  obtain ⟨u, v, rfl, ru, rv⟩ := r.two
  cases rv
  exact isinst_ok I ru ty hk fun tk => ⟨.bl b, H, I.tok _, rfl, q⟩
end
/-! ## for x in reversed(xs) -/
def Itv (K : PySem.W.Frag) (a : Addr) (n : Nat) : It := ⟨fun i H => ∃ xs, SqL K H a xs ∧ xs.length = n ∧ i < n, fun i H x H' => H' = H ∧ ∀ xs, SqL K H a xs → xs[n - 1 - i]? = some x, fun i _ => n ≤ i⟩
section
variable {X : Cx} {tg : Expr}
def iRev (K : PySem.W.Frag) (ta : TA) : TI := fun σ H R => ta σ H fun vs H1 => ∃ (a : Addr) (xs : List V), vs = [.ref a] ∧ SqL K H1 a xs ∧ R (Itv K a xs.length) H1
theorem op_isnotB : OpR X (compareOp .IsNot) (fun x y H Q => ∃ b c : Bool, x = .bl b ∧ y = .bl c ∧ Q (.bl (b != c)) H) := by
  intro pins s σ H x y v u Q I rx ry h
  obtain ⟨b, c, rfl, rfl, q⟩ := h
  cases rx
  cases ry
  exact isnot_bool ⟨.bl _, H, I, rfl, q⟩
end
end L2

set_option Elab.async false
set_option linter.all false
set_option maxRecDepth 100000
namespace L2
open PySem PySem.Spec PyProof.Rows
section
variable {X : Cx}
/-! ## lists of lists of ints -/
/-- the lists at rs, in order -/
def Each (K : PySem.W.Frag) (H : Hp) (rs : List Addr) (L : List (List Int)) : Prop := rs.length = L.length ∧ ∀ (i : Nat) (r : Addr) (o : List Int), rs[i]? = some r → L[i]? = some o → SqL K H r (o.map V.int)
def rNeLL (K : PySem.W.Frag) : R2 := fun x y H Q => ∃ (p q : Addr) (rs qs : List Addr) (L M : List (List Int)), x = .ref p ∧ y = .ref q ∧ SqL K H p (rs.map V.ref) ∧ SqL K H q (qs.map V.ref) ∧ Each K H rs L ∧ Each K H qs M ∧ Q (.bl (!decide (L = M))) H
open Classical in
/-- a list in a list of lists -/
def rInLL (K : PySem.W.Frag) : R2 := fun x y H Q => ∃ (p q : Addr) (ns : List Int) (rs : List Addr) (L : List (List Int)), x = .ref p ∧ y = .ref q ∧ SqL K H p (ns.map V.int) ∧ SqL K H q (rs.map V.ref) ∧ Each K H rs L ∧ Q (.bl (L.contains ns)) H
/-- a op1 b op2 c op3 d -/
def tChain3 (r r' r2 : R2) (ta tb tc td : TE) : TE := fun σ H Q => ta σ H fun x H1 => tb σ H1 fun y H2 => r x y H2 fun z H3 => ∃ k, z = .bl k ∧
  (if k = true then tc σ H3 fun w' H4 => r' y w' H4 fun z2 H5 => ∃ k2, z2 = .bl k2 ∧ (if k2 = true then td σ H5 fun w2 H6 => r2 w' w2 H6 Q else Q (.bl false) H5) else Q (.bl false) H3)
variable {a b c d : Expr} {ta tb tc td : TE} {pos : Pos}
end
/-! ## a, b, .. = a list -/
section
variable {prog : Program} {w : World} {A : Around} {E : Value → Shared → Prop} {s : Shared}
end
section
variable {X : Cx} {pos : Pos}
/-- (a, b, ..) = a list of that length -/
def gLst (K : PySem.W.Frag) (n : Nat) (t : TGs) : TG := fun v σ H Q => ∃ a xs, v = .ref a ∧ SqL K H a xs ∧ xs.length = n ∧ t xs σ H Q
end
/-! ## a comprehension whose items are new lists -/
/-- the lists that stand at rs -/
def EachH (H : Hp) (rs : List Addr) (L : List (List Int)) : Prop := rs.length = L.length ∧ ∀ (i : Nat) (r : Addr) (o : List Int), rs[i]? = some r → L[i]? = some o → H r = some (.lst (o.map V.int))
section
variable {K : PySem.W.Frag} {a : Addr} {xs : List V} {σ : St} {H1 : Hp} {n : Nat} {te : TE} {Q : VK}
end
open PySem.W in
theorem kit_cls {K : Frag} {C D : Addr} {b : Bool} (z2 : typeIn K (.ref D) = some (.type "type")) (z1 : isClsIn K D = true) (hs : mroIn K C (.ref C) = some true) (h : mroIn K C (.ref D) = some b) : kitOne K (.ref C) (.ref D) = some b := by
  unfold kitOne; split
  · rename_i e
    obtain rfl : C = D := Value.ref.inj (beq_iff_eq.mp e)
    rw [hs] at h; exact h
  · unfold kitCls
    have z1' : (clsIn K D).isSome = true := z1
    simp only [z1', z2, beq_self_eq_true, Bool.and_self, if_true]; exact h
end L2

set_option Elab.async false
set_option linter.all false
set_option maxRecDepth 100000
namespace L2
open PySem PySem.Spec PyProof.Rows
/-! ## set(ints), ints of 1 to 5: the table is known to the place -/
def subs5 : List (List Nat) := [1, 2, 3, 4, 5].foldr (fun v L => L ++ L.map (v :: ·)) [[]]
def insP (P : List Nat) (v : Nat) : List Nat := if P.contains v then P else P.filter (· < v) ++ v :: P.filter (v < ·)
def tab5 (led : Bool) (P : List Nat) : SetTable := ⟨if P.length < 5 then 7 else 31, P.toArray, #[], 0, led, if P.length < 5 then 0 else 1, true⟩
def mid5 (led : Bool) (P : List Nat) : SetTable := ⟨7, P.toArray, #[], 0, led, 0, true⟩
def slot5 (P : List Nat) : Nat → Nat
  | 0 => 0
  | i + 1 => P.getD i 0 + 1
def EsAre (es : List (Int × Value)) (P : List Nat) : Prop := es.map (·.1) = P.map (fun (v : Nat) => (v : Int)) ∧ ∀ e ∈ es, ∃ t, e.2 = .int e.1 t
structure SetAt5 (h : Heap) (a : Addr) (led : Bool) (P : List Nat) (es : Array (Int × Value)) (ep : Nat) : Prop where
  at_ : h.get? a = some { cls := .type "set", dict := none, data := .set es ep (tab5 led P), slots := #[] }
  es_ : EsAre es.toList P
  in_ : P ∈ subs5
section
variable {prog : Program} {w : World} {A : Around} {E : Value → Shared → Prop} {s : Shared}
end
end L2

set_option Elab.async false
set_option linter.all false
set_option maxRecDepth 100000
namespace L2
open PySem PySem.Spec PyProof.Rows
/-! ## set(xs), and the walk over a set -/
def byTx (w : World) : Bool := w.params.followText "set-order"
section
variable {prog : Program} {w : World} {A : Around} {E : Value → Shared → Prop} {s : Shared}
def set0 (w : World) : Obj := { cls := .type "set", dict := none, data := .set #[] 0 (.fresh 0 0 (!byTx w)), slots := #[] }
/-! ### the iterator -/
def sit (a : Addr) (sl i n ep : Nat) : Obj := { cls := .type "set_iterator", dict := none, data := .fields #[rawInt (sl : Int), rawInt (i : Int), .ref a, rawInt (n : Int), rawInt (ep : Int)], slots := #[] }
/-- the order in which a set is walked -/
def walk5 (w : World) (a : Addr) (ep : Nat) (es : Array (Int × Value)) : Array (Int × Value) := if byTx w then pickOrder (w.params.setOrder a ep) es else es
def slotW (w : World) (P : List Nat) (i : Nat) : Nat := if byTx w then 0 else slot5 P i
end
/-! ### the rule -/
section
variable {X : Cx}
def tSortSet (K : PySem.W.Frag) (ta : TA) : TE := fun σ H Q => ta σ H fun vs H1 => ∃ (p : Addr) (ns : List Nat), vs = [.ref p] ∧ SqL K H1 p (ns.map fun (n : Nat) => V.int (n : Int)) ∧ (∀ v ∈ ns, v ∈ [1, 2, 3, 4, 5]) ∧
  ∀ (P : List Nat) (l : Addr), P.Pairwise (· < ·) → P.length ≤ 5 → (∀ v, v ∈ P ↔ v ∈ ns) → H1 l = none → Q (.ref l) (upd H1 l (.lst (P.map fun (n : Nat) => V.int (n : Int))))
end
end L2

set_option Elab.async false
set_option linter.all false
set_option maxRecDepth 100000
set_option maxHeartbeats 4000000
namespace L2
open PySem PySem.Spec PyProof.Rows
/-! ## a lambda made in a def, and sorted by it -/
/-- what the making of a lambda wants of the base: the def's code object c, its table at P; the built-ins' module -/
structure LamB (mg : Str → Option Value) (base : Heap) (c P : Addr) : Prop where
  hd : PySem.W.CodeHd base c P
  bm : ∃ bm ob, mg "__builtins__" = some (.ref bm) ∧ bm ≠ builtinsNs ∧ base.get? bm = some ob ∧ ob.cls = .type "module" ∧ ob.dict = some builtinsNs ∧ ob.data = .plain
/-- a code object, by its name -/
def CodeO (d : Addr) (q : Str) : HO := .ext fun h => h.CodeRec (.ref d) q
def lamTab (pos : Pos) (d : Addr) : Array Value := #[rawInt pos.line, rawInt pos.col, .ref d]
/-- the table: still empty, or the lambda's code object stands in it -/
def LamT (P : Addr) (pos : Pos) (q : Str) (H : Hp) : Prop := H P = some (.tbl #[]) ∨ ∃ d, H P = some (.tbl (lamTab pos d)) ∧ H d = some (CodeO d q)
/-- all that was tracked is as it was, but code tables -/
def SameT (H H' : Hp) : Prop := ∀ b o, H b = some o → H' b = some o ∨ ∃ ps ps', o = .tbl ps ∧ H' b = some (.tbl ps')
theorem Same.t {H H' : Hp} (h : Same H H') : SameT H H' := fun b o e => .inl (h b o e)
theorem SameT.get {H H' : Hp} {b : Addr} {o : HO} (h : SameT H H') (e : H b = some o) (n : ∀ ps, o ≠ .tbl ps) : H' b = some o := by
  rcases h b o e with z | ⟨ps, _, z, _⟩
  · exact z
  · exact absurd z (n ps)
theorem SameT.free {H H' : Hp} {l : Addr} (h : SameT H H') (n : H' l = none) : H l = none := by
  cases e : H l with
  | none => rfl
  | some o =>
    rcases h l o e with z | ⟨_, _, _, z⟩
    · rw [z] at n; cases n
    · rw [z] at n; cases n
theorem SameT.trans {H H1 H2 : Hp} (a : SameT H H1) (b : SameT H1 H2) : SameT H H2 := fun c o e => by
  rcases a c o e with z | ⟨ps, ps', z1, z2⟩
  · exact b c o z
  · rcases b c _ z2 with z | ⟨qs, qs', _, z⟩
    · exact .inr ⟨ps, ps', z1, z⟩
    · exact .inr ⟨ps, qs', z1, z⟩
theorem LamT.same {P : Addr} {pos : Pos} {q : Str} {H H' : Hp} (h : LamT P pos q H) (s : Same H H') : LamT P pos q H' := by
  rcases h with e | ⟨d, e, ec⟩
  · exact .inl (s _ _ e)
  · exact .inr ⟨d, s _ _ e, s _ _ ec⟩
theorem LamT.write {P x : Addr} {pos : Pos} {q : Str} {H : Hp} {u o : HO} (h : LamT P pos q H) (hx : H x = some u) (n1 : ∀ ps, u ≠ .tbl ps) (n2 : ∀ φ, u ≠ .ext φ) : LamT P pos q (upd H x o) := by
  rcases h with e | ⟨d, e, ec⟩
  · refine .inl ?_
    rw [upd_ne (fun z => by rw [z, hx] at e; exact n1 _ (Option.some.inj e))]; exact e
  · refine .inr ⟨d, ?_, ?_⟩
    · rw [upd_ne (fun z => by rw [z, hx] at e; exact n1 _ (Option.some.inj e))]; exact e
    · rw [upd_ne (fun z => by rw [z, hx] at ec; exact n2 _ (Option.some.inj ec))]; exact ec
theorem LamT.new {P x : Addr} {pos : Pos} {q : Str} {H : Hp} {o : HO} (h : LamT P pos q H) (hx : H x = none) : LamT P pos q (upd H x o) := h.same (same_new hx o)
section
variable {X : Cx} {pins : List (Addr × Obj)} {σ : St} {H : Hp} {s : Shared} {h' : Heap}
/-- a table has grown, the new code object is tracked -/
theorem Inv.grown {P d : Addr} {ps more : Array Value} {q : Str} {t' : Nat} (I : Inv X pins σ H s) (hP : H P = some (.tbl ps)) (k : ∀ b o, b ≠ P → s.heap.get? b = some o → h'.get? b = some o)
    (hP' : h'.get? P = some { cls := .none, data := .fields (ps ++ more) }) (hc : s.heap.objs.size ≤ d) (hcd : h'.CodeRec (.ref d) q) :
    Inv X pins σ (upd (upd H P (.tbl (ps ++ more))) d (CodeO d q)) { s with heap := h', toks := t' } := by
  have cP : d ≠ P := fun z => by
    have := I.hok.lt hP
    rw [z] at hc
    exact absurd this (Nat.not_lt.mpr hc)
  have nc : H d = none := I.hok.fresh hc
  have same : ∀ b, b ≠ P → b ≠ d → upd (upd H P (.tbl (ps ++ more))) d (CodeO d q) b = H b := fun b h1 h2 => by rw [upd_ne h2, upd_ne h1]
  have atP : upd (upd H P (.tbl (ps ++ more))) d (CodeO d q) P = some (.tbl (ps ++ more)) := by rw [upd_ne (Ne.symm cP), upd_same]
  have nd : ∀ {b : Addr} {u : HO}, H b = some u → b ≠ d := fun e => ne_of_none e nc
  have nP : ∀ {b : Addr}, H b = none → b ≠ P := fun e z => by rw [z, hP] at e; cases e
  have ns : ∀ {b : Addr} {o : Obj}, s.heap.get? b = some o → b ≠ d := fun e z => by
    have := Heap.lt_size e
    rw [z] at this
    exact absurd this (Nat.not_lt.mpr hc)
  refine I.un ⟨fun b o e n _ _ => k b o (nP n) e, fun b o e n _ _ => ⟨o.slots, k b o (nP n) e⟩, fun b o e n _ => by rw [same b (nP n) (ns e)]; exact n, fun b o e _ => ?_, fun b xs e => ?_, fun b o u e => ?_, fun b qs e => ?_⟩ fun b u e => ?_
  · by_cases hb : b = P
    · subst hb; exact ⟨_, hP'⟩
    · exact ⟨o, k b o hb e⟩
  · rw [same b (fun z => by rw [z, hP] at e; cases e) (nd e)]; exact e
  · rw [same b (fun z => by rw [z, hP] at e; cases e) (nd e)]; exact e
  · by_cases hb : b = P
    · subst hb
      rw [hP] at e; cases e
      exact ⟨more, atP⟩
    · exact ⟨#[], by rw [same b hb (nd e), e]; simp⟩
  · by_cases hd : b = d
    · subst hd
      rw [upd_same] at e
      cases e
      obtain ⟨c, o, vs, t, e1, e2, e3⟩ := id hcd
      cases e1
      exact ⟨hcd, ⟨o, e2⟩, fun h1 h2 z kk => let ⟨c, o, vs, t, e1, e2, e3⟩ := z; by cases e1; exact ⟨b, o, vs, t, rfl, kk o e2, e3⟩⟩
    · by_cases hb : b = P
      · subst hb
        rw [atP] at e; cases e
        exact hP'
      · rw [same b hb hd] at e
        refine (I.hok b u e).stay (fun x v hx z => k x v ?_ z) (fun x z => ?_) fun x xs z => ?_
        · rcases hx with rfl | hx
          · exact hb
          · exact fun y => by rw [y, hP] at hx; cases hx
        · rw [same x (fun y => by rw [y, hP] at z; cases z) (nd z)]; exact z
        · rw [same x (fun y => by rw [y, hP] at z; cases z) (nd z)]; exact z
theorem Inv.code {d : Addr} {q : Str} (I : Inv X pins σ H s) (h : H d = some (CodeO d q)) : s.heap.CodeRec (.ref d) q := (show ObjOk X.prog X.w H s.heap d (CodeO d q) from I.hok d _ h).1
/-- a lambda is made -/
theorem mk_lam {c P : Addr} {params : Arguments} {body : Expr} {scope : Scope} {pos : Pos} {clos : List (Str × Addr)} {q : Str} {Q : Value → Shared → Prop} (I : Inv X pins σ H s) (B : LamB X.mg X.base c P) (hcode : X.env.code = .ref c) (hq : X.env.qual ++ "<lambda>" = q) (hT : LamT P pos q H)
    (hcl : closureFor scope X.env = pure clos) (hdef : defaultsOf params X.env = ([], []))
    (h : ∀ f d ctv pm h' tk H', Inv X pins σ H' { s with heap := h', toks := tk } → s.heap.objs.size ≤ f → h'.get? f = some (PySem.W.kla_obj "<lambda>" q params body scope clos pm d ctv) → H' d = some (CodeO d q) → LamT P pos q H' → SameT H H' → H' f = none →
      Q (.ref f) { s with heap := h', toks := tk }) :
    wpAny (model X.prog X.w) X.A (eval (.Lambda params body scope pos) X.env) Q X.xe s := by
  refine PySem.W.kla_eval hdef ?_
  rw [hq]
  have hns := I.ok.mod.glob.keeps I.bk
  obtain ⟨bm, ob, b1, b2, b3, b4, b5, b6⟩ := B.bm
  have hbG : bm ≠ mainGlobals := fun z => by
    obtain ⟨o, es, ep, e, hd, _⟩ := hns
    rw [z] at b3
    rw [I.bk _ _ b3] at e; cases e
    rw [hd] at b6; cases b6
  have tabP : ∀ {ps : Array Value}, H P = some (.tbl ps) → s.heap.get? P = some (PySem.W.tabObj ps) := fun e => (show ObjOk X.prog X.w H s.heap P (.tbl _) from I.hok P _ e)
  have hgP : ∀ {ps : Array Value}, H P = some (.tbl ps) → mainGlobals ≠ P := fun e z => by
    obtain ⟨o, es, ep, e1, hd, _⟩ := hns
    rw [z, tabP e] at e1; cases e1; cases hd
  have hbP : ∀ {ps : Array Value}, H P = some (.tbl ps) → bm ≠ P := fun e z => by
    have e1 := I.bk _ _ b3
    rw [z, tabP e] at e1; cases e1; cases b4
  rcases hT with e | ⟨d, e, ec⟩
  · refine PySem.W.kla_makeFunction (mg := X.mg) hcl I.ok.glob hns hcode (B.hd.keeps I.bk) (tabP e) trivial rfl (hgP e) ⟨bm, ob, b1, b2, hbG, hbP e, I.bk _ _ b3, b4, b5, b6⟩ fun d ctv h' tk hx hge hlt hrec htb => ?_
    have J := I.grown (t' := tk) e (fun b o hb z => hx b o hb z) htb hge hrec
    have J2 := J.kept (t' := tk) (h' := h'.push (PySem.W.kla_obj "<lambda>" q params body scope clos ((X.mg "__name__").getD .none) d ctv)) fun b o z => Heap.get?_push_of_some _ z
    have hdP : d ≠ P := fun z => by
      have := I.hok.lt e
      rw [z] at hge
      exact absurd this (Nat.not_lt.mpr hge)
    have hfr : upd (upd H P (.tbl (#[] ++ #[rawInt pos.line, rawInt pos.col, .ref d]))) d (CodeO d q) h'.objs.size = none := J.hok.fresh (Nat.le_refl _)
    refine h h'.objs.size d ctv _ _ tk _ J2 (Nat.le_trans hge (Nat.le_of_lt hlt)) (Heap.get?_push_size _ rfl) upd_same (.inr ⟨d, ?_, upd_same⟩) (fun b o z => ?_) hfr
    · rw [upd_ne (Ne.symm hdP), upd_same]
      rfl
    · rw [upd_ne (ne_of_none z (I.hok.fresh hge))]
      by_cases y : b = P
      · subst y
        rw [e] at z
        exact .inr ⟨_, _, (Option.some.inj z).symm, upd_same⟩
      · rw [upd_ne y]
        exact .inl z
  · refine PySem.W.kla_makeFunctionHit (mg := X.mg) (cv := .ref d) hcl I.ok.glob hns hcode (B.hd.keeps I.bk) (tabP e) trivial ?_ ⟨bm, ob, b1, b2, hbG, hbP e, I.bk _ _ b3, b4, b5, b6⟩ fun ctv h' tk hk hsz => ?_
    · simp [lamTab, codeAmong, rawInt]
    have J := I.kept (t' := tk) (h' := h'.push { cls := .type "function", data := .func (PySem.W.kla_fn "<lambda>" q params body scope clos ((X.mg "__name__").getD .none) (.ref d) ctv) }) fun b o z => Heap.get?_push_of_some _ (hk b o z)
    exact h h'.objs.size d ctv _ _ tk H J hsz (Heap.get?_push_size _ rfl) ec (.inr ⟨d, e, ec⟩) (fun b o z => .inl z) (I.hok.fresh hsz)
/-- the context of a lambda's body: one parameter x, one name y of the def around it -/
def lamX (X : Cx) (A : Around) (s : Shared) (H : Hp) (q : Str) (scope : Scope) (f d : Addr) (x y : Str) (cy : Addr) : Cx where
  prog := X.prog
  w := X.w
  K := X.K
  mg := X.mg
  base := X.base
  A := A.deeper (PySem.W.envX q scope s.heap.objs.size f (.ref d) [(y, cy)])
  N := [x, y]
  s₀ := s
  H₀ := H
  env := PySem.W.envX q scope s.heap.objs.size f (.ref d) [(y, cy)]
  outer := X.stack
  stack := PySem.W.envX q scope s.heap.objs.size f (.ref d) [(y, cy)] :: X.stack
  ex := []
  fn := fun _ => false
  calm := true
  pn := []
  xe := fun _ _ => False
/-- the shape of a lambda's scope -/
structure LamS (scope : Scope) (x y : Str) : Prop where
  kind : scope.kind = .function
  co : scope.isCoroutine = false
  gen : scope.isGenerator = false
  hx : scope.names.lookup x = some .local
  hy : scope.names.lookup y = some .free
  nc : ∀ z ∈ scope.names, z.2 ≠ .cell
  fr : ∀ z ∈ scope.names, z.2 = .free → z.1 = y
theorem run_lam {A : Around} {k : Nat} {x y : Str} {cy f d : Addr} {q : Str} {params : Arguments} {body : Expr} {scope : Scope} {pm ctv : Value} {iy : Nat} {vy vx : V} {ux : Value} {te : TE} {Q : VK} {E : Value → Shared → Prop} (I : Inv X pins σ H s)
    (hA : A.frames = some X.stack) (hr : Room (k + 1) A) (hf : s.heap.get? f = some (PySem.W.kla_obj "<lambda>" q params body scope [(y, cy)] pm d ctv)) (hcd : s.heap.CodeRec (.ref d) q) (S : LamS scope x y)
    (hcy : X.env.cells.lookup y = some cy) (hky : X.env.scope.names.lookup y = some .cell) (hN : X.N[iy]? = some y) (hvy : σ[iy]? = some (some vy))
    (hbind : bindArgs (PySem.W.kla_fn "<lambda>" q params body scope [(y, cy)] pm (.ref d) ctv) ⟨[ux], []⟩ = pure [(x, ux)]) (rx : RelV vx ux)
    (hb : PE (lamX X A s H q scope f d x y cy) body te) (h : te [some vx, some vy] H Q) : wpAny (model X.prog X.w) A (call (.ref f) [ux]) (EP X pins σ Q) E s := by
  refine wpAny_call ?_
  refine PySem.W.kla_callFunE hr.depth hf rfl S.co S.gen rfl hcd ?_
  rw [hbind]
  refine wpAny_pure (wpAny_newFunctionEnv S.nc (fun z hz => ?_) (fun h₁ hns hsb => ⟨I.nolimit.fresh _ hsb, ?_⟩) S.kind)
  · have e : z = (x, ux) := by simpa using hz
    subst e
    exact S.hx
  have hk : ∀ b o, s.heap.get? b = some o → h₁.get? b = some o := fun b o e => hsb.extBut b o (Nat.ne_of_lt (Heap.lt_size e)) (Heap.get?_push_of_some _ e)
  have Jok : (lamX X A s H q scope f d x y cy).Ok := by
    refine ⟨I.ok.mod, S.kind, rfl, rfl, Nat.le_refl _, fun z z' c h1 h2 => ?_, fun z hz => ?_, fun z c hz _ => absurd (show false = true from hz) Bool.false_ne_true, fun _ => hr.hd, Around.frames_deeper hA, .inr ⟨rfl, rfl⟩, fun b hb => absurd (show b ∈ ([] : List Addr) from hb) (by simp), I.bs, Nat.le_trans I.ok.bsz I.sz,
      fun b _ _ hb => absurd (show b ∈ ([] : List Addr) from hb) (by simp), fun b hb => absurd (show b ∈ ([] : List Addr) from hb) (by simp), I.stack, I.stkFree⟩
    · have m1 := PySem.mem_of_lookup h1
      have m2 := PySem.mem_of_lookup h2
      have e1 : (z, c) = (y, cy) := by simpa using (show (z, c) ∈ [(y, cy)] from m1)
      have e2 : (z', c) = (y, cy) := by simpa using (show (z', c) ∈ [(y, cy)] from m2)
      rw [(Prod.mk.inj e1).1, (Prod.mk.inj e2).1]
    · have hz' : scope.names.lookup z = some .cell ∨ scope.names.lookup z = some .free := hz
      rcases hz' with hz | hz
      · exact absurd rfl (S.nc _ (PySem.mem_of_lookup hz))
      · have e : z = y := S.fr _ (PySem.mem_of_lookup hz) rfl
        subst e
        exact ⟨cy, by show List.lookup z [(z, cy)] = _; simp [List.lookup]⟩
  have J : Inv (lamX X A s H q scope f d x y cy) [] [some vx, some vy] H { s with heap := h₁, toks := s.toks + [(x, ux)].length } := by
    refine ⟨Jok, rfl, I.bare, Un.kept hk, ⟨_, hns, fun i z v h1 h2 h3 => ?_⟩, fun z c hz => ?_, I.hok.fresh (Nat.le_refl _), fun z c hz => ?_, fun p hp => absurd (show p ∈ ([] : List (Addr × Obj)) from hp) (by simp), I.hok.kept hk, rfl⟩
    · match i with
      | 0 =>
        have e1 : x = z := by simpa using (show [x, y][0]? = some z from h1)
        have e2 : vx = v := by simpa using h2
        subst e1; subst e2
        exact ⟨ux, rx, .inl ⟨S.hx, by simp [List.lookup]⟩⟩
      | 1 =>
        have e1 : y = z := by simpa using (show [x, y][1]? = some z from h1)
        have e2 : vy = v := by simpa using h2
        subst e1; subst e2
        obtain ⟨m, hn, hl⟩ := I.loc
        obtain ⟨u, ru, lk⟩ := hl iy y vy hN hvy (.inr (.inl hky))
        refine ⟨u, ru, .inr ⟨.inr S.hy, cy, by show List.lookup y [(y, cy)] = _; simp [List.lookup], ?_⟩⟩
        rcases lk with ⟨kl, _⟩ | ⟨_, c2, hc2, ic⟩
        · have kl' : X.env.scope.names.lookup y = some .local := kl
          rw [hky] at kl'; cases kl'
        · rw [hcy] at hc2; cases hc2
          obtain ⟨o, eo, hd⟩ := ic
          exact ⟨o, hk _ _ eo, hd⟩
      | i + 2 => exact absurd (show ([some vx, some vy] : List (Option V))[i + 2]? = some (some v) from h2) (by simp)
    · have e1 : (z, c) = (y, cy) := by simpa using (show (z, c) ∈ [(y, cy)] from PySem.mem_of_lookup hz)
      obtain ⟨v, o, eo, hd⟩ := I.cell y cy hcy
      rw [(Prod.mk.inj e1).2]
      exact ⟨v, o, hk _ _ eo, hd⟩
    · have e1 : (z, c) = (y, cy) := by simpa using (show (z, c) ∈ [(y, cy)] from PySem.mem_of_lookup hz)
      rw [(Prod.mk.inj e1).2]
      exact I.freeC y cy hcy
  refine PySem.W.kla_codeExpr (wpAny_mono (hb [] _ _ H Q J h) (fun u s' hs => ?_) fun _ _ hF => hF.elim)
  obtain ⟨v, H', J', rv, qv⟩ := hs
  exact I.after ⟨v, H', J'.os, J'.bare, J'.base, J'.hok, rv, qv⟩
end
end L2

set_option Elab.async false
set_option linter.all false
set_option maxRecDepth 100000
set_option maxHeartbeats 4000000
namespace L2
open PySem PySem.Spec PyProof.Rows
section
variable {prog : Program} {w : World} {A : Around} {E : Value → Shared → Prop} {s : Shared}
/-- the items of a range -/
theorem collect_rng {r : Addr} {a b c : Int} {t u v : Tok} {n : Nat} {R : List Value → Shared → Prop} (hh : A.handled = none) (hr : IsRange s.heap r a b c t u v) (hsm : Builtin.Range.small a b c = true) (hn : Builtin.Range.rangeSize a b c = n) (hl : n ≤ 2 ^ 24)
    (h : ∀ (h' : Heap) (tk : Nat) (its : Array Value), (∀ b o, s.heap.get? b = some o → h'.get? b = some o) → s.heap.objs.size ≤ h'.objs.size → ItemsOf (fun i v => ∃ t, v = .int (a + i * c) t) its n → R its.toList { s with heap := h', toks := tk }) :
    wpAny (model prog w) A (collect (.ref r)) R E s := by
  unfold collect
  refine wpAny_bind (wpAny_runValue (codeAny_builtin F.entry_proto_collect ?_))
  rw [Around.under_plainId PySem.F.plain_proto_collect _]
  refine wpAny_bind (wpAny_newObj_type ?_)
  refine wpAny_pure ⟨plainId_quiet PySem.F.plain_list_iadd _, codeAny_builtin F.entry_list_iadd ?_⟩
  rw [Around.under_plainId PySem.F.plain_list_iadd _]
  have hS : (s.heap.push { cls := .type "list", data := .seq ([] : List Value).toArray }).get? s.heap.objs.size = some { cls := .type "list", data := .seq #[] 0 } := Heap.get?_push_size _ rfl
  have key := wpAny_extend_range (prog := prog) (w := w) (A := A) (s := { s with heap := s.heap.push { cls := .type "list", data := .seq ([] : List Value).toArray } })
    (R := fun (z : Result) (s' : Shared) => ∃ (h' : Heap) (tk : Nat) (its : Array Value) (e : Nat), z = .ok (.ret (.ref s.heap.objs.size)) ∧ s' = { s with heap := h', toks := tk } ∧
      (∀ b o, s.heap.get? b = some o → h'.get? b = some o) ∧ h'.get? s.heap.objs.size = some { cls := .type "list", dict := none, data := .seq its e, slots := #[] } ∧ ItemsOf (fun i v => ∃ t, v = .int (a + i * c) t) its n)
    hh (Heap.get?_push_of_some _ hr) hsm hn hl s.heap.objs.size (.ref s.heap.objs.size) 0 hS
    fun h' tk its e hk hS' ha => ⟨h', tk, its, e, rfl, rfl, fun b o q => hk b o (Nat.ne_of_lt (Heap.lt_size q)) (Heap.get?_push_of_some _ q), hS', ha⟩
  refine wpAny_mono key (fun fin s' x => ?_) fun e s' x => ?_
  · cases fin with
    | done z =>
      obtain ⟨h', tk, its, e, q, rfl, hk, hS', ha⟩ := x
      cases q
      exact wpAny_bind (wpAny_load hS' (wpAny_pure (h h' tk its hk (Nat.le_of_lt (Heap.lt_size hS')) ha)))
    | again c₁ =>
      refine ⟨x.1, codeAny_mono x.2 fun q s₂ y => ?_⟩
      obtain ⟨h', tk, its, e, rfl, rfl, hk, hS', ha⟩ := y
      exact wpAny_bind (wpAny_load hS' (wpAny_pure (h h' tk its hk (Nat.le_of_lt (Heap.lt_size hS')) ha)))
  · obtain ⟨_, _, _, _, q, _⟩ := x
    cases q
end
theorem items_ints {n : Nat} {its : Array Value} (h : ItemsOf (fun i v => ∃ t, v = Value.int (0 + i * 1) t) its n) : its.size = n ∧ ∀ (i : Nat) (v : Value), its.toList[i]? = some v → ∃ t, v = .int (i : Int) t := by
  refine ⟨h.1, fun i v e => ?_⟩
  obtain ⟨t, z⟩ := h.2 i v (by simpa using e)
  exact ⟨t, by rw [z]; congr 1; omega⟩
def ivl : Value → Int
  | .int i _ => i
  | _ => 0
theorem vals_ivl : ∀ {l : List Value}, (∀ v ∈ l, ∃ i t, v = Value.int i t) → Vals ((l.map ivl).map V.int) l
  | [], _ => .nil
  | v :: r, h => by
    obtain ⟨i, t, rfl⟩ := h v List.mem_cons_self
    exact .cons ⟨t, rfl⟩ (vals_ivl fun x hx => h x (List.mem_cons_of_mem _ hx))
section
variable {X : Cx} {pins : List (Addr × Obj)} {σ : St} {H : Hp} {s : Shared}
/-- sorted(range(n), key=f, reverse=True): f's answers, one by one -/
theorem sort_by {p f : Addr} {n : Nat} {kf : Nat → Int} {E : Value → Shared → Prop} {Q : Value → Shared → Prop} (I : Inv X pins σ H s) (hc : X.calm = true) (hp : H p = some (.rng 0 n)) (h64 : n < 64)
    (turn : ∀ (i : Nat) (u : Value) (H' : Hp) (s' : Shared) (more : List (Addr × Obj)), i < n → RelV (.int i) u → Same H H' → Inv X (pins ++ more) σ H' s' →
      wpAny (model X.prog X.w) X.A.in1.in1 (call (.ref f) [u]) (EP X (pins ++ more) σ fun v H'' => v = .int (kf i) ∧ Same H' H'') (fun _ _ => False) s')
    (h : ∀ (ms : List Int) (l : Addr) (H' : Hp) (s' : Shared), Inv X pins σ (upd H' l (.lst (ms.map V.int))) s' → Same H H' → H' l = none → ms.Perm ((List.range n).map fun (i : Nat) => (i : Int)) → ms.Pairwise (fun a b => kf b.toNat ≤ kf a.toNat) → Q (.ref l) s') :
    wpAny (model X.prog X.w) X.A (call (.builtin "sorted") [.ref p] [(Str.ofString "key", .ref f), (Str.ofString "reverse", .bool true)]) Q E s := by
  obtain ⟨t, u, v, hr⟩ := (show ObjOk X.prog X.w H s.heap p (.rng 0 n) from I.hok p _ hp)
  have hrs : Builtin.Range.rangeSize 0 (n : Int) 1 = (n : Int) := by rw [rangeSize_one]; split <;> omega
  refine call_function_entry_kw kind_sorted plain_sorted entry_sorted (ksk_s2 _ _ _) ?_
  unfold Builtin.«sorted»
  refine wpAny_bind (m := checkCount "sorted" 1 1 _) (wpAny_pure ?_)
  refine wpAny_bind (collect_rng (A := X.A.in1) (I.ok.hd hc) (show IsRange s.heap p 0 n 1 t u v from hr) (small_one (by omega) (by omega) (by omega) (by omega)) hrs (by omega) fun h1 tk1 its hk1 hz1 hit => ?_)
  obtain ⟨hsz, hget⟩ := items_ints hit
  have hlen : its.toList.length = n := by rw [Array.length_toList, hsz]
  have h1000 : n ≤ sizeLine := Nat.le_of_lt (small1000 (by omega))
  refine wpAny_bind (wpAny_newList ?_ (by rw [hlen]; exact h1000))
  -- the list, at a
  obtain ⟨a, ha⟩ : ∃ a, a = h1.objs.size := ⟨_, rfl⟩
  obtain ⟨h2, hh2⟩ : ∃ h2, h2 = h1.push (seqObj "list" its.toList.toArray 0) := ⟨_, rfl⟩
  have z2 : h2.objs.size = a + 1 := by rw [hh2, ha, size_push']
  have hoL : h2.get? a = some (seqObj "list" its.toList.toArray 0) := by rw [hh2, ha]; exact Heap.get?_push_size _ rfl
  have hsa : s.heap.objs.size ≤ a := by rw [ha]; exact hz1
  have Fa : FpOk X pins H a := I.fpOk hsa (I.hok.fresh hsa)
  have I2 : Inv X pins σ H { s with heap := h2, toks := tk1 } := I.kept fun b o q => by rw [hh2]; exact Heap.get?_push_of_some _ (hk1 b o q)
  show wpAny _ _ _ _ _ { s with heap := h1.push (seqObj "list" its.toList.toArray 0), toks := tk1 }
  rw [← ha, ← hh2]
  refine wpAny_bind (wpAny_holding (wpAny_call_entry_kw slot_list_sort ⟨_, hoL, rfl⟩ entry_list_sort ?body (ksk_l2 _ _ _)))
  case body =>
    show wpAny (model X.prog X.w) X.A.in1.in1 (Builtin.«list.sort» ⟨[.ref a], [(Str.ofString "key", .ref f), (Str.ofString "reverse", .bool true)]⟩) _ _ _
    rw [ksk_t2]
    unfold ksk_tree
    refine wpAny_bind (listItems_at hoL rfl ?_)
    refine wpAny_bind (listUpdate_at hoL rfl ?_ (by rw [List.size_toArray, hlen]; exact h1000) (Nat.zero_le _))
    obtain ⟨h3, hh3⟩ : ∃ h3, h3 = h2.update a (Obj.mapSeq fun _ => (#[] : Array Value)) := ⟨_, rfl⟩
    have sb3 : Heap.SameBut a h2 h3 := by rw [hh3]; exact Heap.SameBut.update _ _ _
    have z3 : h3.objs.size = a + 1 := by rw [hh3, Heap.size_update, z2]
    obtain ⟨e1, ho1⟩ : ∃ e1, h3.get? a = some (seqObj "list" #[] e1) := by rw [hh3]; exact ⟨_, get?_update_seq hoL fun _ => #[]⟩
    rw [← hh3]
    have I3 : Inv X pins σ H { s with heap := h3, toks := tk1 } := Inv.turned (s := { s with heap := h2, toks := tk1 }) (h' := h3) (t' := tk1) (it := a) I2 (fun b o hb q => (sb3.2 b hb).trans q) Fa.1 Fa.2.1 Fa.2.2.2.1 Fa.2.2.2.2.1 Fa.2.2.2.2.2
    refine wpAny_bind (seqEpoch_at ho1 rfl ?_)
    refine wpAny_bind (wpAny_newTuple ?_ (by show its.toList.toArray.toList.length ≤ _; rw [List.toList_toArray, hlen]; exact h1000))
    refine wpAny_bind (wpAny_newList ?_ (Nat.zero_le _))
    refine wpAny_holding ?_
    -- the keys, at kS
    obtain ⟨h4, hh4⟩ : ∃ h4, h4 = h3.push (seqObj "tuple" its.toList.toArray.toList.toArray 0) := ⟨_, rfl⟩
    obtain ⟨h5, hh5⟩ : ∃ h5, h5 = h4.push (seqObj "list" ([] : List Value).toArray 0) := ⟨_, rfl⟩
    obtain ⟨kS, hkS⟩ : ∃ kS, kS = h4.objs.size := ⟨_, rfl⟩
    have zk : kS = a + 2 := by rw [hkS, hh4, size_push', z3]
    have hsk : s.heap.objs.size ≤ kS := by omega
    have hka : kS ≠ a := by omega
    have Fk : FpOk X pins H kS := I.fpOk hsk (I.hok.fresh hsk)
    have I5 : Inv X pins σ H { s with heap := h5, toks := tk1 } := (Inv.kept (s := { s with heap := h3, toks := tk1 }) (t' := tk1) (h' := h5) I3 fun b o q => by rw [hh5, hh4]; exact Heap.get?_push_of_some _ (Heap.get?_push_of_some _ q))
    have oK : h5.get? kS = some (seqObj "list" #[] 0) := by rw [hh5, hkS]; exact Heap.get?_push_size _ rfl
    have oA : h5.get? a = some (seqObj "list" #[] e1) := by rw [hh5, hh4]; exact Heap.get?_push_of_some _ (Heap.get?_push_of_some _ ho1)
    show wpAny _ _ _ _ _ { s with heap := (h3.push (seqObj "tuple" its.toList.toArray.toList.toArray 0)).push (seqObj "list" ([] : List Value).toArray 0), toks := tk1 }
    rw [← hh4, ← hh5, ← hkS]
    have pinIn : ∀ {kA : Array Value} {e : Nat} {H' : Hp} {s' : Shared}, Inv X pins σ H' s' → s'.heap.get? kS = some (seqObj "list" kA e) → H' kS = none → s'.heap.get? a = some (seqObj "list" #[] e1) → H' a = none →
        Inv X (pins ++ [(kS, seqObj "list" kA e), (a, seqObj "list" #[] e1)]) σ H' s' := fun {kA e H' s'} J q1 q2 q3 q4 => J.pins_of fun z hz => by
      rcases List.mem_append.mp hz with hz | hz
      · exact J.pin z (List.mem_append_right _ hz)
      · rcases List.mem_cons.mp hz with rfl | hz
        · exact ⟨q1, q2, Fk.2.1, Fk.2.2.1, fun v q => nomatch q⟩
        · rw [List.mem_singleton.mp hz]
          exact ⟨q3, q4, Fa.2.1, Fa.2.2.1, fun v q => nomatch q⟩
    unfold ksk_rest
    refine wpAny_bind (wpAny_rule ?_)
    rw [List.forIn_toArray]
    refine wpAny_bind (ksk_fold (fun i s' => ∃ H' kA e, Inv X (pins ++ [(kS, seqObj "list" kA e), (a, seqObj "list" #[] e1)]) σ H' s' ∧ Same H H' ∧ IntsAre kA.toList (((List.range n).map kf).take i)) its.toList 0 _
      ⟨H, #[], 0, pinIn I5 oK Fk.1 oA Fa.1, Same.refl H, by simpa using IntsAre.nil⟩ ?step ?done)
    case step =>
      rintro j x s' hx ⟨H', kA, e, J, sm, hk⟩
      simp only [Nat.zero_add] at hk ⊢
      have hj : j < n := by rw [← hlen]; exact (List.getElem?_eq_some_iff.mp hx).1
      obtain ⟨tx, rfl⟩ := hget j x hx
      refine wpAny_bind (wpAny_attempt (wpAny_mono (turn j _ H' s' _ hj ⟨tx, rfl⟩ sm J) (fun v s'' he => ?_) fun _ _ hF => hF.elim))
      obtain ⟨v', H'', J'', rv, ⟨rfl, sm''⟩⟩ := he
      obtain ⟨t2, rfl⟩ := rv
      obtain ⟨k1, k2, _⟩ := J''.pin (kS, seqObj "list" kA e) (List.mem_append_right _ (List.mem_append_right _ List.mem_cons_self))
      obtain ⟨a1, a2, _⟩ := J''.pin (a, seqObj "list" #[] e1) (List.mem_append_right _ (List.mem_append_right _ (List.mem_cons_of_mem _ List.mem_cons_self)))
      have hz : kA.size ≤ n := by
        have q1 := hk.length
        rw [Array.length_toList, List.length_take, List.length_map, List.length_range] at q1
        omega
      refine wpAny_bind (listUpdate_at k1 rfl ?_ (by omega) (Nat.le_trans (Nat.le_of_eq (Array.size_push ..)) (by omega)))
      have sb := Heap.SameBut.update s''.heap kS (Obj.mapSeq (·.push (.int (kf j) t2)))
      obtain ⟨c2, hc2⟩ : ∃ c2, (s''.heap.update kS (Obj.mapSeq (·.push (.int (kf j) t2)))).get? kS = some (seqObj "list" (kA.push (.int (kf j) t2)) c2) := ⟨_, get?_update_seq k1 (·.push (.int (kf j) t2))⟩
      have ek : ((List.range n).map kf).take (j + 1) = ((List.range n).map kf).take j ++ [kf j] := by
        rw [List.take_add_one, List.getElem?_map, List.getElem?_range hj]
        rfl
      have J3 : Inv X pins σ H'' { s'' with heap := s''.heap.update kS (Obj.mapSeq (·.push (.int (kf j) t2))) } := J''.unpinned.turned (t' := s''.toks) (it := kS) (fun b o hb q => (sb.2 b hb).trans q) k2 Fk.2.1 Fk.2.2.2.1 Fk.2.2.2.2.1 Fk.2.2.2.2.2
      exact wpAny_pure ⟨rfl, H'', kA.push (.int (kf j) t2), c2, pinIn J3 hc2 k2 ((sb.2 a hka.symm).trans a1) a2, sm.trans sm'', by rw [Array.toList_push, ek]; exact ksk_snoc hk⟩
    case done =>
      rintro s' ⟨H', kA, e, J, sm, hk⟩
      have hk' : IntsAre kA.toList ((List.range n).map kf) := by
        have q : ((List.range n).map kf).take (0 + its.toList.length) = (List.range n).map kf := List.take_of_length_le (by rw [List.length_map, List.length_range]; omega)
        rw [q] at hk
        exact hk
      obtain ⟨k1, k2, _⟩ := J.pin (kS, seqObj "list" kA e) (List.mem_append_right _ (List.mem_append_right _ List.mem_cons_self))
      obtain ⟨a1, a2, _⟩ := J.pin (a, seqObj "list" #[] e1) (List.mem_append_right _ (List.mem_append_right _ (List.mem_cons_of_mem _ List.mem_cons_self)))
      refine wpAny_bind (listItems_at k1 rfl ?_)
      obtain ⟨m, hn, _⟩ := J.loc
      have J0 : Inv X pins σ H' s' := J.unpinned
      refine ksk_end_ (e := e) (h₀ := Att.noObjs s'.heap) (L := X.env.locals) (m := m) (news := (Att.ledger s'.heap X.env.locals kS).filter fun z => decide (z.1 ≠ a)) (kz := (List.range n).map kf) (Att.fr_all hn) (fun z hz => ?_) hka (fun z hz => ?_) (fun z hz => ?_) hk' (by rw [List.length_map, List.length_range, hlen]) (by rw [hlen]; exact h64)
        fun h6 tk6 out c6 F6 N6 o6 => ⟨_, rfl, ?_⟩
      · rcases List.mem_append.mp hz with hz | hz
        · obtain ⟨q1, q2, q3⟩ := Att.mem_ledger.mp (show (z.1, z.2) ∈ _ from (List.mem_filter.mp hz).1)
          exact ⟨q3, q1, Att.noObjs_get _ _⟩
        · rcases List.mem_cons.mp hz with rfl | hz
          · exact ⟨k1, Fk.2.1, Att.noObjs_get _ _⟩
          · rw [List.mem_singleton.mp hz]
            exact ⟨a1, Fa.2.1, Att.noObjs_get _ _⟩
      · exact (Att.mem_ledger.mp (show (z.1, z.2) ∈ _ from (List.mem_filter.mp hz).1)).2.1
      · exact of_decide_eq_true (List.mem_filter.mp hz).2
      have keep : ∀ b o, b ≠ X.env.locals → b ∉ [kS, a] → s'.heap.get? b = some o → h6.get? b = some o := fun b o q1 q2 q3 => by
        have n1 : b ≠ kS := fun z => q2 (by rw [z]; exact List.mem_cons_self)
        have n2 : b ≠ a := fun z => q2 (by rw [z]; exact List.mem_cons_of_mem _ List.mem_cons_self)
        exact (N6 (b, o) (List.mem_cons_of_mem _ (List.mem_filter.mpr ⟨Att.mem_ledger.mpr ⟨q1, n1, q3⟩, decide_eq_true n2⟩))).1
      have oA6 : h6.get? a = some (seqObj "list" out c6) := (N6 (a, _) List.mem_cons_self).1
      obtain ⟨ps, pp, po, pw⟩ := o6
      have each : ∀ z ∈ ps, ∃ (i : Nat) (t : Tok), i < n ∧ z = (kf i, Value.int (i : Int) t) := fun z hz => by
        obtain ⟨i, hi⟩ := List.mem_iff_getElem?.mp (pp.mem_iff.mp hz)
        obtain ⟨q1, q2⟩ := List.getElem?_zip_eq_some.mp hi
        have hin : i < n := by rw [← hlen]; exact (List.getElem?_eq_some_iff.mp q2).1
        obtain ⟨t, q3⟩ := hget i _ q2
        rw [List.getElem?_map, List.getElem?_range hin] at q1
        exact ⟨i, t, hin, Prod.ext (Option.some.inj q1).symm q3⟩
      have hms : ((ps.map Prod.snd).map ivl).Perm ((List.range n).map fun (i : Nat) => (i : Int)) := by
        have q1 := (pp.map Prod.snd).map ivl
        have q2 : ((((List.range n).map kf).zip its.toList).map Prod.snd).map ivl = (List.range n).map fun (i : Nat) => (i : Int) := by
          refine List.ext_getElem? fun i => ?_
          rw [List.getElem?_map, List.getElem?_map, List.getElem?_map]
          by_cases hi : i < n
          · obtain ⟨x, hx⟩ : ∃ x, its.toList[i]? = some x := ⟨_, List.getElem?_eq_getElem (by omega)⟩
            have q3 : (((List.range n).map kf).zip its.toList)[i]? = some (kf i, x) := List.getElem?_zip_eq_some.mpr ⟨by rw [List.getElem?_map, List.getElem?_range hi]; rfl, hx⟩
            obtain ⟨t, rfl⟩ := hget i _ hx
            rw [q3, List.getElem?_range hi]
            rfl
          · rw [List.getElem?_eq_none (by rw [List.length_zip, List.length_map, List.length_range]; omega), List.getElem?_eq_none (by rw [List.length_range]; omega)]
            rfl
        rw [q2] at q1
        exact q1
      have hv : Vals (((ps.map Prod.snd).map ivl).map V.int) (ps.map Prod.snd) := vals_ivl fun v hv => by
        obtain ⟨z, hz, rfl⟩ := List.mem_map.mp hv
        obtain ⟨i, t, _, rfl⟩ := each z hz
        exact ⟨_, t, rfl⟩
      have hpw : ((ps.map Prod.snd).map ivl).Pairwise (fun x y => kf y.toNat ≤ kf x.toNat) := by
        rw [List.map_map, List.pairwise_map]
        refine pw.imp_of_mem fun {x y} hx hy hxy => ?_
        obtain ⟨i, t, _, rfl⟩ := each x hx
        obtain ⟨j, t', _, rfl⟩ := each y hy
        have hxy' : kf j ≤ kf i := hxy
        show kf ((j : Int)).toNat ≤ kf ((i : Int)).toNat
        rw [Int.toNat_natCast, Int.toNat_natCast]
        exact hxy'
      have hlm : ((ps.map Prod.snd).map ivl).length = n := by rw [hms.length_eq, List.length_map, List.length_range]
      have J6 : Inv X pins σ H' { s' with heap := h6, gens := s'.gens, drawn := s'.drawn, toks := tk6 } := by
        refine J0.step (ch := [kS, a]) (fun b hb => ?_) (fun b o q1 _ q2 q3 _ => keep b o q1 q2 q3) (fun b o q1 _ q2 q3 _ => ⟨o.slots, keep b o q1 q2 q3⟩) (fun b o _ _ q => q) (fun b o q1 q2 => ?_) (fun _ _ q => q) (fun _ _ _ q => q) (fun b qs q => ⟨#[], by rw [q]; simp⟩) (fun m' hm' => ?_) (fun b u q => ?_) J0.bare
        · rcases List.mem_cons.mp hb with rfl | hb
          · exact ⟨Fk.2.2.2.1, Fk.2.1, Fk.2.2.2.2.1, Fk.2.2.2.2.2⟩
          · rw [List.mem_singleton.mp hb]
            exact ⟨Fa.2.2.2.1, Fa.2.1, Fa.2.2.2.2.1, Fa.2.2.2.2.2⟩
        · by_cases hbL : b = X.env.locals
          · obtain ⟨o', _, _, q3, _⟩ := F6.ns
            exact ⟨o', by rw [hbL]; exact q3⟩
          · exact ⟨o, keep b o hbL q1 q2⟩
        · obtain ⟨o', es', ep', q1, q2, q3, q4⟩ := F6.ns
          obtain ⟨o0, es0, ep0, r1, r2, r3, r4⟩ := hn
          obtain ⟨o1, es1, ep1, s1, s2, s3, s4⟩ := hm'
          rw [r1] at s1; cases s1
          rw [r2] at s2; cases s2
          exact ⟨o', es', ep', q1, q2, q3, fun x => by rw [q4 x, ← r4 x, s4 x]⟩
        · have nb1 : ∀ {c : Addr} {y : HO}, H' c = some y → c ∉ [kS, a] := fun {c y} q z => by
            rcases List.mem_cons.mp z with z | z
            · rw [z, k2] at q; cases q
            · rw [List.mem_singleton.mp z, a2] at q; cases q
          have nb2 : ∀ {c : Addr} {y : HO}, H' c = some y → c ≠ X.env.locals := fun {c y} q z => by rw [z, J0.free] at q; cases q
          refine (J0.hok b u q).stay (fun c y hc r => ?_) (fun _ r => r) fun _ _ r => r
          rcases hc with rfl | hc
          · exact keep c y (nb2 q) (nb1 q) r
          · exact keep c y (nb2 hc) (nb1 hc) r
      have hs0 : X.s₀.heap.get? a = none := Heap.get?_none_of_le (Nat.le_trans I.sz hsa)
      refine wpAny_pure ⟨_, rfl, h ((ps.map Prod.snd).map ivl) a H' _ (J6.track hs0 a2 ⟨by rw [List.length_map, hlm]; exact h1000, ps.map Prod.snd, c6, hv, ?_⟩ Fa.2.1 Fa.2.2.2.2.1 Fa.2.2.2.2.2) sm a2 hms hpw⟩
      show h6.get? a = _
      rw [oA6, ← po, Array.toArray_toList]
end
end L2

set_option Elab.async false
set_option linter.all false
set_option maxRecDepth 100000
set_option maxHeartbeats 4000000
namespace L2
open PySem PySem.Spec PyProof.Rows
/-- sorted(range(..), key=lambda x: .., reverse=True): y, in slot iy, is what the lambda reads beside x -/
def tSortK (P : Addr) (lp : Pos) (q : Str) (ta : TA) (iy : Nat) (tb : TE) : TE := fun σ H Q => ta σ H fun vs H1 => ∃ (p : Addr) (n : Nat) (v : V) (kf : Nat → Int), vs = [.ref p] ∧ H1 p = some (.rng 0 n) ∧ n < 64 ∧ LamT P lp q H1 ∧ σ[iy]? = some (some v) ∧
  (∀ (i : Nat) H2, i < n → SameT H1 H2 → tb [some (.int i), some v] H2 fun r H3 => r = .int (kf i) ∧ Same H2 H3) ∧
  ∀ (ms : List Int) l H2, ms.Perm ((List.range n).map fun (i : Nat) => (i : Int)) → ms.Pairwise (fun a b => kf b.toNat ≤ kf a.toNat) → SameT H1 H2 → LamT P lp q H2 → H2 l = none → Q (.ref l) (upd H2 l (.lst (ms.map V.int)))
section
variable {X : Cx}
theorem pe_sortk {e : Expr} {ta : TA} {p pos lp kp1 kp2 cp : Pos} {n0 : Nat} {params : Arguments} {scope : Scope} {body : Expr} {c P : Addr} {q x y : Str} {cy : Addr} {iy k : Nat} {te : TE}
    (B : LamB X.mg X.base c P) (hcode : X.env.code = .ref c) (hq : X.env.qual ++ "<lambda>" = q) (hg : Gl X "sorted") (hm : X.mg "sorted" = none) (hc : X.calm = true) (ha : PA X [e] ta)
    (hcl : closureFor scope X.env = pure [(y, cy)]) (hdef : defaultsOf params X.env = ([], [])) (S : LamS scope x y) (hcy : X.env.cells.lookup y = some cy) (hky : X.env.scope.names.lookup y = some .cell) (hN : X.N[iy]? = some y) (hr : Room (k + 3) X.A)
    (hbind : ∀ (pm : Value) (d : Addr) (ctv ux : Value), bindArgs (PySem.W.kla_fn "<lambda>" q params body scope [(y, cy)] pm (.ref d) ctv) ⟨[ux], []⟩ = pure [(x, ux)])
    (hb : ∀ (s : Shared) (H : Hp) (f d : Addr), Room k (lamX X X.A.in1.in1 s H q scope f d x y cy).A → PE (lamX X X.A.in1.in1 s H q scope f d x y cy) body te)
    (he : backTo pos (starEach [e] X.env) = (false, eval e X.env) :: backTo pos (starEach [] X.env) := by rfl) (hpl : (backTo pos (starEach [e] X.env)).any (·.1) = false := by rfl) :
    PE X (.Call (.Name "sorted" p) [e] [⟨some "key", .Lambda params body scope lp, kp1⟩, ⟨some "reverse", .Constant (.bool true) n0 cp, kp2⟩] pos) (tSortK P lp q ta iy te) := by
  intro pins s σ H Q I h
  refine wpAny_Call_Name_kw (ld_blt I hg hm boot_sorted ?_)
  refine callWith_kw (thn (ha pos pins s σ H _ I h) fun us s1 ⟨vs, H1, I1, r1, q1⟩ => ?_) he hpl
  obtain ⟨p, n, v, kf, rfl, hp, h64, hT, hσ, tn, fin⟩ := q1
  obtain ⟨u, rfl, ru⟩ := r1.one
  cases ru
  refine kws_cons (mk_lam I1 B hcode hq hT hcl hdef fun f d ctv pm h' tk H' J hsf hof hcd hT' hS hnf => ?_)
  refine kws_cons (Constant_bool (kws_nil ?_))
  show wpAny _ _ (call (.builtin "sorted") [.ref p] [(Str.ofString "key", .ref f), (Str.ofString "reverse", .bool true)]) _ _ _
  have Ff : FpOk X pins H' f := I1.fpOk hsf hnf
  have J1 : Inv X (pins ++ [(f, PySem.W.kla_obj "<lambda>" q params body scope [(y, cy)] pm d ctv)]) σ H' { s1 with heap := h', toks := tk } := J.pins_of fun z hz => by
    rcases List.mem_append.mp hz with hz | hz
    · exact J.pin z (List.mem_append_right _ hz)
    · rw [List.mem_singleton.mp hz]
      exact ⟨hof, hnf, Ff.2.1, Ff.2.2.1, fun v q => nomatch q⟩
  have hr2 : Room (k + 1) X.A.in1.in1 := hr.in1.in1
  have hA : X.A.in1.in1.frames = some X.stack := I.ok.frames
  refine sort_by (kf := kf) J1 hc (hS.get hp (fun ps z => nomatch z)) h64 (fun i u H2 s2 more hi ru sm J2 => ?_) fun ms l H3 s3 J3 sm hn pm pw => ⟨.ref l, _, J3.unpinned, rfl, fin ms l H3 pm pw (hS.trans sm.t) (hT'.same sm) hn⟩
  have hof2 := (J2.pin (f, PySem.W.kla_obj "<lambda>" q params body scope [(y, cy)] pm d ctv) (List.mem_append_right _ (List.mem_append_left _ (List.mem_append_right _ List.mem_cons_self)))).1
  exact run_lam J2 hA hr2 hof2 (J2.code (sm _ _ hcd)) S hcy hky hN hσ (hbind pm d ctv u) ru (hb s2 H2 f d (hr2.deeper _)) (tn i H2 hi (hS.trans sm.t))
end
section
variable {P : Program} {w : World} {K : PySem.W.Frag} {mg : Str → Option Value} {base : Heap}
/-- THE RULE for a def that makes a lambda: its code object is known -/
theorem Fun.okL {x qual : Str} {st : Stmt} {f : Addr} {fd : FuncData} {N ps : List Str} {k : Nat} {sp : Sp} {c : Addr} (F : Fun K x qual st f fd) (hc : fd.code = .ref c) (S : FnScope N ps (defScope st)) (len : ∀ vs H Q E, sp vs H Q E → vs.length = ps.length)
    (hbody : ∀ (A : Around) (outer : List Env) (s : Shared) (H : Hp) (vs : List V) (Q : VK) (E : XK), Room k (A.deeper (envOfC qual (defScope st) s.heap.objs.size f (.ref c))) → sp vs H Q E →
      ∃ t, PSs (cxOf CX0 P w K mg base N qual (defScope st) f (.ref c) A outer s H E).nox (defBody st) t ∧ t { nx := fun _ H' => Q .non H', rt := Q } (start N vs) H) : FnOk P w K mg base CX0 (k + 1) f fd ps sp := by
  obtain ⟨oc, od, kV, doc, pm, an, cdv, ct, osl, rfl, lk, hcd⟩ := F.ex
  have e : cdv = .ref c := hc
  subst e
  refine fn_of lk hcd S len fun A outer s H vs Q E hr hsp => ?_
  obtain ⟨t, h, q⟩ := hbody A outer s H vs Q E hr hsp
  exact ⟨t, h.nox, q⟩
end
end L2

set_option Elab.async false
set_option linter.all false
set_option maxRecDepth 100000
set_option maxHeartbeats 4000000
namespace L2
open PySem PySem.Spec PyProof.Rows
/-! ## the head, where one def makes lambdas: its code table is tracked -/
theorem law_callT {P : Program} {w : World} {K : PySem.W.Frag} {mg mb : Str → Option Value} {CX : CXT} {k : Nat} {fa a c pt : Addr} {fd : FuncData} {x : Str} {sp : Sp} {s₁ : Shared} {vs : List Value} {ns : List Int}
    (KX : K.In s₁.heap) (hNT : PySem.W.noTabs K = true) (hC : PySem.W.CodeHd s₁.heap c pt) (hP : s₁.heap.get? pt = some (PySem.W.tabObj #[]))
    (hbm : ∃ bm ob, mg "__builtins__" = some (.ref bm) ∧ bm ≠ builtinsNs ∧ s₁.heap.get? bm = some ob ∧ ob.cls = .type "module" ∧ ob.dict = some builtinsNs ∧ ob.data = .plain)
    (hns : s₁.heap.Ns mainGlobals mg) (hb : s₁.heap.Ns builtinsNs mb) (hbb : ∀ x : Str, x ≠ "__name__" → mb x = bootBuiltins x) (hlim : s₁.heap.NoLimit) (hg : s₁.gens = #[])
    (ha : s₁.heap.get? a = some { cls := .type "list", data := .seq vs.toArray }) (hi : IntsAre vs ns) (hl : ns.length ≤ sizeLine) (hr : Room k callerA)
    (F : ∀ base : Heap, K.In base → base.Ns mainGlobals mg → LamB mg base c pt → FnOk P w K mg base CX k fa fd [x] sp) (hbind : ∀ (s : Shared) (u : Value), BindsTo s fd ⟨[u], []⟩ [(x, u)])
    (hsp : ∀ H : Hp, H pt = some (.tbl #[]) → SqL K H a (ns.map V.int) → sp [.ref a] H (fun v _ => v = .bl true) fun _ _ _ => False)
    (hCX : ∀ H e s', CX [] H s₁ (fun _ _ _ => False) e s' → False) :
    codeAny (model P w) callerA (.call (.ref fa) ⟨[.ref a], []⟩) (fun r s' => r = .ok (.ret (.bool true)) ∧ OldK s₁.heap s'.heap ∧ s'.os = s₁.os ∧ AllBare s'.gens) s₁ := by
  have rv := vals_ints hi
  have lenV := hi.length
  have hap : a ≠ pt := fun z => by rw [z, hP] at ha; cases ha
  have kP : K.lookup pt = none := by
    cases q : K.lookup pt with
    | none => rfl
    | some o =>
      have e := KX _ _ q
      rw [hP] at e
      cases e
      have h2 := List.all_eq_true.mp hNT _ (PySem.W.mem_of_lookupK q)
      exact absurd (show false = true from h2) Bool.false_ne_true
  have core : ∀ H : Hp, H pt = some (.tbl #[]) → (∀ b, b ≠ pt → H b = none ∨ ∃ o xs, H b = some (.frz o (.lst xs))) → SqL K H a (ns.map V.int) → HOk P w H s₁.heap → (∀ b, H b ≠ none → b = a ∨ b = pt) → (H a ≠ none → K.lookup a = none) →
      codeAny (model P w) callerA (.call (.ref fa) ⟨[.ref a], []⟩) (fun r s' => r = .ok (.ret (.bool true)) ∧ OldK s₁.heap s'.heap ∧ s'.os = s₁.os ∧ AllBare s'.gens) s₁ := by
    intro H hHP hO hS hok hA hK
    have base_of : ∀ {b : Addr} {o : Obj}, s₁.heap.get? b = some o → H b = none → (hidT s₁.heap H).get? b = some o := fun e n => hidT_get e n
    have noX : ∀ {b : Addr} {o : Obj}, s₁.heap.get? b = some o → o.cls ≠ .type "list" → o.cls ≠ .none → H b = none := fun {b o} e n1 n2 => by
      cases q : H b with
      | none => rfl
      | some u =>
        rcases hA b (by rw [q]; simp) with e' | e'
        · subst e'; rw [ha] at e; cases e; exact absurd rfl n1
        · subst e'; rw [hP] at e; cases e; exact absurd rfl n2
    have noD : ∀ {b : Addr} {o : Obj} {es : Array DictEntry} {ep : Nat}, s₁.heap.get? b = some o → o.data = .dict es ep → H b = none := fun {b o es ep} e d => by
      cases q : H b with
      | none => rfl
      | some u =>
        rcases hA b (by rw [q]; simp) with e' | e'
        · subst e'
          rw [ha] at e; cases e
          exact absurd (show Data.seq vs.toArray _ = Data.dict es ep from d) (fun z => nomatch z)
        · subst e'
          rw [hP] at e; cases e
          exact absurd (show Data.fields #[] = Data.dict es ep from d) (fun z => nomatch z)
    have nsK : ∀ {b : Addr} {m : Str → Option Value}, s₁.heap.Ns b m → (hidT s₁.heap H).Ns b m := fun {b m} ⟨o, es, ep, e, d, r⟩ => ⟨o, es, ep, base_of e (noD e d), d, r⟩
    have hKb : K.In (hidT s₁.heap H) := fun b o e => base_of (KX b o e) (by
      cases q : H b with
      | none => rfl
      | some u =>
        rcases hA b (by rw [q]; simp) with e' | e'
        · subst e'
          rw [hK (by rw [q]; simp)] at e; cases e
        · subst e'
          rw [kP] at e; cases e)
    have hM : Mod K mg (hidT s₁.heap H) := ⟨hKb, nsK hns, ⟨mb, nsK hb, hbb⟩, let ⟨mc, h1, h2⟩ := hlim; ⟨mc, nsK h1, h2⟩⟩
    have hLB : LamB mg (hidT s₁.heap H) c pt := by
      refine ⟨?_, ?_⟩
      · obtain ⟨o, vs, file, tf, flags, tg, inF, text, tt, q1, q2, r⟩ := hC
        exact ⟨o, vs, file, tf, flags, tg, inF, text, tt, base_of q1 (noX q1 (by rw [q2]; decide) (by rw [q2]; exact fun z => nomatch z)), q2, r⟩
      · obtain ⟨bm, ob, q1, q2, q3, q4, r⟩ := hbm
        exact ⟨bm, ob, q1, q2, base_of q3 (noX q3 (by rw [q4]; decide) (by rw [q4]; exact fun z => nomatch z)), q4, r⟩
    have e0 : Env0 P w K mg (hidT s₁.heap H) callerA [] s₁ H := ⟨rfl, hM, fun b o e => of_hidT e, Nat.le_of_eq (hidT_size _ _), trivial, fun b hb => absurd (show b ∈ ([] : List Addr) from hb) (by simp), hok, .of_eq hg⟩
    refine codeAny_mono ((F _ hKb (nsK hns) hLB).run callerA [] s₁ H ⟨[.ref a], []⟩ [.ref a] [.ref a] _ _ hr e0 (hbind s₁ (.ref a)) (.cons rfl .nil) (hsp H hHP hS)) fun r s' h => ?_
    cases r with
    | error e => exact (hCX H e s' h).elim
    | ok fl =>
      cases fl with
      | next => exact False.elim h
      | brk => exact False.elim h
      | cont => exact False.elim h
      | ret u =>
        obtain ⟨v, H', os, bare, un, hok', r', q⟩ := h
        have q' : v = .bl true := q
        subst q'
        obtain rfl : u = Value.bool true := r'
        have kept : ∀ b o, b ≠ pt → s₁.heap.get? b = some o → s'.heap.get? b = some o := fun b o hbp e => by
          cases q : H b with
          | none => exact un.keep b o e q (by intro z; exact absurd (show b ∈ ([] : List Addr) from z) (by simp)) (by simp)
          | some u =>
            rcases hO b hbp with z | ⟨ob, xs, z⟩
            · rw [q] at z; cases z
            · have z2 := un.frzs b ob _ z
              obtain ⟨e1, _⟩ := hok b _ z
              obtain ⟨e2, _⟩ := hok' b _ z2
              rw [e] at e1; cases e1
              exact e2
        obtain ⟨more, hm⟩ := un.tbls pt #[] hHP
        have hP' : s'.heap.get? pt = some (PySem.W.tabObj (#[] ++ more)) := (show ObjOk P w H' s'.heap pt (.tbl _) from hok' pt _ hm)
        refine ⟨rfl, ⟨fun b o e => ?_, fun b o e => ?_⟩, os, bare⟩
        · by_cases hbp : b = pt
          · subst hbp
            rw [hP] at e; cases e
            exact .inr (.inl ⟨(hC.tab hP).isCodeTable, rfl, #[], more, rfl, hP'⟩)
          · exact .inl (kept b o hbp e)
        · by_cases hbp : b = pt
          · subst hbp; exact ⟨_, hP'⟩
          · exact ⟨o, kept b o hbp e⟩
  cases hk : K.lookup a with
  | some o =>
    have e := KX a o hk
    rw [ha] at e
    cases e
    refine core (fun b => if b = pt then some (.tbl #[]) else none) (if_pos rfl) (fun b hb => .inl (if_neg hb)) (.inr ⟨_, vs.toArray, _, hk, rfl, rfl, rfl, by rw [List.size_toArray, lenV]; exact hl, by simpa using rv⟩) (fun b u z => ?_) (fun b z => ?_) fun z => absurd (if_neg hap) z
    · by_cases hb : b = pt
      · have z' := (if_pos hb).symm.trans z
        cases z'
        subst hb
        exact hP
      · have z' := (if_neg hb).symm.trans z
        cases z'
    · by_cases hb : b = pt
      · exact .inr hb
      · exact absurd (if_neg hb) z
  | none =>
    refine core (fun b => if b = pt then some (.tbl #[]) else if b = a then some (.frz { cls := .type "list", data := .seq vs.toArray } (.lst (ns.map V.int))) else none) (if_pos rfl) (fun b hb => ?_) (.inl (.inr ⟨{ cls := .type "list", data := .seq vs.toArray }, (if_neg hap).trans (if_pos rfl)⟩)) (fun b u z => ?_) (fun b z => ?_) fun _ => hk
    · by_cases hb2 : b = a
      · exact .inr ⟨_, _, (if_neg hb).trans (if_pos hb2)⟩
      · exact .inl ((if_neg hb).trans (if_neg hb2))
    · by_cases hb : b = pt
      · have z' := (if_pos hb).symm.trans z
        cases z'
        subst hb
        exact hP
      · have z1 := (if_neg hb).symm.trans z
        by_cases hb2 : b = a
        · have z' := (if_pos hb2).symm.trans z1
          cases z'
          subst hb2
          exact ⟨ha, by rw [List.length_map]; exact hl, vs, _, rv, ha⟩
        · have z' := (if_neg hb2).symm.trans z1
          cases z'
    · by_cases hb : b = pt
      · exact .inr hb
      · by_cases hb2 : b = a
        · exact .inl hb2
        · exact absurd ((if_neg hb).trans (if_neg hb2)) z
/-- the goal that k_head leaves, where the def named y makes lambdas -/
theorem walk_ofT {l : PySem.W.OpenLaw} {n k : Nat} {q : Program} {loose : List Str} {XP : (Str → Option Value) → Heap → Prop} {YP : World → Heap → Prop} {d dy : DefRec} {K : Params → PySem.W.Frag} {CX : CXT} {sp : PySem.W.Frag → Addr → Sp} {x y : Str}
    (hn : l.most = some n) (hn2 : n ≤ sizeLine) (hdf : d.params.defaults = []) (hr : Room k callerA)
    (hY : ∀ (w : World) (h : Heap), YP w h → (K w.params).In h) (hy : (PyProof.Rows.recsOf q).find? (fun e => e.name == y) = some dy) (hNT : ∀ w : World, PySem.W.noTabs (K w.params) = true)
    (F : ∀ (w : World) (mg : Str → Option Value) (fa : Addr) (h : Heap), (K w.params).In h → h.Ns mainGlobals mg → mg d.name = some (.ref fa) →
      ∃ (fd : FuncData) (c pt : Addr), PySem.W.tabIn (K w.params) y = some (c, pt) ∧ (∀ (s : Shared) (u : Value), BindsTo s fd ⟨[u], []⟩ [(x, u)]) ∧
        ∀ base : Heap, (K w.params).In base → base.Ns mainGlobals mg → LamB mg base c pt → FnOk l.prog w (K w.params) mg base CX k fa fd [x] (sp (K w.params) pt))
    (hsp : ∀ (K : PySem.W.Frag) (pt : Addr) (H : Hp) (a : Addr) (ns : List Int), ns.length ≤ n → H pt = some (.tbl #[]) → SqL K H a (ns.map V.int) → sp K pt [.ref a] H (fun v _ => v = .bl true) fun _ _ _ => False)
    (hCX : ∀ (H : Hp) (s : Shared) (e : Value) (s' : Shared), CX [] H s (fun _ _ _ => False) e s' → False) :
    PySem.W.WalkO q loose XP YP l.row.toRowW d [] (fun f vs => PySem.call f vs) := by
  refine Att.attach_call hn hdf fun w s₀ s₁ mg mb fa o pm cd doc a vs ns G Y ho hd hcd hmg hobj hints hlen hg => ?_
  have KX := hY w _ Y
  obtain ⟨fd, c, pt, ht, hb, hF⟩ := F w mg fa _ KX G.T.g hmg
  obtain ⟨hC, hP⟩ := PySem.W.tab_of G.T KX hy ht
  exact law_callT KX (hNT w) hC hP G.T.bmain G.T.g G.T.b G.T.builtins G.T.nolimit hg hobj hints (Nat.le_trans hlen hn2) hr hF hb (fun H hO hS => hsp (K w.params) pt H a ns hlen hO hS) fun H e s' => hCX H s₁ e s'
end L2

set_option Elab.async false
set_option linter.all false
set_option maxRecDepth 100000
set_option maxHeartbeats 4000000
namespace L2
open PySem PySem.Spec PyProof.Rows
/-! ## min(xs, default=d), max(xs) -/
section
variable {prog : Program} {w : World} {A : Around} {E : Value → Shared → Prop} {s : Shared}
theorem minD_args (a v : Value) : argsOk "min" ⟨[a], [(Str.ofString "default", v)]⟩ := by unfold argsOk; kernel_rfl
/-- the loop of min with a default: best holds nothing or the least so far, twice -/
theorem minD_loop {R : Result → Shared → Prop} {It : Addr} {fp wr : List Addr} {G : Array GenState → Array GenState → Prop} {n : Nat} {U : Nat → Value → Prop} {St : Nat → Shared → Prop} (W : WalksS prog w A.in1 It fp wr G n U St) (less : Nat → Nat → Bool) (hc : CmpOf prog w A.in1 .Lt U less)
    (B : Addr) (hB : B ∉ fp) (d : Value) : ∀ (k j : Nat) (s : Shared) (best : Array Value) (c : Nat), n - j = k → j ≤ n → St j s → (j = 0 ∧ best = #[] ∨ 0 < j ∧ ∃ vb, best = #[vb, vb] ∧ U (argBest less (j - 1)) vb) →
    s.heap.get? B = some { cls := .type "list", dict := none, data := .seq best c, slots := #[] } →
    (∀ v s', (n = 0 ∧ v = d ∨ 0 < n ∧ U (argBest less (n - 1)) v) → Moved (B :: wr) G s s' → R (.ok (.ret v)) s') →
    codeAny (model prog w) A (.builtin "min.loop" ⟨[.ref It, .none, .ref B], [(Str.ofString "default", d)]⟩) R s := by
  have nB : B ∉ wr := fun z => hB (W.sub _ z)
  have sub2 : ∀ b ∈ wr, b ∈ B :: wr := fun b z => List.mem_cons_of_mem _ z
  have nm : (toString "min" ++ toString ".loop" : String) = "min.loop" := by decide
  have other : ∀ {b : Addr}, b ∉ B :: wr → B ≠ b := fun z q => z (by rw [q]; exact List.mem_cons_self)
  intro k
  induction k with
  | zero =>
    intro j s best c hk hj st hb oB hR
    have hjn : j = n := by omega
    subst hjn
    refine codeAny_builtin F.entry_min_loop ?_
    rw [Around.under_plainId F.plain_min_loop _]
    show wpAny _ A.in1 (seqItems? (.ref B) >>= _) _ _ s
    refine wpAny_bind (wpAny_seqItems oB rfl ?_)
    show wpAny _ A.in1 (tryCatch (pyNext (.ref It)) _ >>= _) _ _ s
    refine wpAny_bind (wpAny_tryCatch (W.done s _ _ st fun s' mv => ?_))
    have oB' := mv.heap B _ nB oB
    rcases hb with ⟨h0, rfl⟩ | ⟨h0, vb, rfl, hu⟩
    · show wpAny _ A.in1 (rule _ >>= _) _ _ _
      exact wpAny_bind (wpAny_rule (wpAny_pure (hR d s' (.inl ⟨h0, rfl⟩) (mv.mono sub2))))
    · show wpAny _ A.in1 (updateSeq B (fun _ => #[]) >>= _) _ _ _
      refine wpAny_bind (wpAny_updateSeq oB' rfl (wpAny_bind (wpAny_letGo (wpAny_pure ?_))))
      exact hR vb _ (.inr ⟨h0, hu⟩) ((mv.mono sub2).then_heap (tk := s'.toks) (Nat.le_refl _) fun b o z q => (Heap.get?_update_other _ _ (other z)).trans q)
  | succ k ih =>
    intro j s best c hk hj st hb oB hR
    have hjn : j < n := by omega
    refine codeAny_builtin F.entry_min_loop ?_
    rw [Around.under_plainId F.plain_min_loop _]
    show wpAny _ A.in1 (seqItems? (.ref B) >>= _) _ _ s
    refine wpAny_bind (wpAny_seqItems oB rfl ?_)
    show wpAny _ A.in1 (tryCatch (pyNext (.ref It)) _ >>= _) _ _ s
    refine wpAny_bind (wpAny_tryCatch (W.item j s _ _ hjn st fun v s' hv st' mv => ?_))
    have oB' := mv.heap B _ nB oB
    have stB : ∀ {f : Array Value → Array Value}, St (j + 1) { s' with heap := s'.heap.update B (Obj.mapSeq f) } := W.frame _ s' _ s'.toks st' (Nat.le_refl _) fun b z o q => (Heap.get?_update_other _ _ (fun y : B = b => hB (by rw [y]; exact z))).trans q
    have mvB : ∀ {f : Array Value → Array Value}, Moved (B :: wr) G s { s' with heap := s'.heap.update B (Obj.mapSeq f) } := (mv.mono sub2).then_heap (tk := s'.toks) (Nat.le_refl _) fun b o z q => (Heap.get?_update_other _ _ (other z)).trans q
    rcases hb with ⟨h0, rfl⟩ | ⟨h0, vb, rfl, hu⟩
    · subst h0
      show wpAny _ A.in1 (updateSeq B (fun _ => #[v, v]) >>= _) _ _ _
      refine wpAny_bind (wpAny_updateSeq oB' rfl ?_)
      rw [nm]
      exact wpAny_pure ⟨plainId_quiet F.plain_min_loop _, ih 1 _ #[v, v] _ (by omega) hjn stB (.inr ⟨Nat.one_pos, v, rfl, hv⟩) (Heap.get?_update_self _ oB' rfl) fun v' s'' q m => hR v' s'' q (Moved.trans W.gtrans mvB m)⟩
    · have e1 : argBest less j = if less j (argBest less (j - 1)) then j else argBest less (j - 1) := by
        obtain ⟨i, rfl⟩ : ∃ i, j = i + 1 := ⟨j - 1, by omega⟩
        rfl
      show wpAny _ A.in1 (tryCatch (holding [v, v] (richCompare .Lt v vb >>= _)) _ >>= _) _ _ _
      refine wpAny_bind (wpAny_tryCatch (wpAny_holding (wpAny_bind (hc j (argBest less (j - 1)) v vb _ _ _ hv hu ?_))))
      refine wpAny_bind (wpAny_holding (wpAny_truthy_bool (wpAny_bind (wpAny_letGo (wpAny_pure ?_)))))
      cases hl : less j (argBest less (j - 1)) with
      | true =>
        rw [hl, if_pos rfl] at e1
        simp only [if_true]
        refine wpAny_bind (wpAny_updateSeq oB' rfl (wpAny_bind (wpAny_letGo ?_)))
        rw [nm]
        exact wpAny_pure ⟨plainId_quiet F.plain_min_loop _, ih (j + 1) _ #[v, v] _ (by omega) hjn stB (.inr ⟨Nat.succ_pos _, v, rfl, by rw [Nat.add_sub_cancel, e1]; exact hv⟩) (Heap.get?_update_self _ oB' rfl) fun v' s'' q m => hR v' s'' q (Moved.trans W.gtrans mvB m)⟩
      | false =>
        rw [hl, if_neg Bool.false_ne_true] at e1
        simp only [Bool.false_eq_true, if_false]
        refine wpAny_bind (wpAny_letGo ?_)
        rw [nm]
        exact wpAny_pure ⟨plainId_quiet F.plain_min_loop _, ih (j + 1) _ #[vb, vb] c (by omega) hjn st' (.inr ⟨Nat.succ_pos _, vb, rfl, by rw [Nat.add_sub_cancel, e1]; exact hu⟩) oB' fun v' s'' q m => hR v' s'' q (Moved.trans W.gtrans (mv.mono sub2) m)⟩
theorem minD_ints {l : Addr} {xs : Array (Int × Tok)} {d : Value} {Q : Value → Shared → Prop} (hh : A.handled = none) (hl : s.heap.IsList l (intItems xs))
    (h : ∀ v h' tk, (xs.size = 0 ∧ v = d ∨ 0 < xs.size ∧ (intItems xs)[argBest (fun i j => decide (numAt xs i < numAt xs j)) (xs.size - 1)]? = some v) → (∀ b o, s.heap.get? b = some o → h'.get? b = some o) → Q v { s with heap := h', toks := tk }) :
    wpAny (model prog w) A (call (.builtin "min") [.ref l] [(Str.ofString "default", d)]) Q E s := by
  have nm : (toString "min" ++ toString ".loop" : String) = "min.loop" := by decide
  refine kmb_tree F.kind_min F.plain_min F.entry_min (minD_args _ _) ?_
  show wpAny _ A.in1 (Builtin.Builtins.bindParams "min" ["key", "default"] 0 ⟨[], [(Str.ofString "default", d)]⟩ >>= _) _ _ s
  refine wpAny_bind (wpAny_of_eq (show Builtin.Builtins.bindParams "min" ["key", "default"] 0 ⟨[], [(Str.ofString "default", d)]⟩ = pure [none, some d] from rfl) ?_)
  refine wpAny_bind (wpAny_pure ?_)
  refine wpAny_bind (iter_intList hl fun s2 e st hfp hlI => ?_)
  refine wpAny_bind (wpAny_newObj_type ?_)
  have nB : s2.heap.objs.size ∉ [s.heap.objs.size, l] := fun z => Nat.lt_irrefl _ (hfp _ z)
  have W := (Walks.list (prog := prog) (w := w) (A := A.in1) hh s.heap.objs.size l hlI (intItems xs)).toS
  rw [nm]
  have hsz : (intItems xs).size = xs.size := by simp [intItems]
  refine wpAny_pure ⟨plainId_quiet F.plain_min_loop _, minD_loop W _ (CmpOf.ints_lt (numAt xs) (fun _ _ => intItems_at)) s2.heap.objs.size nB d _ 0 _ #[] 0 rfl (Nat.zero_le _) (W.frame 0 s2 _ s2.toks st (Nat.le_refl _) fun b _ o q => Heap.get?_push_of_some _ q) (.inl ⟨rfl, rfl⟩) (Heap.get?_push_size _ rfl) fun v s' q m => ?_⟩
  have m2 := Moved.drop_new (tk := s2.toks) m (Nat.le_refl _)
  rw [Moved.eq_with m2]
  subst e
  refine h v s'.heap s'.toks (by rw [hsz] at q; exact q) (old_kept fun b o z q => m2.heap b o z q)
end
section
variable {X : Cx}
def tMinD (K : PySem.W.Frag) (ta : TA) (td : TE) : TE := fun σ H Q => ta σ H fun vs H1 => td σ H1 fun x H2 => ∃ (p : Addr) (ns : List Int) (d : Int), vs = [.ref p] ∧ x = .int d ∧ SqL K H2 p (ns.map V.int) ∧ ∀ M, (ns = [] ∧ M = d ∨ M ∈ ns ∧ ∀ a ∈ ns, M ≤ a) → Q (.int M) H2
theorem ints_items {its : List Value} {ns : List Int} (hi : IntsAre its ns) : ∃ xs : Array (Int × Tok), its.toArray = intItems xs ∧ ns = xs.toList.map (·.1) := by
  obtain ⟨xs, e⟩ := hi.allInts.items
  exact ⟨xs, e, by rw [← hi.numsOf, ← nums_intItems, ← e]⟩
theorem pe_minD (K : PySem.W.Frag) {e ed : Expr} {ta : TA} {td : TE} {p pos kp : Pos} (hc : X.calm = true) (hg : Gl X "min") (hm : X.mg "min" = none) (ha : PA X [e] ta) (hd : PE X ed td) (hK : X.K = K := by rfl)
    (he : backTo pos (starEach [e] X.env) = (false, eval e X.env) :: backTo pos (starEach [] X.env) := by rfl) (hpl : (backTo pos (starEach [e] X.env)).any (·.1) = false := by rfl) :
    PE X (.Call (.Name "min" p) [e] [⟨some "default", ed, kp⟩] pos) (tMinD K ta td) := by
  subst hK
  intro pins s σ H Q I h
  refine wpAny_Call_Name_kw (ld_blt I hg hm boot_min ?_)
  refine callWith_kw (thn (ha pos pins s σ H _ I h) fun us s1 ⟨vs, H1, I1, r1, q1⟩ => kws_cons (thn (hd pins s1 σ H1 _ I1 q1) fun u s2 ⟨x, H2, I2, r2, q2⟩ => kws_nil ?_)) he hpl
  obtain ⟨p, ns, d, rfl, rfl, hq, hM⟩ := q2
  obtain ⟨u1, rfl, ru⟩ := r1.one
  cases ru
  obtain ⟨td, rfl⟩ := r2
  obtain ⟨its, rv, pl, hz⟩ := I2.list hq
  obtain ⟨xs, ex, en⟩ := ints_items (intsAre_of rv)
  have hl := pl.isList
  rw [ex] at hl
  show wpAny _ _ (call (.builtin "min") [.ref p] [(Str.ofString "default", .int d td)]) _ _ _
  refine minD_ints (I2.ok.hd hc) hl fun v h' tk hv hk => ?_
  rcases hv with ⟨h0, rfl⟩ | ⟨h0, hv⟩
  · exact ⟨.int d, H2, I2.kept hk, ⟨td, rfl⟩, hM d (.inl ⟨by rw [en, Array.eq_empty_of_size_eq_zero h0]; rfl, rfl⟩)⟩
  · obtain ⟨t, rfl⟩ := intItems_at hv
    obtain ⟨b1, b2⟩ := argBest_lt (numAt xs) (xs.size - 1)
    refine ⟨.int _, H2, I2.kept hk, ⟨t, rfl⟩, hM _ (.inr ⟨?_, fun a ha => ?_⟩)⟩
    · rw [en, numAt_eq]; exact getD_mem (by rw [List.length_map, Array.length_toList]; omega)
    · rw [en] at ha
      obtain ⟨j, hj, rfl⟩ := mem_getD ha
      rw [List.length_map, Array.length_toList] at hj
      rw [← numAt_eq]; exact b2 j (by omega)
/-- max(xs) of ints -/
def rMaxL (K : PySem.W.Frag) : List V → Hp → VK → Prop := fun xs H Q => ∃ (p : Addr) (ns : List Int), xs = [.ref p] ∧ SqL K H p (ns.map V.int) ∧ ns ≠ [] ∧ ∀ M, M ∈ ns → (∀ a ∈ ns, a ≤ M) → Q (.int M) H
theorem call_maxL (K : PySem.W.Frag) (hc : X.calm = true) (hK : X.K = K := by rfl) : CallR X (.builtin "max") (rMaxL K) := by
  subst hK
  intro pins s σ H xs us Q I r h
  obtain ⟨p, ns, rfl, hq, hne, hM⟩ := h
  obtain ⟨u, rfl, ru⟩ := r.one
  cases ru
  obtain ⟨its, rv, pl, hz⟩ := I.list hq
  obtain ⟨xs, ex, en⟩ := ints_items (intsAre_of rv)
  have hl := pl.isList
  rw [ex] at hl
  have h0 : 0 < xs.size := Nat.pos_of_ne_zero fun z => hne (by rw [en, Array.eq_empty_of_size_eq_zero z]; rfl)
  refine max_intList (I.ok.hd hc) hl h0 fun v h' tk hv hk => ?_
  obtain ⟨t, rfl⟩ := intItems_at hv
  obtain ⟨b1, b2⟩ := argBest_gt (numAt xs) (xs.size - 1)
  refine ⟨.int _, H, I.kept hk, ⟨t, rfl⟩, hM _ ?_ fun a ha => ?_⟩
  · rw [en, numAt_eq]; exact getD_mem (by rw [List.length_map, Array.length_toList]; omega)
  · rw [en] at ha
    obtain ⟨j, hj, rfl⟩ := mem_getD ha
    rw [List.length_map, Array.length_toList] at hj
    rw [← numAt_eq]; exact b2 j (by omega)
end
end L2
namespace L2
open PySem PySem.Spec PyProof.Rows
/-- for i, x in enumerate(xs) -/
theorem for_enum {K : PySem.W.Frag} {a : Addr} {xs : List V} {g : TG} {tb : TS} {D : Ends} {σ : St} {H : Hp} (Pv : Nat → St → Hp → Prop) (h0 : Pv 0 σ H) (hl : ∀ i σ H, i ≤ xs.length → Pv i σ H → SqL K H a xs)
    (hs : ∀ i x σ H p, xs[i]? = some x → Pv i σ H → H p = none → g (.ref p) σ (upd H p (.tup [.int (i : Nat), x])) fun σ2 H2 => tb { D with nx := Pv (i + 1), ct := Pv (i + 1), bk := D.nx } σ2 H2) (hd : ∀ σ H, Pv xs.length σ H → D.nx σ H) :
    ∃ W : Nat → Nat → St → Hp → Prop, (∃ m, W 0 m σ H) ∧ ∀ i m σ H, W i m σ H →
      ((Ite K a).stop i H ∧ D.nx σ H) ∨ ((Ite K a).go i H ∧ ∃ N : St → Hp → Prop, (∀ σ' H', N σ' H' → ∃ m', m' < m ∧ W (i + 1) m' σ' H') ∧ ∀ x H', (Ite K a).yld i H x H' → g x σ H' fun σ2 H2 => tb { D with nx := N, ct := N, bk := D.nx } σ2 H2) := by
  refine ⟨fun i m σ H => m = xs.length - i ∧ i ≤ xs.length ∧ Pv i σ H, ⟨xs.length, by simp, Nat.zero_le _, h0⟩, ?_⟩
  rintro i m σ H ⟨rfl, hi, p⟩
  have q := hl i σ H hi p
  by_cases hlt : i < xs.length
  · refine .inr ⟨⟨xs, xs[i], q, List.getElem?_eq_getElem hlt⟩, Pv (i + 1), fun σ' H' p' => ⟨xs.length - (i + 1), by omega, rfl, hlt, p'⟩, fun x H' y => ?_⟩
    obtain ⟨r, z, hr, rfl, rfl, hz⟩ := y
    exact hs i z σ H r (hz xs q) p hr
  · have e : i = xs.length := by omega
    subst e
    exact .inl ⟨⟨xs, q, Nat.le_refl _⟩, hd σ H p⟩
section
variable {X : Cx}
/-- either reading -/
def tTwo (t1 t2 : TE) : TE := fun σ H Q => t1 σ H Q ∨ t2 σ H Q
theorem pe_two {e : Expr} {t1 t2 : TE} (h1 : PE X e t1) (h2 : PE X e t2) : PE X e (tTwo t1 t2) := fun pins s σ H Q I h => h.elim (h1 pins s σ H Q I) (h2 pins s σ H Q I)
end
end L2

set_option Elab.async false
set_option linter.all false
set_option maxRecDepth 100000
namespace Wv
open PySem
/-! ## orders and who turns -/
def fctN : Nat → Nat
  | 0 => 1
  | k + 1 => fctN k * (k + 1)
def turnB (tb : List Bool) (m g : Int) : Bool := !(hasB g m || at_ tb g) && at_ tb (Builtin.bitOr g (1 * 2 ^ m.toNat))
def ordStep (k : Nat) (L : List (List Int)) (j : Nat) : List (List Int) := (List.range j).flatMap fun a => L.map fun o => o.take a ++ [(k : Int)] ++ o.drop a
def ordL : Nat → List (List Int)
  | 0 => [[]]
  | k + 1 => ordStep k (ordL k) (k + 1)
def turnF (tb : List Bool) : Int → List Int → Int
  | _, [] => -1
  | g, m :: r => if (!at_ tb g && at_ tb (Builtin.bitOr g (1 * 2 ^ m.toNat))) = true then m else turnF tb (Builtin.bitOr g (1 * 2 ^ m.toNat)) r
def preF (x : Int) : Int → List Int → Int
  | g, [] => g
  | g, m :: r => if m = x then g else preF x (Builtin.bitOr g (1 * 2 ^ m.toNat)) r
def wN (n : Nat) (g : Int) : Nat := fctN (ins 5 g).length * fctN (n - 1 - (ins 5 g).length)
section
variable {n : Nat} {tb : List Bool}
end
end Wv

set_option Elab.async false
set_option linter.all false
set_option maxRecDepth 1000000
namespace Wv
open PySem
/-! ## telling: every growing table has a trade or weights (a check in the kernel) -/
def bt (T g : Nat) : Bool := Nat.beq (Nat.land (Nat.shiftRight T g) 1) 1
noncomputable def fc (x : Nat) (f : Nat → Bool) : Bool := @Nat.rec (fun _ => Bool) (f 0) (fun k _ => f (Nat.succ k)) x
def mm : Nat → List Nat
  | 0 => [0, 1]
  | n + 1 => (mm n).flatMap fun a => ((mm n).filter fun b => Nat.beq (Nat.land a b) a).map fun b => Nat.add a (Nat.mul (Nat.pow 2 (Nat.pow 2 n)) b)
noncomputable def cnt (p : Nat → Bool) (l : List Nat) : Nat := @List.rec Nat (fun _ => Nat) 0 (fun g _ k => @Bool.rec (fun _ => Nat) k (Nat.succ k) (p g)) l
noncomputable def al (p : Nat → Bool) (l : List Nat) : Bool := @List.rec Nat (fun _ => Bool) true (fun g _ k => @Bool.rec (fun _ => Bool) false k (p g)) l
noncomputable def an (p : Nat → Bool) (l : List Nat) : Bool := @List.rec Nat (fun _ => Bool) false (fun g _ k => @Bool.rec (fun _ => Bool) k true (p g)) l
noncomputable def look (k : Nat) (l : List (Nat × Nat × Nat)) : Nat × Nat := @List.rec (Nat × Nat × Nat) (fun _ => Nat × Nat) (0, 0) (fun r _ z => @Bool.rec (fun _ => Nat × Nat) z r.2 (Nat.beq r.1 k)) l
/-- the weight of a strength, by a packed row -/
def wS (W s : Nat) : Nat := Nat.land (Nat.shiftRight W (Nat.mul 3 s)) 7
noncomputable def wsum (g W : Nat) (st : List Nat) : Nat := @List.rec Nat (fun _ => Nat → Nat) (fun _ => 0) (fun s _ k g => @Bool.rec (fun _ => Nat) (k (Nat.shiftRight g 1)) (Nat.add (wS W s) (k (Nat.shiftRight g 1))) (Nat.beq (Nat.land g 1) 1)) st g
def clsN : Nat → List (Nat × Nat × Nat)
  | 1 => [(1, 0, 1), (8, 321685687669320, 1), (9, 0, 0)]
  | 2 => [(2, 0, 1), (16, 321685687669320, 2), (72, 321685687669312, 1), (128, 321685687669312, 1), (129, 0, 0)]
  | 3 => [(3, 0, 1), (24, 321685687669320, 3), (136, 321685687669312, 2), (640, 643371375338560, 3), (4224, 321685687668736, 1), (1536, 321685687669248, 2), (5120, 643371375337984, 2), (8704, 321685687668736, 1), (12288, 321685687668736, 1), (12289, 0, 0)]
  | 4 => [(4, 0, 1), (32, 321685687669320, 4), (200, 321685687669312, 3), (1152, 643371375338560, 5), (8320, 321685687668736, 2), (5632, 643371375337984, 4), (37888, 965057063002624, 5), (270848, 643371375300608, 3), (2109440, 965057062408192, 4), (16789504, 321685685272576, 1), (16384, 321685687668736, 3), (73728, 643371375333376, 4), (331776, 965057062965248, 5), (2195456, 643371375034368, 3), (16875520, 965057058209792, 3), (790528, 321685687631872, 2), (2654208, 965057062666240, 4), (17334272, 643371372904448, 2), (4718592, 643371375001600, 3), (19398656, 965057060274176, 3), (34078720, 321685685272576, 1), (8388608, 321685687369728, 2), (23068672, 643371372642304, 2), (37748736, 643371372642304, 2), (52428800, 321685685272576, 1), (67108864, 321685685272576, 1), (67108865, 0, 0)]
  | 5 => [(5, 0, 1), (40, 321685687669320, 5), (264, 321685687669312, 4), (1664, 643371375338560, 7), (12416, 321685687668736, 3), (9728, 643371375337984, 6), (70656, 965057063002624, 8), (532992, 643371375300608, 5), (4206592, 965057062408192, 7), (33566720, 321685685272576, 2), (49152, 643371375333376, 5), (335872, 965057062965248, 7), (2428928, 1286742750334976, 9), (18972672, 965057060306944, 6), (151093248, 1286742726705152, 7), (17567744, 643371372904448, 4), (136871936, 1608428399656960, 9), (1091076096, 965056907182080, 5), (1078460416, 1286742443556864, 7), (8609333248, 1608425981345792, 8), (68753555456, 643361555873792, 3), (8598323200, 965054608441344, 5), (68742545408, 1286723113844736, 6), (549793562624, 1608192826015744, 7), (4398098939904, 963800475893760, 4), (35184439197696, 1271663731671040, 5), (281475043819520, 281474976710656, 1), (163840, 321685687664640, 4), (851968, 643371375296512, 6), (4751360, 965057062666240, 8), (34340864, 643371372904448, 5), (269221888, 965057024622592, 6), (23101440, 965057060306944, 7), (155451392, 1286742728769536, 8), (1212416000, 1608428246269952, 9), (1111490560, 965056906919936, 6), (8745123840, 1286741501673472, 7), (68992106496, 1608408765562880, 8), (8657043456, 643370145808384, 4), (68904026112, 965047224369152, 5), (550057803776, 1286585656016896, 6), (4398465941504, 1606543539699712, 7), (35184908959744, 955004366094336, 4), (281475513581568, 1166110598627328, 4), (67141632, 321685685272576, 3), (302252032, 965057041399808, 7), (2181300224, 643371219550208, 4), (1361051648, 1286742575415296, 8), (9816768512, 1608427035951104, 9), (70885834752, 965047090151424, 5), (9009364992, 965055814303744, 6), (70078431232, 1286732758646784, 7), (552054292480, 1608271190294528, 8), (4401284513792, 642742929588224, 3), (35187727532032, 1593349249171456, 6), (281478332153856, 884635487698944, 3), (3254779904, 643371219550208, 5), (18287165440, 965055680086016, 6), (85932900352, 1286730476945408, 7), (11005853696, 1286741331804160, 8), (78651588608, 1608417202405376, 9), (567204118528, 964977280155648, 5), (4416434339840, 1607170453929984, 7), (35203699441664, 1276688692412416, 5), (281494304063488, 1487794924945408, 5), (206191984640, 321675870601216, 2), (687463202816, 1286644560822272, 6), (4536693424128, 964418800189440, 4), (35323958525952, 1598355973079040, 6), (281614563147776, 603150847311872, 2), (20401094656, 965055529091072, 7), (140660178944, 643361404878848, 4), (629212708864, 1608338550816768, 8), (4485019598848, 1286103260725248, 6), (35278861369344, 960019679936512, 4), (281569465991168, 1206310284558336, 4), (1170378588160, 964968556003328, 5), (5026185478144, 1607710411849728, 7), (35820027248640, 1281626831060992, 5), (282110631870464, 1527917435682816, 5), (8934605717504, 642733265911808, 3), (39728447488000, 1602134470557696, 6), (286019052109824, 924208242622464, 3), (70574902607872, 954994568200192, 4), (316865507229696, 1236469544910848, 4), (563156111851520, 281474976710656, 1), (42949672960, 321684460535808, 3), (163208757248, 965044791672832, 6), (704374636544, 1286651942797312, 7), (4612794875904, 964417726447616, 5), (35459249995776, 638335219400704, 3), (281749854617600, 884625824022528, 3), (1666447310848, 643291611660288, 4), (5574867550208, 1286024877572096, 6), (36421322670080, 959942370525184, 4), (282711927291904, 1206232975147008, 4), (9904194584576, 964349006970880, 5), (40750649704448, 1280999765835776, 5), (287041254326272, 1527290370457600, 5), (72018011619328, 638266499923968, 3), (318308616241152, 919741476634624, 3), (564599220862976, 884557104545792, 3), (17600775979008, 321057395310592, 2), (48447231098880, 959392614711296, 4), (294737835720704, 602532372021248, 2), (79714593013760, 959323895234560, 4), (326005197635584, 1240798871945216, 4), (572295802257408, 602532372021248, 2), (114349209288704, 637716744110080, 3), (360639813910528, 919191720820736, 3), (606930418532352, 919191720820736, 3), (853221023154176, 281474976710656, 1), (175921860444160, 316659348799488, 2), (422212465065984, 598134325510144, 2), (668503069687808, 598134325510144, 2), (914793674309632, 598134325510144, 2), (1161084278931456, 281474976710656, 1), (1407374883553280, 281474976710656, 1), (1407374883553281, 0, 0)]
  | _ => []
def ups : Nat → List Nat
  | 1 => [0, 1]
  | 2 => [0, 1, 2, 3]
  | 3 => [0, 1, 2, 3, 4, 5, 6, 7]
  | 4 => [0, 1, 2, 3, 4, 5, 6, 7, 8, 9, 10, 11, 12, 13, 14, 15]
  | _ => [0, 1, 2, 3, 4, 5, 6, 7, 8, 9, 10, 11, 12, 13, 14, 15, 16, 17, 18, 19, 20, 21, 22, 23, 24, 25, 26, 27, 28, 29, 30, 31]
noncomputable def stN (n T m : Nat) : Nat := cnt (fun g => @Bool.rec (fun _ => Bool) false (bt g m) (bt T g)) (ups n)
noncomputable def wOk (n T : Nat) (st : List Nat) (W q : Nat) : Bool := al (fun g => @Bool.rec (fun _ => Bool) (Nat.ble (Nat.succ (wsum g W st)) q) (Nat.ble q (wsum g W st)) (bt T g)) (ups n)
noncomputable def stl (n T : Nat) (k : List Nat → Bool) : Bool := match n with
  | 1 => fc (stN n T 0) fun a => k [a]
  | 2 => fc (stN n T 0) fun a => fc (stN n T 1) fun b => k [a, b]
  | 3 => fc (stN n T 0) fun a => fc (stN n T 1) fun b => fc (stN n T 2) fun c => k [a, b, c]
  | 4 => fc (stN n T 0) fun a => fc (stN n T 1) fun b => fc (stN n T 2) fun c => fc (stN n T 3) fun d => k [a, b, c, d]
  | _ => fc (stN n T 0) fun a => fc (stN n T 1) fun b => fc (stN n T 2) fun c => fc (stN n T 3) fun d => fc (stN n T 4) fun e => k [a, b, c, d, e]
noncomputable def keyN (T : Nat) (st : List Nat) : Nat := @List.rec Nat (fun _ => Nat) (Nat.land T 1) (fun s _ k => Nat.add (Nat.pow 8 s) k) st
noncomputable def chkW (n T : Nat) : Bool := fc T fun T => stl n T fun st => fc (look (keyN T st) (clsN n)).1 fun W => wOk n T st W (look (keyN T st) (clsN n)).2
noncomputable def flt (p : Nat → Bool) (l : List Nat) (k : List Nat → Bool) : Bool := @List.rec Nat (fun _ => List Nat → Bool) k (fun g _ ih acc => @Bool.rec (fun _ => Bool) (ih acc) (ih (g :: acc)) (p g)) l []
noncomputable def anP (p : Nat → Nat → Bool) (l : List Nat) : Bool := @List.rec Nat (fun _ => Bool) false (fun x r k => @Bool.rec (fun _ => Bool) k true (an (p x) r)) l
def mem1 : Nat → List Nat
  | 1 => [0]
  | 2 => [0, 1]
  | 3 => [0, 1, 2]
  | 4 => [0, 1, 2, 3]
  | _ => [0, 1, 2, 3, 4]
noncomputable def lstB (n T g : Nat) : Bool := @Bool.rec (fun _ => Bool) false (al (fun m => @Bool.rec (fun _ => Bool) true (@Bool.rec (fun _ => Bool) true false (bt T (Nat.sub g (Nat.pow 2 m)))) (bt g m)) (mem1 n)) (bt T g)
noncomputable def grtB (n T g : Nat) : Bool := @Bool.rec (fun _ => Bool) (al (fun m => @Bool.rec (fun _ => Bool) (bt T (Nat.add g (Nat.pow 2 m))) true (bt g m)) (mem1 n)) false (bt T g)
noncomputable def subN (a b : Nat) : Bool := Nat.beq (Nat.land a b) a
noncomputable def chkT (n T : Nat) : Bool := fc T fun T => flt (lstB n T) (ups n) fun L => flt (grtB n T) (ups n) fun F =>
  anP (fun x y => fc (Nat.lor x y) fun o => fc (Nat.land x y) fun a => anP (fun u v => @Bool.rec (fun _ => Bool) false (subN a (Nat.land u v)) (subN o (Nat.lor u v))) F) L
theorem chk4 : ((mm 1).all (fun T => chkW 1 T || chkT 1 T) && (mm 2).all (fun T => chkW 2 T || chkT 2 T) && (mm 3).all (fun T => chkW 3 T || chkT 3 T) && (mm 4).all (fun T => chkW 4 T || chkT 4 T)) = true := by decide +kernel
/-- the tables of five members whose lower half is a -/
def mmA (a : Nat) : List Nat := ((mm 4).filter fun b => Nat.beq (Nat.land a b) a).map fun b => Nat.add a (Nat.mul (Nat.pow 2 (Nat.pow 2 4)) b)
/-- some of them at a time: each piece keeps the kernel's memory small -/
noncomputable def chkP (i k : Nat) : Bool := (((mm 4).drop i).take k).all fun a => (mmA a).all fun T => chkW 5 T || chkT 5 T
theorem chkP_0 : chkP 0 3 = true := by decide +kernel
theorem chkP_1 : chkP 3 4 = true := by decide +kernel
theorem chkP_2 : chkP 7 5 = true := by decide +kernel
theorem chkP_3 : chkP 12 9 = true := by decide +kernel
theorem chkP_4 : chkP 21 5 = true := by decide +kernel
theorem chkP_5 : chkP 26 5 = true := by decide +kernel
theorem chkP_6 : chkP 31 9 = true := by decide +kernel
theorem chkP_7 : chkP 40 9 = true := by decide +kernel
theorem chkP_8 : chkP 49 9 = true := by decide +kernel
theorem chkP_9 : chkP 58 12 = true := by decide +kernel
theorem chkP_10 : chkP 70 17 = true := by decide +kernel
theorem chkP_11 : chkP 87 11 = true := by decide +kernel
theorem chkP_12 : chkP 98 14 = true := by decide +kernel
theorem chkP_13 : chkP 112 21 = true := by decide +kernel
theorem chkP_14 : chkP 133 35 = true := by decide +kernel
theorem mm4_pieces : mm 4 = ((mm 4).drop 0).take 3 ++ (((mm 4).drop 3).take 4 ++ (((mm 4).drop 7).take 5 ++ (((mm 4).drop 12).take 9 ++ (((mm 4).drop 21).take 5 ++ (((mm 4).drop 26).take 5 ++ (((mm 4).drop 31).take 9 ++ (((mm 4).drop 40).take 9 ++ (((mm 4).drop 49).take 9 ++ (((mm 4).drop 58).take 12 ++ (((mm 4).drop 70).take 17 ++ (((mm 4).drop 87).take 11 ++ (((mm 4).drop 98).take 14 ++ (((mm 4).drop 112).take 21 ++ (((mm 4).drop 133).take 35)))))))))))))) := by decide +kernel
theorem chk5 : (mm 5).all (fun T => chkW 5 T || chkT 5 T) = true := by
  show ((mm 4).flatMap mmA).all (fun T => chkW 5 T || chkT 5 T) = true
  rw [List.all_flatMap, mm4_pieces]
  simp only [List.all_append, Bool.and_eq_true]
  exact ⟨chkP_0, chkP_1, chkP_2, chkP_3, chkP_4, chkP_5, chkP_6, chkP_7, chkP_8, chkP_9, chkP_10, chkP_11, chkP_12, chkP_13, chkP_14⟩
/-- a row's weights grow with the strength, to 5 -/
def rowOk (W : Nat) : Bool := (List.range 17).all fun s => Nat.ble (wS W s) 5 && (List.range 17).all fun t => Nat.ble s t == false || Nat.ble (wS W s) (wS W t)
theorem rows_ok : ((clsN 1).all (fun r => rowOk r.2.1) && (clsN 2).all (fun r => rowOk r.2.1) && (clsN 3).all (fun r => rowOk r.2.1) && (clsN 4).all (fun r => rowOk r.2.1) && (clsN 5).all (fun r => rowOk r.2.1) && rowOk 0) = true := by decide +kernel
end Wv

set_option Elab.async false
set_option linter.all false
set_option maxRecDepth 100000
namespace Wv
open PySem
/-! ## what the check says -/
theorem fc_eq (x : Nat) (f : Nat → Bool) : fc x f = f x := by cases x <;> rfl
theorem bt_test (T g : Nat) : bt T g = T.testBit g := by
  unfold bt
  rw [Nat.testBit_eq_decide_div_mod_eq]
  have e : Nat.land (Nat.shiftRight T g) 1 = T / 2 ^ g % 2 := by
    show (T >>> g) &&& 1 = _
    rw [Nat.and_one_is_mod, Nat.shiftRight_eq_div_pow]
  rw [e]
  cases h : decide (T / 2 ^ g % 2 = 1) with
  | true => rw [of_decide_eq_true h]; rfl
  | false =>
    cases q : Nat.beq (T / 2 ^ g % 2) 1 with
    | false => rfl
    | true => exact absurd (Nat.eq_of_beq_eq_true q) (of_decide_eq_false h)
theorem cnt_eq (p : Nat → Bool) : ∀ l : List Nat, cnt p l = (l.filter p).length
  | [] => rfl
  | g :: r => by
    show @Bool.rec (fun _ => Nat) (cnt p r) (Nat.succ (cnt p r)) (p g) = _
    rw [List.filter_cons, cnt_eq p r]
    cases p g <;> rfl
theorem al_eq (p : Nat → Bool) : ∀ l : List Nat, al p l = l.all p
  | [] => rfl
  | g :: r => by
    show @Bool.rec (fun _ => Bool) false (al p r) (p g) = _
    rw [List.all_cons, al_eq p r]
    cases p g <;> rfl
theorem an_eq (p : Nat → Bool) : ∀ l : List Nat, an p l = l.any p
  | [] => rfl
  | g :: r => by
    show @Bool.rec (fun _ => Bool) (an p r) true (p g) = _
    rw [List.any_cons, an_eq p r]
    cases p g <;> rfl
theorem flt_eq (p : Nat → Bool) (l : List Nat) (k : List Nat → Bool) : flt p l k = k (l.filter p).reverse := by
  have gen : ∀ (l acc : List Nat), @List.rec Nat (fun _ => List Nat → Bool) k (fun g _ ih acc => @Bool.rec (fun _ => Bool) (ih acc) (ih (g :: acc)) (p g)) l acc = k ((l.filter p).reverse ++ acc) := by
    intro l
    induction l with
    | nil => intro acc; rfl
    | cons g r ih =>
      intro acc
      show @Bool.rec (fun _ => Bool) (@List.rec Nat (fun _ => List Nat → Bool) k (fun g _ ih acc => @Bool.rec (fun _ => Bool) (ih acc) (ih (g :: acc)) (p g)) r acc) (@List.rec Nat (fun _ => List Nat → Bool) k (fun g _ ih acc => @Bool.rec (fun _ => Bool) (ih acc) (ih (g :: acc)) (p g)) r (g :: acc)) (p g) = _
      rw [ih, ih, List.filter_cons]
      cases p g with
      | false => rfl
      | true =>
        show k _ = k _
        rw [if_pos rfl, List.reverse_cons, List.append_assoc]
        rfl
  have := gen l []
  rw [List.append_nil] at this
  exact this
theorem anP_ex (p : Nat → Nat → Bool) : ∀ {l : List Nat}, anP p l = true → ∃ x y, [x, y].Sublist l ∧ p x y = true
  | [], h => by cases h
  | x :: r, h => by
    have h' : @Bool.rec (fun _ => Bool) (anP p r) true (an (p x) r) = true := h
    rw [an_eq] at h'
    cases q : r.any (p x) with
    | true =>
      obtain ⟨y, hy, hp⟩ := List.any_eq_true.mp q
      exact ⟨x, y, List.Sublist.cons_cons _ (List.singleton_sublist.mpr hy), hp⟩
    | false =>
      rw [q] at h'
      obtain ⟨a, b, hs, hp⟩ := anP_ex p (l := r) h'
      exact ⟨a, b, hs.cons _, hp⟩
theorem look_mem (k : Nat) : ∀ l : List (Nat × Nat × Nat), look k l = (0, 0) ∨ ∃ r ∈ l, look k l = r.2
  | [] => .inl rfl
  | r :: l => by
    have e : look k (r :: l) = @Bool.rec (fun _ => Nat × Nat) (look k l) r.2 (Nat.beq r.1 k) := rfl
    rw [e]
    cases Nat.beq r.1 k with
    | true => exact .inr ⟨r, List.mem_cons_self, rfl⟩
    | false =>
      rcases look_mem k l with h | ⟨x, hx, h⟩
      · exact .inl h
      · exact .inr ⟨x, List.mem_cons_of_mem _ hx, h⟩
theorem ups_range : ∀ n : Fin 6, 1 ≤ n.val → ups n.val = List.range (2 ^ n.val) := by decide +kernel
theorem mem1_range : ∀ n : Fin 6, 1 ≤ n.val → mem1 n.val = List.range n.val := by decide +kernel
/-! ## a table as a number -/
def natOf : List Bool → Nat
  | [] => 0
  | b :: r => b.toNat + 2 * natOf r
theorem natOf_test : ∀ (tb : List Bool) (g : Nat), (natOf tb).testBit g = tb.getD g false
  | [], g => by simp [natOf]
  | b :: r, 0 => by
    unfold natOf
    rw [Nat.testBit_zero]
    cases b <;> simp <;> omega
  | b :: r, g + 1 => by
    unfold natOf
    rw [Nat.testBit_succ]
    have e : (b.toNat + 2 * natOf r) / 2 = natOf r := by cases b <;> simp <;> omega
    rw [e, natOf_test r g]
    simp
theorem natOf_append : ∀ (a b : List Bool), natOf (a ++ b) = natOf a + 2 ^ a.length * natOf b
  | [], b => by simp [natOf]
  | x :: a, b => by
    show x.toNat + 2 * natOf (a ++ b) = x.toNat + 2 * natOf a + 2 ^ (a.length + 1) * natOf b
    rw [natOf_append a b, Nat.pow_succ, Nat.mul_add, Nat.mul_comm (2 ^ a.length) 2, Nat.mul_assoc]
    omega
theorem natOf_and {a b : List Bool} (h : ∀ i : Nat, a.getD i false = true → b.getD i false = true) : Nat.land (natOf a) (natOf b) = natOf a := by
  show natOf a &&& natOf b = natOf a
  refine Nat.eq_of_testBit_eq fun i => ?_
  rw [Nat.testBit_and, natOf_test, natOf_test]
  cases q : a.getD i false with
  | false => rfl
  | true => rw [h i q]; rfl
def MonoN (k : Nat) (tb : List Bool) : Prop := ∀ i j : Nat, i < 2 ^ k → j < 2 ^ k → i &&& j = i → tb.getD i false = true → tb.getD j false = true
theorem half_f : ∀ k : Fin 5, ∀ i : Fin 16, ∀ j : Fin 16, i.val < 2 ^ k.val → j.val < 2 ^ k.val → i.val &&& j.val = i.val → (2 ^ k.val + i.val) &&& (2 ^ k.val + j.val) = 2 ^ k.val + i.val := by decide +kernel
theorem half_g : ∀ k : Fin 5, ∀ i : Fin 16, i.val < 2 ^ k.val → i.val &&& (2 ^ k.val + i.val) = i.val := by decide +kernel
theorem pow4 : ∀ k : Fin 5, 2 ^ k.val ≤ 16 := by decide
theorem mono_mem : ∀ (k : Nat), k ≤ 5 → ∀ tb : List Bool, tb.length = 2 ^ k → MonoN k tb → natOf tb ∈ mm k
  | 0, _, tb, hl, _ => by
    match tb, hl with
    | [b], _ => cases b <;> decide
  | k + 1, hk, tb, hl, hM => by
    have h16 : 2 ^ k ≤ 16 := pow4 ⟨k, by omega⟩
    have hp : 2 ^ (k + 1) = 2 ^ k + 2 ^ k := by rw [Nat.pow_succ]; omega
    have g1 : ∀ i, i < 2 ^ k → (tb.take (2 ^ k)).getD i false = tb.getD i false := fun i hi => by
      rw [List.getD_eq_getElem?_getD, List.getElem?_take_of_lt hi, ← List.getD_eq_getElem?_getD]
    have g2 : ∀ i, (tb.drop (2 ^ k)).getD i false = tb.getD (2 ^ k + i) false := fun i => by
      rw [List.getD_eq_getElem?_getD, List.getElem?_drop, ← List.getD_eq_getElem?_getD]
    have l1 : (tb.take (2 ^ k)).length = 2 ^ k := by rw [List.length_take]; omega
    have l2 : (tb.drop (2 ^ k)).length = 2 ^ k := by rw [List.length_drop]; omega
    have m1 := mono_mem k (by omega) (tb.take (2 ^ k)) l1 fun i j hi hj hij h => by
      rw [g1 i hi] at h
      rw [g1 j hj]
      exact hM i j (by omega) (by omega) hij h
    have m2 := mono_mem k (by omega) (tb.drop (2 ^ k)) l2 fun i j hi hj hij h => by
      rw [g2] at h ⊢
      exact hM (2 ^ k + i) (2 ^ k + j) (by omega) (by omega) (half_f ⟨k, by omega⟩ ⟨i, by omega⟩ ⟨j, by omega⟩ hi hj hij) h
    have m3 : Nat.land (natOf (tb.take (2 ^ k))) (natOf (tb.drop (2 ^ k))) = natOf (tb.take (2 ^ k)) := natOf_and fun i h => by
      by_cases hi : i < 2 ^ k
      · rw [g1 i hi] at h
        rw [g2]
        exact hM i (2 ^ k + i) (by omega) (by omega) (half_g ⟨k, by omega⟩ ⟨i, by omega⟩ hi) h
      · rw [List.getD_eq_getElem?_getD, List.getElem?_eq_none (by omega)] at h
        cases h
    have e : natOf tb = natOf (tb.take (2 ^ k)) + 2 ^ 2 ^ k * natOf (tb.drop (2 ^ k)) := by
      have q := natOf_append (tb.take (2 ^ k)) (tb.drop (2 ^ k))
      rw [List.take_append_drop, l1] at q
      exact q
    rw [e]
    show _ ∈ (mm k).flatMap _
    exact List.mem_flatMap.mpr ⟨_, m1, List.mem_map.mpr ⟨_, List.mem_filter.mpr ⟨m2, by rw [m3]; exact Nat.beq_refl _⟩, rfl⟩⟩
theorem and_within : ∀ i : Fin 32, ∀ j : Fin 32, i.val &&& j.val = i.val → withinB (i.val : Int) (j.val : Int) = true := by decide +kernel
section
variable {n : Nat} {tb : List Bool}
theorem mono_nat (hn : n ≤ 5) (hM : Mono n tb) : MonoN n tb := fun i j hi hj hij h => by
  have h5 := two_le hn
  have q := hM (i : Int) (j : Int) (mem_up.mpr ⟨by omega, by omega⟩) (mem_up.mpr ⟨by omega, by omega⟩) (and_within ⟨i, by omega⟩ ⟨j, by omega⟩ hij)
  exact q h
theorem bt_at (g : Nat) : bt (natOf tb) g = at_ tb (g : Int) := by
  rw [bt_test, natOf_test]
  rfl
theorem chk_all (h1 : 1 ≤ n) (hn : n ≤ 5) (hl : tb.length = 2 ^ n) (hM : Mono n tb) : chkW n (natOf tb) = true ∨ chkT n (natOf tb) = true := by
  have hm := mono_mem n hn tb hl (mono_nat hn hM)
  have c4 := chk4
  have c5 := chk5
  simp only [Bool.and_eq_true, List.all_eq_true, Bool.or_eq_true] at c4 c5
  match n, h1, hn, hm with
  | 1, _, _, hm => exact c4.1.1.1 _ hm
  | 2, _, _, hm => exact c4.1.1.2 _ hm
  | 3, _, _, hm => exact c4.1.2 _ hm
  | 4, _, _, hm => exact c4.2 _ hm
  | 5, _, _, hm => exact c5 _ hm
end
end Wv

set_option Elab.async false
set_option linter.all false
set_option maxRecDepth 100000
namespace Wv
open PySem
/-! ## telling, as the text reckons it -/
abbrev leastI (n : Nat) (tb : List Bool) : List Int := leastBy (fun g m => g - 1 * 2 ^ m.toNat) n tb
abbrev greatI (n : Nat) (tb : List Bool) : List Int := greatBy (fun g m => g + 1 * 2 ^ m.toNat) n tb
theorem tl_tr_f : ∀ a : Fin 32, ∀ b : Fin 32, withinB a.val b.val = true → ∀ c : Fin 32, withinB b.val c.val = true → withinB a.val c.val = true := by decide +kernel
theorem tl_sub_f : ∀ g : Fin 32, ∀ m : Fin 5, hasB (g.val : Int) (m.val : Int) = true → withinB ((g.val : Int) - 1 * 2 ^ ((m.val : Int)).toNat) (g.val : Int) = true := by decide +kernel
theorem tl_add_f : ∀ g : Fin 32, ∀ m : Fin 5, hasB (g.val : Int) (m.val : Int) = false → withinB (g.val : Int) ((g.val : Int) + 1 * 2 ^ ((m.val : Int)).toNat) = true := by decide +kernel
section
variable {n : Nat} {tb : List Bool}
theorem tl_tr (hn : n ≤ 5) {a b c : Int} (ha : a ∈ up (2 ^ n)) (hb : b ∈ up (2 ^ n)) (hc : c ∈ up (2 ^ n)) (h1 : withinB a b = true) (h2 : withinB b c = true) : withinB a c = true := by
  have h5 := two_le hn
  obtain ⟨a0, a1⟩ := mem_up.mp ha
  obtain ⟨b0, b1⟩ := mem_up.mp hb
  obtain ⟨c0, c1⟩ := mem_up.mp hc
  have e1 : ((a.toNat : Nat) : Int) = a := by omega
  have e2 : ((b.toNat : Nat) : Int) = b := by omega
  have e3 : ((c.toNat : Nat) : Int) = c := by omega
  have q := tl_tr_f ⟨a.toNat, by omega⟩ ⟨b.toNat, by omega⟩ (by simp only [e1, e2]; exact h1) ⟨c.toNat, by omega⟩ (by simp only [e2, e3]; exact h2)
  simpa only [e1, e3] using q
theorem tl_sub (hn : n ≤ 5) {g m : Int} (hg : g ∈ up (2 ^ n)) (hm : m ∈ ins n g) : withinB (g - 1 * 2 ^ m.toNat) g = true := by
  have h5 := two_le hn
  obtain ⟨g0, g1⟩ := mem_up.mp hg
  obtain ⟨hm1, hm2⟩ := List.mem_filter.mp hm
  obtain ⟨m0, m1⟩ := mem_up.mp hm1
  have e1 : ((g.toNat : Nat) : Int) = g := by omega
  have e2 : ((m.toNat : Nat) : Int) = m := by omega
  have q := tl_sub_f ⟨g.toNat, by omega⟩ ⟨m.toNat, by omega⟩ (by simp only [e1, e2]; exact hm2)
  simpa only [e1, e2] using q
theorem tl_add (hn : n ≤ 5) {g m : Int} (hg : g ∈ up (2 ^ n)) (hm : m ∈ outs n g) : withinB g (g + 1 * 2 ^ m.toNat) = true := by
  have h5 := two_le hn
  obtain ⟨g0, g1⟩ := mem_up.mp hg
  obtain ⟨hm1, hm2⟩ := List.mem_filter.mp hm
  obtain ⟨m0, m1⟩ := mem_up.mp hm1
  have e1 : ((g.toNat : Nat) : Int) = g := by omega
  have e2 : ((m.toNat : Nat) : Int) = m := by omega
  have q := tl_add_f ⟨g.toNat, by omega⟩ ⟨m.toNat, by omega⟩ (by simp only [e1, e2]; simpa using hm2)
  simpa only [e1, e2] using q
theorem leastI_mem {g : Int} (h : g ∈ leastI n tb) : g ∈ up (2 ^ n) ∧ at_ tb g = true := by
  obtain ⟨h1, h2⟩ := List.mem_filter.mp h
  rw [Bool.and_eq_true] at h2
  exact ⟨h1, h2.1⟩
theorem greatI_mem {g : Int} (h : g ∈ greatI n tb) : g ∈ up (2 ^ n) ∧ at_ tb g = false := by
  obtain ⟨h1, h2⟩ := List.mem_filter.mp h
  rw [Bool.and_eq_true] at h2
  exact ⟨h1, by simpa using h2.1⟩
theorem tl_least (hn : n ≤ 5) : ∀ (k : Nat) (g : Int), g.toNat = k → g ∈ up (2 ^ n) → at_ tb g = true → ∃ o ∈ leastI n tb, withinB o g = true := by
  intro k
  induction k using Nat.strongRecOn with
  | _ k ih =>
    intro g hk hg ht
    cases hb : ((ins n g).map fun m => at_ tb (g - 1 * 2 ^ m.toNat)).any id with
    | false =>
      exact ⟨g, List.mem_filter.mpr ⟨hg, by rw [ht, hb]; rfl⟩, within_self hn hg⟩
    | true =>
      rw [List.any_map, List.any_eq_true] at hb
      obtain ⟨m, hm, ha⟩ := hb
      have ok := sub_ok hn hg hm
      have hp : (0 : Int) < 2 ^ m.toNat := Int.pow_pos (by decide)
      obtain ⟨g0, g1⟩ := mem_up.mp hg
      obtain ⟨o, ho, hw⟩ := ih (g - 1 * 2 ^ m.toNat).toNat (by omega) (g - 1 * 2 ^ m.toNat) rfl (mem_up.mpr ok.2) ha
      exact ⟨o, ho, tl_tr hn (leastI_mem ho).1 (mem_up.mpr ok.2) hg hw (tl_sub hn hg hm)⟩
theorem tl_great (hn : n ≤ 5) : ∀ (k : Nat) (g : Int), 2 ^ n - g.toNat = k → g ∈ up (2 ^ n) → at_ tb g = false → ∃ o ∈ greatI n tb, withinB g o = true := by
  intro k
  induction k using Nat.strongRecOn with
  | _ k ih =>
    intro g hk hg ht
    cases hb : ((outs n g).map fun m => at_ tb (g + 1 * 2 ^ m.toNat)).all id with
    | true =>
      exact ⟨g, List.mem_filter.mpr ⟨hg, by rw [ht, hb]; rfl⟩, within_self hn hg⟩
    | false =>
      rw [List.all_map, List.all_eq_false] at hb
      obtain ⟨m, hm, ha⟩ := hb
      have ok := add_ok hn hg hm
      have hp : (0 : Int) < 2 ^ m.toNat := Int.pow_pos (by decide)
      obtain ⟨g0, g1⟩ := mem_up.mp hg
      obtain ⟨o, ho, hw⟩ := ih (2 ^ n - (g + 1 * 2 ^ m.toNat).toNat) (by omega) (g + 1 * 2 ^ m.toNat) rfl (mem_up.mpr ok.2) (by simpa using ha)
      exact ⟨o, ho, tl_tr hn hg (mem_up.mpr ok.2) (greatI_mem ho).1 (tl_add hn hg hm) hw⟩
theorem getD_nonneg {ws : List Int} (h0 : ∀ w ∈ ws, 0 ≤ w) (i : Nat) : 0 ≤ ws.getD i 0 := by
  rw [List.getD_eq_getElem?_getD]
  cases e : ws[i]? with
  | none => exact Int.le_refl _
  | some w => exact h0 w (List.mem_of_getElem? e)
theorem wt_within (hn : n ≤ 5) {ws : List Int} (hl : ws.length = n) (h0 : ∀ w ∈ ws, 0 ≤ w) {o g : Int} (ho : o ∈ up (2 ^ n)) (hg : g ∈ up (2 ^ n)) (h : withinB o g = true) : wtOf ws o ≤ wtOf ws g := by
  unfold wtOf
  exact wt_le (fun x hx q => within_has hn ho hg h (by rw [← hl]; exact hx) q) fun x _ => getD_nonneg h0 _
/-- weights that part the least from the greatest groups make the table -/
theorem made_of (hn : n ≤ 5) {ws : List Int} (hl : ws.length = n) (h0 : ∀ w ∈ ws, 0 ≤ w) {q : Int} (h1 : ∀ g ∈ leastI n tb, q ≤ wtOf ws g) (h2 : ∀ g ∈ greatI n tb, wtOf ws g < q) {g : Int} (hg : g ∈ up (2 ^ n)) : at_ tb g = decide (q ≤ wtOf ws g) := by
  cases ht : at_ tb g with
  | true =>
    obtain ⟨o, ho, hw⟩ := tl_least hn _ g rfl hg ht
    exact (decide_eq_true (Int.le_trans (h1 o ho) (wt_within hn hl h0 (leastI_mem ho).1 hg hw))).symm
  | false =>
    obtain ⟨o, ho, hw⟩ := tl_great hn _ g rfl hg ht
    have := wt_within hn hl h0 hg (greatI_mem ho).1 hw
    have := h2 o ho
    exact (decide_eq_false (by omega)).symm
end
/-! ### the quota -/
def minB : List Int → Int → Int
  | [], d => d
  | x :: r, _ => r.foldl min x
theorem foldl_min_le : ∀ (r : List Int) (x : Int), r.foldl min x ≤ x ∧ (∀ y ∈ r, r.foldl min x ≤ y) ∧ ∀ q, q ≤ x → (∀ y ∈ r, q ≤ y) → q ≤ r.foldl min x
  | [], x => ⟨Int.le_refl _, (fun _ h => nomatch h), fun _ h _ => h⟩
  | y :: r, x => by
    obtain ⟨h1, h2, h3⟩ := foldl_min_le r (min x y)
    show (r.foldl min (min x y)) ≤ x ∧ _
    refine ⟨by omega, fun z hz => ?_, fun q hq hy => h3 q (by have := hy y List.mem_cons_self; omega) fun z hz => hy z (List.mem_cons_of_mem _ hz)⟩
    rcases List.mem_cons.mp hz with rfl | hz
    · show (r.foldl min (min x z)) ≤ z; omega
    · exact h2 z hz
theorem minB_le {l : List Int} {d x : Int} (h : x ∈ l) : minB l d ≤ x := by
  cases l with
  | nil => exact nomatch h
  | cons y r =>
    rcases List.mem_cons.mp h with rfl | h
    · exact (foldl_min_le r x).1
    · exact (foldl_min_le r y).2.1 x h
theorem le_minB {l : List Int} {d q : Int} (h : ∀ x ∈ l, q ≤ x) (hd : l = [] → q ≤ d) : q ≤ minB l d := by
  cases l with
  | nil => exact hd rfl
  | cons y r => exact (foldl_min_le r y).2.2 q (h y List.mem_cons_self) fun x hx => h x (List.mem_cons_of_mem _ hx)
/-! ### falling lists -/
def fallB : Nat → Nat → List (List Int)
  | 0, _ => [[]]
  | n + 1, most => (List.range (most + 1)).flatMap fun f => (fallB n f).map fun r => (f : Int) :: r
theorem fall_mem : ∀ (l : List Int) (most : Nat), (∀ x ∈ l, 0 ≤ x ∧ x ≤ most) → l.Pairwise (fun a b => b ≤ a) → l ∈ fallB l.length most
  | [], _, _, _ => List.mem_cons_self
  | x :: r, most, h, hp => by
    have hx := h x List.mem_cons_self
    obtain ⟨h1, h2⟩ := List.pairwise_cons.mp hp
    show _ ∈ (List.range (most + 1)).flatMap fun f => (fallB r.length f).map fun r => (f : Int) :: r
    refine List.mem_flatMap.mpr ⟨x.toNat, List.mem_range.mpr (by omega), List.mem_map.mpr ⟨r, fall_mem r x.toNat (fun y hy => ⟨(h y (List.mem_cons_of_mem _ hy)).1, ?_⟩) h2, ?_⟩⟩
    · have := h1 y hy; omega
    · rw [Int.toNat_of_nonneg hx.1]
theorem fall_of : ∀ (n most : Nat) {l : List Int}, l ∈ fallB n most → l.length = n ∧ ∀ x ∈ l, 0 ≤ x ∧ x ≤ most
  | 0, _, l, h => by
    rw [List.mem_singleton.mp h]
    exact ⟨rfl, fun _ q => nomatch q⟩
  | n + 1, most, l, h => by
    obtain ⟨f, hf, h⟩ := List.mem_flatMap.mp (show l ∈ (List.range (most + 1)).flatMap fun f => (fallB n f).map fun r => (f : Int) :: r from h)
    obtain ⟨r, hr, rfl⟩ := List.mem_map.mp h
    obtain ⟨h1, h2⟩ := fall_of n f hr
    have hf' := List.mem_range.mp hf
    refine ⟨by rw [List.length_cons, h1], fun x hx => ?_⟩
    rcases List.mem_cons.mp hx with rfl | hx
    · omega
    · have := h2 x hx; omega
/-! ### weights put in their places -/
def plc (f ord : List Int) : Nat → List Int
  | 0 => List.replicate ord.length 0
  | i + 1 => (plc f ord i).set (ord.getD i 0).toNat (f.getD i 0)
theorem plc_len (f ord : List Int) : ∀ i, (plc f ord i).length = ord.length
  | 0 => List.length_replicate ..
  | i + 1 => by show ((plc f ord i).set _ _).length = _; rw [List.length_set, plc_len f ord i]
abbrev placedB (f ord : List Int) : List Int := plc f ord ord.length
theorem up_nd (n : Nat) : (up n).Nodup := by
  unfold up
  rw [List.nodup_iff_pairwise_ne, List.pairwise_map]
  exact (List.nodup_iff_pairwise_ne.mp List.nodup_range).imp fun h q => h (by omega)
section
variable {n : Nat} {ord : List Int}
theorem plc_get (hp : ord.Perm (up n)) (f : List Int) : ∀ i, i ≤ ord.length → ∀ j, j < i → (plc f ord i)[(ord.getD j 0).toNat]? = some (f.getD j 0)
  | 0, _, _, h => absurd h (Nat.not_lt_zero _)
  | i + 1, hi, j, hj => by
    have hl : ord.length = n := by rw [hp.length_eq, up_length]
    have hm : ∀ k, k < ord.length → ord.getD k 0 ∈ up n := fun k hk => by
      rw [List.getD_eq_getElem?_getD, List.getElem?_eq_getElem hk]
      exact hp.mem_iff.mp (List.getElem_mem hk)
    have nd : ord.Nodup := hp.nodup_iff.mpr (up_nd n)
    show ((plc f ord i).set (ord.getD i 0).toNat (f.getD i 0))[(ord.getD j 0).toNat]? = _
    obtain ⟨a0, a1⟩ := mem_up.mp (hm i (by omega))
    obtain ⟨b0, b1⟩ := mem_up.mp (hm j (by omega))
    by_cases e : j = i
    · subst e
      rw [List.getElem?_set_self (by rw [plc_len]; omega)]
    · rw [List.getElem?_set_ne, plc_get hp f i (by omega) j (by omega)]
      intro q
      have q2 : ord.getD i 0 = ord.getD j 0 := by omega
      rw [List.getD_eq_getElem?_getD, List.getD_eq_getElem?_getD, List.getElem?_eq_getElem (by omega), List.getElem?_eq_getElem (by omega)] at q2
      have pw := List.pairwise_iff_getElem.mp (List.nodup_iff_pairwise_ne.mp nd)
      have q3 : ord[i] = ord[j] := q2
      rcases Nat.lt_or_gt_of_ne e with h | h
      · exact pw j i (by omega) (by omega) h q3.symm
      · exact pw i j (by omega) (by omega) h q3
/-- by an order of all members, the weights as a function of the member -/
theorem placed_map (hp : ord.Perm (up n)) (w : Int → Int) : placedB (ord.map w) ord = (up n).map w := by
  have hl : ord.length = n := by rw [hp.length_eq, up_length]
  refine List.ext_getElem? fun k => ?_
  by_cases hk : k < n
  · have hm : (k : Int) ∈ ord := hp.mem_iff.mpr (mem_up.mpr ⟨by omega, by omega⟩)
    obtain ⟨j, hj, e⟩ := List.getElem_of_mem hm
    have q := plc_get hp (ord.map w) ord.length (Nat.le_refl _) j hj
    have e1 : ord.getD j 0 = (k : Int) := by rw [List.getD_eq_getElem?_getD, List.getElem?_eq_getElem hj, e]; rfl
    have e2 : (ord.map w).getD j 0 = w k := by rw [List.getD_eq_getElem?_getD, List.getElem?_map, List.getElem?_eq_getElem hj, e]; rfl
    rw [e1, e2, Int.toNat_natCast] at q
    rw [q, List.getElem?_map, up_get hk]
    rfl
  · rw [List.getElem?_eq_none (by rw [plc_len]; omega), List.getElem?_eq_none (by rw [List.length_map, up_length]; omega)]
theorem placed_all (hp : ord.Perm (up n)) {f : List Int} {P : Int → Prop} (h0 : P 0) (hf : ∀ x ∈ f, P x) : ∀ i, ∀ x ∈ plc f ord i, P x
  | 0, x, hx => by rw [List.eq_of_mem_replicate hx]; exact h0
  | i + 1, x, hx => by
    rcases List.mem_or_eq_of_mem_set (show x ∈ (plc f ord i).set _ _ from hx) with h | h
    · exact placed_all hp h0 hf i x h
    · subst h
      rw [List.getD_eq_getElem?_getD]
      cases e : f[i]? with
      | none => exact h0
      | some w => exact hf w (List.mem_of_getElem? e)
end
end Wv

set_option Elab.async false
set_option linter.all false
set_option maxRecDepth 100000
namespace Wv
open PySem
/-- in how many groups that carry a member is -/
def stB (n : Nat) (tb : List Bool) (m : Int) : Nat := ((up (2 ^ n)).filter fun g => hasB g m && at_ tb g).length
theorem has_bt_f : ∀ g : Fin 32, ∀ m : Fin 5, hasB (g.val : Int) (m.val : Int) = bt g.val m.val := by decide +kernel
theorem has_bt {g m : Nat} (hg : g < 32) (hm : m < 5) : hasB (g : Int) (m : Int) = bt g m := has_bt_f ⟨g, hg⟩ ⟨m, hm⟩
section
variable {n : Nat} {tb : List Bool}
theorem stN_eq (h1 : 1 ≤ n) (hn : n ≤ 5) {m : Nat} (hm : m < 5) : stN n (natOf tb) m = stB n tb (m : Int) := by
  have h5 := two_le hn
  unfold stN stB
  rw [cnt_eq, ups_range ⟨n, by omega⟩ h1]
  unfold up
  rw [List.filter_map, List.length_map]
  refine congrArg List.length (List.filter_congr fun g hg => ?_)
  have hg' := List.mem_range.mp hg
  show @Bool.rec (fun _ => Bool) false (bt g m) (bt (natOf tb) g) = (hasB (g : Int) (m : Int) && at_ tb (g : Int))
  have hg2 : g < 2 ^ n := hg'
  rw [has_bt (by omega) hm, bt_at]
  cases bt g m <;> cases at_ tb (g : Int) <;> rfl
theorem stl_eq (h1 : 1 ≤ n) (hn : n ≤ 5) (T : Nat) (k : List Nat → Bool) : stl n T k = k ((List.range n).map (stN n T)) := by
  match n, h1, hn with
  | 1, _, _ => unfold stl; simp only [fc_eq]; rfl
  | 2, _, _ => unfold stl; simp only [fc_eq]; rfl
  | 3, _, _ => unfold stl; simp only [fc_eq]; rfl
  | 4, _, _ => unfold stl; simp only [fc_eq]; rfl
  | 5, _, _ => unfold stl; simp only [fc_eq]; rfl
theorem bt_zero (g : Nat) : bt g 0 = Nat.beq (Nat.land g 1) 1 := rfl
theorem bt_succ (g m : Nat) : bt g (m + 1) = bt (Nat.shiftRight g 1) m := by
  rw [bt_test, bt_test]
  show g.testBit (m + 1) = (g >>> 1).testBit m
  rw [Nat.testBit_shiftRight, Nat.add_comm]
theorem wsum_eq (W : Nat) : ∀ (st : List Nat) (g : Nat), ((wsum g W st : Nat) : Int) = (((List.range st.length).filter fun m => bt g m).map fun m => ((wS W (st.getD m 0) : Nat) : Int)).sum
  | [], _ => rfl
  | s :: st, g => by
    have e : wsum g W (s :: st) = @Bool.rec (fun _ => Nat) (wsum (Nat.shiftRight g 1) W st) (Nat.add (wS W s) (wsum (Nat.shiftRight g 1) W st)) (Nat.beq (Nat.land g 1) 1) := rfl
    have ih := wsum_eq W st (Nat.shiftRight g 1)
    have e2 : (((List.range st.length).map Nat.succ).filter fun m => bt g m).map (fun m => ((wS W ((s :: st).getD m 0) : Nat) : Int)) = ((List.range st.length).filter fun m => bt (Nat.shiftRight g 1) m).map fun m => ((wS W (st.getD m 0) : Nat) : Int) := by
      rw [List.filter_map, List.map_map]
      have q : ((fun m => bt g m) ∘ Nat.succ) = fun m => bt (Nat.shiftRight g 1) m := funext fun m => bt_succ g m
      rw [q]
      refine List.map_congr_left fun m _ => ?_
      show ((wS W ((s :: st).getD (m + 1) 0) : Nat) : Int) = _
      rw [List.getD_cons_succ]
    rw [e, List.length_cons, List.range_succ_eq_map, List.filter_cons, bt_zero]
    cases Nat.beq (Nat.land g 1) 1 with
    | false =>
      show ((wsum (Nat.shiftRight g 1) W st : Nat) : Int) = _
      rw [ih, if_neg Bool.false_ne_true, e2]
    | true =>
      show ((wS W s + wsum (Nat.shiftRight g 1) W st : Nat) : Int) = _
      rw [if_pos rfl, List.map_cons, List.sum_cons, e2, ← ih, List.getD_cons_zero]
      omega
/-- the weights of a row -/
abbrev wRow (n : Nat) (tb : List Bool) (W : Nat) (m : Int) : Int := ((wS W (stB n tb m) : Nat) : Int)
theorem wt_row (h1 : 1 ≤ n) (hn : n ≤ 5) (W : Nat) {g : Nat} (hg : g < 2 ^ n) : wtOf ((up n).map (wRow n tb W)) (g : Int) = ((wsum g W ((List.range n).map (stN n (natOf tb))) : Nat) : Int) := by
  have h5 := two_le hn
  rw [wsum_eq, List.length_map, List.length_range]
  unfold wtOf
  rw [List.length_map, up_length]
  unfold up
  rw [List.filter_map, List.map_map]
  have e : (List.range n).filter (hasB (g : Int) ∘ fun (i : Nat) => (i : Int)) = (List.range n).filter fun m => bt g m := List.filter_congr fun m hm => by
    have hm' := List.mem_range.mp hm
    exact has_bt (by omega) (by omega)
  rw [e]
  refine congrArg List.sum (List.map_congr_left fun m hm => ?_)
  have hm' := List.mem_range.mp (List.mem_filter.mp hm).1
  show ((List.map (wRow n tb W) (List.map (fun (i : Nat) => (i : Int)) (List.range n))).getD ((m : Int)).toNat 0) = _
  rw [Int.toNat_natCast, List.getD_eq_getElem?_getD, List.getElem?_map, List.getElem?_map, List.getElem?_range hm', List.getD_eq_getElem?_getD, List.getElem?_map, List.getElem?_range hm']
  show wRow n tb W (m : Int) = ((wS W (stN n (natOf tb) m) : Nat) : Int)
  rw [stN_eq h1 hn (by omega)]
theorem row_ok (h1 : 1 ≤ n) (hn : n ≤ 5) (k : Nat) : rowOk (look k (clsN n)).1 = true := by
  have r := rows_ok
  simp only [Bool.and_eq_true, List.all_eq_true] at r
  rcases look_mem k (clsN n) with h | ⟨x, hx, h⟩
  · rw [h]; exact r.2
  · rw [h]
    match n, h1, hn, hx with
    | 1, _, _, hx => exact r.1.1.1.1.1 x hx
    | 2, _, _, hx => exact r.1.1.1.1.2 x hx
    | 3, _, _, hx => exact r.1.1.1.2 x hx
    | 4, _, _, hx => exact r.1.1.2 x hx
    | 5, _, _, hx => exact r.1.2 x hx
theorem row_le {W : Nat} (h : rowOk W = true) {s : Nat} (hs : s < 17) : wS W s ≤ 5 := by
  unfold rowOk at h
  rw [List.all_eq_true] at h
  have := h s (List.mem_range.mpr hs)
  rw [Bool.and_eq_true] at this
  exact Nat.le_of_ble_eq_true this.1
theorem row_mono {W : Nat} (h : rowOk W = true) {s t : Nat} (hs : s < 17) (ht : t < 17) (hst : s ≤ t) : wS W s ≤ wS W t := by
  unfold rowOk at h
  rw [List.all_eq_true] at h
  have := h s (List.mem_range.mpr hs)
  rw [Bool.and_eq_true, List.all_eq_true] at this
  have q := this.2 t (List.mem_range.mpr ht)
  rw [Nat.ble_eq_true_of_le hst] at q
  exact Nat.le_of_ble_eq_true (by simpa using q)
theorem half_in : ∀ n : Fin 6, ∀ m : Fin 5, ((up (2 ^ n.val)).filter fun g => hasB g (m.val : Int)).length ≤ 16 := by decide +kernel
theorem stB_lt (hn : n ≤ 5) {m : Int} (hm : m ∈ up n) : stB n tb m < 17 := by
  obtain ⟨m0, m1⟩ := mem_up.mp hm
  have e : ((m.toNat : Nat) : Int) = m := by omega
  have q := half_in ⟨n, by omega⟩ ⟨m.toNat, by omega⟩
  simp only [e] at q
  unfold stB
  rw [← List.filter_filter]
  rw [List.filter_filter, show (fun g => hasB g m && at_ tb g) = fun g => at_ tb g && hasB g m from funext fun g => Bool.and_comm _ _, ← List.filter_filter]
  exact Nat.lt_succ_of_le (Nat.le_trans (List.length_filter_le _ _) q)
/-- no trade: some falling list passes the test -/
theorem tell_w (h1 : 1 ≤ n) (hn : n ≤ 5) {ord : List Int} (hp : ord.Perm (up n)) (hs : ord.Pairwise fun a b => stB n tb b ≤ stB n tb a) (hW : chkW n (natOf tb) = true) :
    ∃ f ∈ fallB n 5, ∀ g ∈ greatI n tb, wtOf (placedB f ord) g < minB ((leastI n tb).map (wtOf (placedB f ord))) ((placedB f ord).sum + 1) := by
  have h5 := two_le hn
  unfold chkW at hW
  rw [fc_eq, stl_eq h1 hn, fc_eq] at hW
  generalize hk : keyN (natOf tb) ((List.range n).map (stN n (natOf tb))) = key at hW
  have hr := row_ok h1 hn key
  generalize (look key (clsN n)).1 = W at hW hr
  generalize (look key (clsN n)).2 = q at hW
  have hl : ord.length = n := by rw [hp.length_eq, up_length]
  have hu : ∀ m ∈ ord, m ∈ up n := fun m hm => hp.mem_iff.mp hm
  have hwt : ∀ g ∈ up (2 ^ n), at_ tb g = decide ((q : Int) ≤ wtOf ((up n).map (wRow n tb W)) g) := fun g hg => by
    obtain ⟨g0, g1⟩ := mem_up.mp hg
    have e1 : ((g.toNat : Nat) : Int) = g := by omega
    unfold wOk at hW
    rw [al_eq, ups_range ⟨n, by omega⟩ h1, List.all_eq_true] at hW
    have c := hW g.toNat (List.mem_range.mpr (by show g.toNat < 2 ^ n; omega))
    have c2 : @Bool.rec (fun _ => Bool) (Nat.ble (Nat.succ (wsum g.toNat W ((List.range n).map (stN n (natOf tb))))) q) (Nat.ble q (wsum g.toNat W ((List.range n).map (stN n (natOf tb))))) (bt (natOf tb) g.toNat) = true := c
    rw [bt_at, e1] at c2
    have w := wt_row (tb := tb) h1 hn W (g := g.toNat) (by omega)
    rw [e1] at w
    rw [w]
    cases ht : at_ tb g with
    | true =>
      rw [ht] at c2
      have := Nat.le_of_ble_eq_true c2
      exact (decide_eq_true (by omega)).symm
    | false =>
      rw [ht] at c2
      have := Nat.le_of_ble_eq_true c2
      exact (decide_eq_false (by omega)).symm
  refine ⟨ord.map (wRow n tb W), ?_, ?_⟩
  · have q1 := fall_mem (ord.map (wRow n tb W)) 5 (fun x hx => ?_) ?_
    · rw [List.length_map, hl] at q1; exact q1
    · obtain ⟨m, hm, rfl⟩ := List.mem_map.mp hx
      have := row_le hr (stB_lt (tb := tb) hn (hu m hm))
      exact ⟨by show (0 : Int) ≤ ((_ : Nat) : Int); omega, by show ((_ : Nat) : Int) ≤ _; omega⟩
    · rw [List.pairwise_map]
      refine hs.imp_of_mem fun {a b} ha hb hab => ?_
      have := row_mono hr (stB_lt (tb := tb) hn (hu b hb)) (stB_lt (tb := tb) hn (hu a ha)) hab
      show ((_ : Nat) : Int) ≤ ((_ : Nat) : Int)
      omega
  · rw [placed_map hp]
    intro g hg
    obtain ⟨hgu, hgt⟩ := greatI_mem hg
    have a := hwt g hgu
    rw [hgt] at a
    have a' := of_decide_eq_false a.symm
    have b : wtOf ((up n).map (wRow n tb W)) g + 1 ≤ minB ((leastI n tb).map (wtOf ((up n).map (wRow n tb W)))) (((up n).map (wRow n tb W)).sum + 1) := by
      refine le_minB (fun x hx => ?_) fun _ => ?_
      · obtain ⟨o, ho, rfl⟩ := List.mem_map.mp hx
        obtain ⟨hou, hot⟩ := leastI_mem ho
        have c := hwt o hou
        rw [hot] at c
        have := of_decide_eq_true c.symm
        omega
      · have c : wtOf ((up n).map (wRow n tb W)) g ≤ ((up n).map (wRow n tb W)).sum := by
          unfold wtOf
          rw [List.length_map, up_length]
          have e : ((up n).map (wRow n tb W)).sum = (((up n).filter fun _ => true).map fun k => ((up n).map (wRow n tb W)).getD k.toNat 0).sum := by
            rw [List.filter_eq_self.mpr (fun _ _ => rfl)]
            refine congrArg List.sum (List.map_congr_left fun m hm => ?_)
            obtain ⟨m0, m1⟩ := mem_up.mp hm
            have e1 : ((m.toNat : Nat) : Int) = m := by omega
            rw [List.getD_eq_getElem?_getD, List.getElem?_map, up_get (by omega), e1]
            rfl
          rw [e]
          refine wt_le (fun _ _ _ => rfl) fun x _ => getD_nonneg (fun w hw => ?_) _
          obtain ⟨m, _, rfl⟩ := List.mem_map.mp hw
          show (0 : Int) ≤ ((_ : Nat) : Int)
          omega
        omega
    omega
end
/-! ### pairs, trades -/
def pairsB : List Int → List (Int × Int)
  | [] => []
  | x :: r => r.map (fun y => (x, y)) ++ pairsB r
def outdB (f c : Int × Int) : Bool := withinB (Builtin.bitOr c.1 c.2) (Builtin.bitOr f.1 f.2) && withinB (Builtin.bitAnd c.1 c.2) (Builtin.bitAnd f.1 f.2)
theorem pairs_of {x y : Int} : ∀ {l : List Int}, x ∈ l → y ∈ l → x ≠ y → (x, y) ∈ pairsB l ∨ (y, x) ∈ pairsB l
  | z :: r, hx, hy, hne => by
    show _ ∈ r.map (fun y => (z, y)) ++ pairsB r ∨ _ ∈ r.map (fun y => (z, y)) ++ pairsB r
    rcases List.mem_cons.mp hx with rfl | hx'
    · rcases List.mem_cons.mp hy with rfl | hy'
      · exact absurd rfl hne
      · exact .inl (List.mem_append_left _ (List.mem_map.mpr ⟨y, hy', rfl⟩))
    · rcases List.mem_cons.mp hy with rfl | hy'
      · exact .inr (List.mem_append_left _ (List.mem_map.mpr ⟨x, hx', rfl⟩))
      · rcases pairs_of hx' hy' hne with h | h
        · exact .inl (List.mem_append_right _ h)
        · exact .inr (List.mem_append_right _ h)
theorem pairs_in : ∀ {l : List Int} {p : Int × Int}, p ∈ pairsB l → p.1 ∈ l ∧ p.2 ∈ l
  | z :: r, p, h => by
    rcases List.mem_append.mp (show p ∈ r.map (fun y => (z, y)) ++ pairsB r from h) with h | h
    · obtain ⟨y, hy, rfl⟩ := List.mem_map.mp h
      exact ⟨List.mem_cons_self, List.mem_cons_of_mem _ hy⟩
    · obtain ⟨a, b⟩ := pairs_in h
      exact ⟨List.mem_cons_of_mem _ a, List.mem_cons_of_mem _ b⟩
theorem or_f : ∀ x : Fin 32, ∀ y : Fin 32, Builtin.bitOr (x.val : Int) (y.val : Int) = ((x.val ||| y.val : Nat) : Int) := by decide +kernel
theorem and_f : ∀ x : Fin 32, ∀ y : Fin 32, Builtin.bitAnd (x.val : Int) (y.val : Int) = ((x.val &&& y.val : Nat) : Int) := by decide +kernel
theorem within_f : ∀ x : Fin 32, ∀ y : Fin 32, Nat.beq (Nat.land x.val y.val) x.val = true → withinB (x.val : Int) (y.val : Int) = true := by decide +kernel
section
variable {n : Nat} {tb : List Bool}
theorem lst_least (h1 : 1 ≤ n) (hn : n ≤ 5) {g : Nat} (hg : g < 2 ^ n) (h : lstB n (natOf tb) g = true) : (g : Int) ∈ leastI n tb := by
  have h5 := two_le hn
  unfold lstB at h
  rw [bt_at] at h
  refine List.mem_filter.mpr ⟨mem_up.mpr ⟨by omega, by omega⟩, ?_⟩
  cases ht : at_ tb (g : Int) with
  | false => rw [ht] at h; cases h
  | true =>
    rw [ht] at h
    have h' : al (fun m => @Bool.rec (fun _ => Bool) true (@Bool.rec (fun _ => Bool) true false (bt (natOf tb) (Nat.sub g (Nat.pow 2 m)))) (bt g m)) (mem1 n) = true := h
    rw [al_eq, mem1_range ⟨n, by omega⟩ h1, List.all_eq_true] at h'
    have none : ((ins n (g : Int)).map fun m => at_ tb ((g : Int) - 1 * 2 ^ m.toNat)).any id = false := by
      rw [List.any_map, List.any_eq_false]
      intro m hm
      obtain ⟨hm1, hm2⟩ := List.mem_filter.mp hm
      obtain ⟨m0, m1⟩ := mem_up.mp hm1
      have e : ((m.toNat : Nat) : Int) = m := by omega
      have c := h' m.toNat (List.mem_range.mpr (by show m.toNat < n; omega))
      have ok := sub_ok hn (g := (g : Int)) (mem_up.mpr ⟨by omega, by omega⟩) hm
      rw [← has_bt (g := g) (m := m.toNat) (by omega) (by omega), e, hm2, bt_at] at c
      have e2 : ((Nat.sub g (Nat.pow 2 m.toNat) : Nat) : Int) = (g : Int) - 1 * 2 ^ m.toNat := by
        have p : ((2 ^ m.toNat : Nat) : Int) = 2 ^ m.toNat := by norm_cast
        have : (0 : Int) ≤ (g : Int) - 1 * 2 ^ m.toNat := ok.2.1
        show ((g - 2 ^ m.toNat : Nat) : Int) = _
        omega
      rw [e2] at c
      show ¬ at_ tb ((g : Int) - 1 * 2 ^ m.toNat) = true
      intro z
      rw [z] at c
      cases c
    rw [none]
    rfl
theorem grt_great (h1 : 1 ≤ n) (hn : n ≤ 5) {g : Nat} (hg : g < 2 ^ n) (h : grtB n (natOf tb) g = true) : (g : Int) ∈ greatI n tb := by
  have h5 := two_le hn
  unfold grtB at h
  rw [bt_at] at h
  refine List.mem_filter.mpr ⟨mem_up.mpr ⟨by omega, by omega⟩, ?_⟩
  cases ht : at_ tb (g : Int) with
  | true => rw [ht] at h; cases h
  | false =>
    rw [ht] at h
    have h' : al (fun m => @Bool.rec (fun _ => Bool) (bt (natOf tb) (Nat.add g (Nat.pow 2 m))) true (bt g m)) (mem1 n) = true := h
    rw [al_eq, mem1_range ⟨n, by omega⟩ h1, List.all_eq_true] at h'
    have all : ((outs n (g : Int)).map fun m => at_ tb ((g : Int) + 1 * 2 ^ m.toNat)).all id = true := by
      rw [List.all_map, List.all_eq_true]
      intro m hm
      obtain ⟨hm1, hm2⟩ := List.mem_filter.mp hm
      obtain ⟨m0, m1⟩ := mem_up.mp hm1
      have e : ((m.toNat : Nat) : Int) = m := by omega
      have c := h' m.toNat (List.mem_range.mpr (by show m.toNat < n; omega))
      have hm3 : hasB (g : Int) m = false := by simpa using hm2
      rw [← has_bt (g := g) (m := m.toNat) (by omega) (by omega), e, hm3, bt_at] at c
      have e2 : ((Nat.add g (Nat.pow 2 m.toNat) : Nat) : Int) = (g : Int) + 1 * 2 ^ m.toNat := by
        have p : ((2 ^ m.toNat : Nat) : Int) = 2 ^ m.toNat := by norm_cast
        show ((g + 2 ^ m.toNat : Nat) : Int) = _
        omega
      rw [e2] at c
      exact c
    rw [all]
    rfl
/-- the check's trade is one of the text's -/
theorem tell_t (h1 : 1 ≤ n) (hn : n ≤ 5) (hT : chkT n (natOf tb) = true) : ∃ c ∈ pairsB (leastI n tb), ∃ f ∈ pairsB (greatI n tb), outdB f c = true := by
  have h5 := two_le hn
  unfold chkT at hT
  rw [fc_eq, flt_eq, flt_eq] at hT
  obtain ⟨x, y, hxy, h⟩ := anP_ex _ hT
  rw [fc_eq, fc_eq] at h
  obtain ⟨u, v, huv, h⟩ := anP_ex _ h
  have ndr : (ups n).Nodup := by rw [ups_range ⟨n, by omega⟩ h1]; exact List.nodup_range
  have side : ∀ {p : Nat → Bool} {a b : Nat}, [a, b].Sublist ((ups n).filter p).reverse → a ≠ b ∧ (a < 2 ^ n ∧ p a = true) ∧ (b < 2 ^ n ∧ p b = true) := fun {p a b} hs => by
    have nd : (((ups n).filter p).reverse).Nodup := (List.reverse_perm _).nodup_iff.mpr (ndr.filter p)
    have nd2 := List.Nodup.sublist hs nd
    have ne : a ≠ b := fun q => by subst q; simp at nd2
    have ma : a ∈ ((ups n).filter p).reverse := hs.subset List.mem_cons_self
    have mb : b ∈ ((ups n).filter p).reverse := hs.subset (List.mem_cons_of_mem _ List.mem_cons_self)
    rw [List.mem_reverse, List.mem_filter, ups_range ⟨n, by omega⟩ h1, List.mem_range] at ma mb
    exact ⟨ne, ma, mb⟩
  obtain ⟨nxy, ⟨x1, x2⟩, ⟨y1, y2⟩⟩ := side hxy
  obtain ⟨nuv, ⟨u1, u2⟩, ⟨v1, v2⟩⟩ := side huv
  have lx := lst_least h1 hn x1 x2
  have ly := lst_least h1 hn y1 y2
  have gu := grt_great h1 hn u1 u2
  have gv := grt_great h1 hn v1 v2
  have key : withinB (Builtin.bitOr x y) (Builtin.bitOr u v) = true ∧ withinB (Builtin.bitAnd x y) (Builtin.bitAnd u v) = true := by
    rw [or_f ⟨x, by omega⟩ ⟨y, by omega⟩, or_f ⟨u, by omega⟩ ⟨v, by omega⟩, and_f ⟨x, by omega⟩ ⟨y, by omega⟩, and_f ⟨u, by omega⟩ ⟨v, by omega⟩]
    have o1 : x ||| y < 2 ^ 5 := Nat.or_lt_two_pow (by omega) (by omega)
    have o2 : u ||| v < 2 ^ 5 := Nat.or_lt_two_pow (by omega) (by omega)
    have a1 : x &&& y < 2 ^ 5 := Nat.and_lt_two_pow _ (by omega)
    have a2 : u &&& v < 2 ^ 5 := Nat.and_lt_two_pow _ (by omega)
    have hh : @Bool.rec (fun _ => Bool) false (subN (Nat.land x y) (Nat.land u v)) (subN (Nat.lor x y) (Nat.lor u v)) = true := h
    cases s1 : subN (Nat.lor x y) (Nat.lor u v) with
    | false => rw [s1] at hh; cases hh
    | true =>
      rw [s1] at hh
      have s2 : subN (Nat.land x y) (Nat.land u v) = true := hh
      exact ⟨within_f ⟨x ||| y, o1⟩ ⟨u ||| v, o2⟩ s1, within_f ⟨x &&& y, a1⟩ ⟨u &&& v, a2⟩ s2⟩
  have oc : ∀ {a b : Nat}, a < 2 ^ n → b < 2 ^ n → Builtin.bitOr (b : Int) (a : Int) = Builtin.bitOr (a : Int) (b : Int) ∧ Builtin.bitAnd (b : Int) (a : Int) = Builtin.bitAnd (a : Int) (b : Int) := fun {a b} ha hb => by
    rw [or_f ⟨a, by omega⟩ ⟨b, by omega⟩, or_f ⟨b, by omega⟩ ⟨a, by omega⟩, and_f ⟨a, by omega⟩ ⟨b, by omega⟩, and_f ⟨b, by omega⟩ ⟨a, by omega⟩]
    exact ⟨by rw [Nat.or_comm], by rw [Nat.and_comm]⟩
  have cs : ∃ c ∈ pairsB (leastI n tb), Builtin.bitOr c.1 c.2 = Builtin.bitOr x y ∧ Builtin.bitAnd c.1 c.2 = Builtin.bitAnd x y := by
    rcases pairs_of lx ly (by omega) with h | h
    · exact ⟨_, h, rfl, rfl⟩
    · exact ⟨_, h, (oc x1 y1).1, (oc x1 y1).2⟩
  have fs : ∃ f ∈ pairsB (greatI n tb), Builtin.bitOr f.1 f.2 = Builtin.bitOr u v ∧ Builtin.bitAnd f.1 f.2 = Builtin.bitAnd u v := by
    rcases pairs_of gu gv (by omega) with h | h
    · exact ⟨_, h, rfl, rfl⟩
    · exact ⟨_, h, (oc u1 v1).1, (oc u1 v1).2⟩
  obtain ⟨c, hc, c1, c2⟩ := cs
  obtain ⟨f, hf, f1, f2⟩ := fs
  refine ⟨c, hc, f, hf, ?_⟩
  unfold outdB
  rw [c1, c2, f1, f2, key.1, key.2]
  rfl
/-- telling: a trade, or a falling list that passes -/
theorem tell_ok (h1 : 1 ≤ n) (hn : n ≤ 5) (hl : tb.length = 2 ^ n) (hM : Mono n tb) {ord : List Int} (hp : ord.Perm (up n)) (hs : ord.Pairwise fun a b => stB n tb b ≤ stB n tb a)
    (hno : ∀ c ∈ pairsB (leastI n tb), ∀ f ∈ pairsB (greatI n tb), outdB f c = false) :
    ∃ f ∈ fallB n 5, ∀ g ∈ greatI n tb, wtOf (placedB f ord) g < minB ((leastI n tb).map (wtOf (placedB f ord))) ((placedB f ord).sum + 1) := by
  rcases chk_all h1 hn hl hM with h | h
  · exact tell_w h1 hn hp hs h
  · obtain ⟨c, hc, f, hf, ho⟩ := tell_t h1 hn h
    rw [hno c hc f hf] at ho
    cases ho
end
end Wv

set_option Elab.async false
set_option linter.all false
set_option maxRecDepth 100000
set_option maxHeartbeats 4000000

namespace Wv
open PySem L2
def top (i : Nat) : Stmt := PySem.Challenge.pw_weighvote_k03_whole_telling.main.body.getD i (.Pass ⟨0, 0, 0, 0⟩)
abbrev s_is_whole : Stmt := top 2
abbrev s_everybody : Stmt := top 3
abbrev s_is_group : Stmt := top 4
abbrev s_groups_of : Stmt := top 5
abbrev s_has : Stmt := top 6
abbrev s_members_of : Stmt := top 7
abbrev s_with_member : Stmt := top 8
abbrev s_within : Stmt := top 9
abbrev s_weight_of : Stmt := top 10
abbrev s_Weights_init : Stmt := inClass (top 14) 0
abbrev s_Weights_holds : Stmt := inClass (top 14) 1
abbrev s_Weights_agrees : Stmt := inClass (top 14) 2
abbrev s_Trade_init : Stmt := inClass (top 15) 0
abbrev s_Trade_holds : Stmt := inClass (top 15) 1
abbrev s_how_often : Stmt := top 16
abbrev s_telling : Stmt := top 17
abbrev s_trade_of : Stmt := top 18
abbrev s_pairs : Stmt := top 19
abbrev s_outdoes : Stmt := top 20
abbrev s_weights_of : Stmt := top 21
abbrev s_by_strength : Stmt := top 22
abbrev s_strength : Stmt := top 23
abbrev s_falling_lists : Stmt := top 24
abbrev s_placed : Stmt := top 25
abbrev s_Council_init : Stmt := inClass (top 34) 0
abbrev s_Council_carries : Stmt := inClass (top 34) 1
abbrev s_Council_least : Stmt := inClass (top 34) 2
abbrev s_Council_greatest : Stmt := inClass (top 34) 3
abbrev s_Council_is_least : Stmt := inClass (top 34) 4
abbrev s_Council_is_greatest : Stmt := inClass (top 34) 5
abbrev s_refuse_bad_council : Stmt := top 35
abbrev s_has_one_within : Stmt := top 36
abbrev s_turned : Stmt := top 37
abbrev s_weighted : Stmt := top 38
abbrev s_refuse_bad_weights : Stmt := top 39
abbrev s_law_cell_at : Stmt := top 41
abbrev s_law_draw : Stmt := top 42
abbrev s_law_told : Stmt := top 43
abbrev s_law_table : Stmt := top 44
abbrev s_law_has : Stmt := top 45
abbrev s_law_whole : Stmt := top 46
abbrev s_law_made : Stmt := top 47
abbrev s_law_traded : Stmt := top 48
abbrev s_law_right : Stmt := top 49
abbrev s_law_bent : Stmt := top 50
abbrev s_law_says : Stmt := top 51
abbrev s_law_by_hand : Stmt := top 52
abbrev s_law_due : Stmt := top 53
abbrev s_law_built : Stmt := top 54
abbrev s_law : Stmt := top 55
/-- the addresses that the text names -/
structure Adr where
  C_Council : Addr
  C_Trade : Addr
  C_Weights : Addr
  C_Answer : Addr
  a_is_whole : Addr
  d_is_whole : FuncData
  a_everybody : Addr
  d_everybody : FuncData
  a_is_group : Addr
  d_is_group : FuncData
  a_groups_of : Addr
  d_groups_of : FuncData
  a_has : Addr
  d_has : FuncData
  a_members_of : Addr
  d_members_of : FuncData
  a_with_member : Addr
  d_with_member : FuncData
  a_within : Addr
  d_within : FuncData
  a_weight_of : Addr
  d_weight_of : FuncData
  a_Weights_init : Addr
  d_Weights_init : FuncData
  a_Weights_holds : Addr
  d_Weights_holds : FuncData
  a_Weights_agrees : Addr
  d_Weights_agrees : FuncData
  a_Trade_init : Addr
  d_Trade_init : FuncData
  a_Trade_holds : Addr
  d_Trade_holds : FuncData
  a_how_often : Addr
  d_how_often : FuncData
  a_telling : Addr
  d_telling : FuncData
  a_trade_of : Addr
  d_trade_of : FuncData
  a_pairs : Addr
  d_pairs : FuncData
  a_outdoes : Addr
  d_outdoes : FuncData
  a_weights_of : Addr
  d_weights_of : FuncData
  a_by_strength : Addr
  d_by_strength : FuncData
  a_strength : Addr
  d_strength : FuncData
  a_falling_lists : Addr
  d_falling_lists : FuncData
  a_placed : Addr
  d_placed : FuncData
  a_Council_init : Addr
  d_Council_init : FuncData
  a_Council_carries : Addr
  d_Council_carries : FuncData
  a_Council_least : Addr
  d_Council_least : FuncData
  a_Council_greatest : Addr
  d_Council_greatest : FuncData
  a_Council_is_least : Addr
  d_Council_is_least : FuncData
  a_Council_is_greatest : Addr
  d_Council_is_greatest : FuncData
  a_refuse_bad_council : Addr
  d_refuse_bad_council : FuncData
  a_has_one_within : Addr
  d_has_one_within : FuncData
  a_turned : Addr
  d_turned : FuncData
  a_weighted : Addr
  d_weighted : FuncData
  a_refuse_bad_weights : Addr
  d_refuse_bad_weights : FuncData
  a_law_cell_at : Addr
  d_law_cell_at : FuncData
  a_law_draw : Addr
  d_law_draw : FuncData
  a_law_told : Addr
  d_law_told : FuncData
  a_law_table : Addr
  d_law_table : FuncData
  a_law_has : Addr
  d_law_has : FuncData
  a_law_whole : Addr
  d_law_whole : FuncData
  a_law_made : Addr
  d_law_made : FuncData
  a_law_traded : Addr
  d_law_traded : FuncData
  a_law_right : Addr
  d_law_right : FuncData
  a_law_bent : Addr
  d_law_bent : FuncData
  a_law_says : Addr
  d_law_says : FuncData
  a_law_by_hand : Addr
  d_law_by_hand : FuncData
  a_law_due : Addr
  d_law_due : FuncData
  a_law_built : Addr
  d_law_built : FuncData
  a_law : Addr
  d_law : FuncData
  t_MOST_MEMBERS : Tok
  t_ENOUGH_WEIGHT : Tok
  t_MOST_WEIGHT : Tok
  t_MOST_QUOTA : Tok
  c_lam : Addr
  p_lam : Addr
structure Txt (K : PySem.W.Frag) (mg : Str → Option Value) (a : Adr) : Prop where
  cl_Council : Cls K a.C_Council
  m_Council : mg "Council" = some (.ref a.C_Council)
  mk_Council : Mk K a.C_Council a.a_Council_init
  cl_Trade : Cls K a.C_Trade
  m_Trade : mg "Trade" = some (.ref a.C_Trade)
  mk_Trade : Mk K a.C_Trade a.a_Trade_init
  cl_Weights : Cls K a.C_Weights
  m_Weights : mg "Weights" = some (.ref a.C_Weights)
  mk_Weights : Mk K a.C_Weights a.a_Weights_init
  m_Answer : mg "Answer" = some (.ref a.C_Answer)
  ki_Weights_Answer : PySem.W.kitOne K (.ref a.C_Weights) (.ref a.C_Answer) = some true
  ki_Weights_Weights : PySem.W.kitOne K (.ref a.C_Weights) (.ref a.C_Weights) = some true
  ki_Weights_Trade : PySem.W.kitOne K (.ref a.C_Weights) (.ref a.C_Trade) = some false
  ki_Trade_Answer : PySem.W.kitOne K (.ref a.C_Trade) (.ref a.C_Answer) = some true
  ki_Trade_Weights : PySem.W.kitOne K (.ref a.C_Trade) (.ref a.C_Weights) = some false
  ki_Trade_Trade : PySem.W.kitOne K (.ref a.C_Trade) (.ref a.C_Trade) = some true
  ty_Trade : ∀ {H : Hp} {p dx : Addr} {fs : List (Str × V)}, H p = some (.ins a.C_Trade dx fs) → TyOf K H (.ref p) (.ref a.C_Trade)
  ty_Weights : ∀ {H : Hp} {p dx : Addr} {fs : List (Str × V)}, H p = some (.ins a.C_Weights dx fs) → TyOf K H (.ref p) (.ref a.C_Weights)
  n_Council_members : NoAttr K a.C_Council "members"
  n_Council_table : NoAttr K a.C_Council "table"
  n_Trade_carry : NoAttr K a.C_Trade "carry"
  n_Trade_fail : NoAttr K a.C_Trade "fail"
  n_Weights_quota : NoAttr K a.C_Weights "quota"
  n_Weights_weights : NoAttr K a.C_Weights "weights"
  F_is_whole : Fun K "is_whole" "is_whole" s_is_whole a.a_is_whole a.d_is_whole
  m_is_whole : mg "is_whole" = some (.ref a.a_is_whole)
  F_everybody : Fun K "everybody" "everybody" s_everybody a.a_everybody a.d_everybody
  m_everybody : mg "everybody" = some (.ref a.a_everybody)
  F_is_group : Fun K "is_group" "is_group" s_is_group a.a_is_group a.d_is_group
  m_is_group : mg "is_group" = some (.ref a.a_is_group)
  F_groups_of : Fun K "groups_of" "groups_of" s_groups_of a.a_groups_of a.d_groups_of
  m_groups_of : mg "groups_of" = some (.ref a.a_groups_of)
  F_has : Fun K "has" "has" s_has a.a_has a.d_has
  m_has : mg "has" = some (.ref a.a_has)
  F_members_of : Fun K "members_of" "members_of" s_members_of a.a_members_of a.d_members_of
  m_members_of : mg "members_of" = some (.ref a.a_members_of)
  F_with_member : Fun K "with_member" "with_member" s_with_member a.a_with_member a.d_with_member
  m_with_member : mg "with_member" = some (.ref a.a_with_member)
  F_within : Fun K "within" "within" s_within a.a_within a.d_within
  m_within : mg "within" = some (.ref a.a_within)
  F_weight_of : Fun K "weight_of" "weight_of" s_weight_of a.a_weight_of a.d_weight_of
  m_weight_of : mg "weight_of" = some (.ref a.a_weight_of)
  F_Weights_init : Fun K "__init__" "Weights.__init__" s_Weights_init a.a_Weights_init a.d_Weights_init
  F_Weights_holds : Fun K "holds" "Weights.holds" s_Weights_holds a.a_Weights_holds a.d_Weights_holds
  mt_Weights_holds : Meth K a.C_Weights "holds" a.a_Weights_holds
  F_Weights_agrees : Fun K "agrees" "Weights.agrees" s_Weights_agrees a.a_Weights_agrees a.d_Weights_agrees
  mt_Weights_agrees : Meth K a.C_Weights "agrees" a.a_Weights_agrees
  F_Trade_init : Fun K "__init__" "Trade.__init__" s_Trade_init a.a_Trade_init a.d_Trade_init
  F_Trade_holds : Fun K "holds" "Trade.holds" s_Trade_holds a.a_Trade_holds a.d_Trade_holds
  mt_Trade_holds : Meth K a.C_Trade "holds" a.a_Trade_holds
  F_how_often : Fun K "how_often" "how_often" s_how_often a.a_how_often a.d_how_often
  m_how_often : mg "how_often" = some (.ref a.a_how_often)
  F_telling : Fun K "telling" "telling" s_telling a.a_telling a.d_telling
  m_telling : mg "telling" = some (.ref a.a_telling)
  F_trade_of : Fun K "trade_of" "trade_of" s_trade_of a.a_trade_of a.d_trade_of
  m_trade_of : mg "trade_of" = some (.ref a.a_trade_of)
  F_pairs : Fun K "pairs" "pairs" s_pairs a.a_pairs a.d_pairs
  m_pairs : mg "pairs" = some (.ref a.a_pairs)
  F_outdoes : Fun K "outdoes" "outdoes" s_outdoes a.a_outdoes a.d_outdoes
  m_outdoes : mg "outdoes" = some (.ref a.a_outdoes)
  F_weights_of : Fun K "weights_of" "weights_of" s_weights_of a.a_weights_of a.d_weights_of
  m_weights_of : mg "weights_of" = some (.ref a.a_weights_of)
  F_by_strength : Fun K "by_strength" "by_strength" s_by_strength a.a_by_strength a.d_by_strength
  m_by_strength : mg "by_strength" = some (.ref a.a_by_strength)
  F_strength : Fun K "strength" "strength" s_strength a.a_strength a.d_strength
  m_strength : mg "strength" = some (.ref a.a_strength)
  F_falling_lists : Fun K "falling_lists" "falling_lists" s_falling_lists a.a_falling_lists a.d_falling_lists
  m_falling_lists : mg "falling_lists" = some (.ref a.a_falling_lists)
  F_placed : Fun K "placed" "placed" s_placed a.a_placed a.d_placed
  m_placed : mg "placed" = some (.ref a.a_placed)
  F_Council_init : Fun K "__init__" "Council.__init__" s_Council_init a.a_Council_init a.d_Council_init
  F_Council_carries : Fun K "carries" "Council.carries" s_Council_carries a.a_Council_carries a.d_Council_carries
  mt_Council_carries : Meth K a.C_Council "carries" a.a_Council_carries
  F_Council_least : Fun K "least" "Council.least" s_Council_least a.a_Council_least a.d_Council_least
  mt_Council_least : Meth K a.C_Council "least" a.a_Council_least
  F_Council_greatest : Fun K "greatest" "Council.greatest" s_Council_greatest a.a_Council_greatest a.d_Council_greatest
  mt_Council_greatest : Meth K a.C_Council "greatest" a.a_Council_greatest
  F_Council_is_least : Fun K "is_least" "Council.is_least" s_Council_is_least a.a_Council_is_least a.d_Council_is_least
  mt_Council_is_least : Meth K a.C_Council "is_least" a.a_Council_is_least
  F_Council_is_greatest : Fun K "is_greatest" "Council.is_greatest" s_Council_is_greatest a.a_Council_is_greatest a.d_Council_is_greatest
  mt_Council_is_greatest : Meth K a.C_Council "is_greatest" a.a_Council_is_greatest
  F_refuse_bad_council : Fun K "refuse_bad_council" "refuse_bad_council" s_refuse_bad_council a.a_refuse_bad_council a.d_refuse_bad_council
  m_refuse_bad_council : mg "refuse_bad_council" = some (.ref a.a_refuse_bad_council)
  F_has_one_within : Fun K "has_one_within" "has_one_within" s_has_one_within a.a_has_one_within a.d_has_one_within
  m_has_one_within : mg "has_one_within" = some (.ref a.a_has_one_within)
  F_turned : Fun K "turned" "turned" s_turned a.a_turned a.d_turned
  m_turned : mg "turned" = some (.ref a.a_turned)
  F_weighted : Fun K "weighted" "weighted" s_weighted a.a_weighted a.d_weighted
  m_weighted : mg "weighted" = some (.ref a.a_weighted)
  F_refuse_bad_weights : Fun K "refuse_bad_weights" "refuse_bad_weights" s_refuse_bad_weights a.a_refuse_bad_weights a.d_refuse_bad_weights
  m_refuse_bad_weights : mg "refuse_bad_weights" = some (.ref a.a_refuse_bad_weights)
  F_law_cell_at : Fun K "_law_cell_at" "_law_cell_at" s_law_cell_at a.a_law_cell_at a.d_law_cell_at
  m_law_cell_at : mg "_law_cell_at" = some (.ref a.a_law_cell_at)
  F_law_draw : Fun K "_law_draw" "_law_draw" s_law_draw a.a_law_draw a.d_law_draw
  m_law_draw : mg "_law_draw" = some (.ref a.a_law_draw)
  F_law_told : Fun K "_law_told" "_law_told" s_law_told a.a_law_told a.d_law_told
  m_law_told : mg "_law_told" = some (.ref a.a_law_told)
  F_law_table : Fun K "_law_table" "_law_table" s_law_table a.a_law_table a.d_law_table
  m_law_table : mg "_law_table" = some (.ref a.a_law_table)
  F_law_has : Fun K "_law_has" "_law_has" s_law_has a.a_law_has a.d_law_has
  m_law_has : mg "_law_has" = some (.ref a.a_law_has)
  F_law_whole : Fun K "_law_whole" "_law_whole" s_law_whole a.a_law_whole a.d_law_whole
  m_law_whole : mg "_law_whole" = some (.ref a.a_law_whole)
  F_law_made : Fun K "_law_made" "_law_made" s_law_made a.a_law_made a.d_law_made
  m_law_made : mg "_law_made" = some (.ref a.a_law_made)
  F_law_traded : Fun K "_law_traded" "_law_traded" s_law_traded a.a_law_traded a.d_law_traded
  m_law_traded : mg "_law_traded" = some (.ref a.a_law_traded)
  F_law_right : Fun K "_law_right" "_law_right" s_law_right a.a_law_right a.d_law_right
  m_law_right : mg "_law_right" = some (.ref a.a_law_right)
  F_law_bent : Fun K "_law_bent" "_law_bent" s_law_bent a.a_law_bent a.d_law_bent
  m_law_bent : mg "_law_bent" = some (.ref a.a_law_bent)
  F_law_says : Fun K "_law_says" "_law_says" s_law_says a.a_law_says a.d_law_says
  m_law_says : mg "_law_says" = some (.ref a.a_law_says)
  F_law_by_hand : Fun K "_law_by_hand" "_law_by_hand" s_law_by_hand a.a_law_by_hand a.d_law_by_hand
  m_law_by_hand : mg "_law_by_hand" = some (.ref a.a_law_by_hand)
  F_law_due : Fun K "_law_due" "_law_due" s_law_due a.a_law_due a.d_law_due
  m_law_due : mg "_law_due" = some (.ref a.a_law_due)
  F_law_built : Fun K "_law_built" "_law_built" s_law_built a.a_law_built a.d_law_built
  m_law_built : mg "_law_built" = some (.ref a.a_law_built)
  F_law : Fun K "law" "law" s_law a.a_law a.d_law
  m_law : mg "law" = some (.ref a.a_law)
  g_MOST_MEMBERS : mg "MOST_MEMBERS" = some (.int 5 a.t_MOST_MEMBERS)
  g_ENOUGH_WEIGHT : mg "ENOUGH_WEIGHT" = some (.int 5 a.t_ENOUGH_WEIGHT)
  g_MOST_WEIGHT : mg "MOST_WEIGHT" = some (.int 1000000 a.t_MOST_WEIGHT)
  g_MOST_QUOTA : mg "MOST_QUOTA" = some (.int 5000001 a.t_MOST_QUOTA)
  z_all : mg "all" = none
  z_any : mg "any" = none
  z_bool : mg "bool" = none
  z_enumerate : mg "enumerate" = none
  z_int : mg "int" = none
  z_isinstance : mg "isinstance" = none
  z_len : mg "len" = none
  z_list : mg "list" = none
  z_max : mg "max" = none
  z_min : mg "min" = none
  z_range : mg "range" = none
  z_sorted : mg "sorted" = none
  z_sum : mg "sum" = none
  z_tuple : mg "tuple" = none
  lam_code : a.d_by_strength.code = .ref a.c_lam
  lam_tab : PySem.W.tabIn K "by_strength" = some (a.c_lam, a.p_lam)
theorem sc_is_whole : FnScope ["value", "most"] ["value", "most"] (defScope s_is_whole) := ⟨rfl, rfl, rfl, by decide +kernel, rfl, by decide +kernel, by decide +kernel⟩
theorem b_is_whole {K : PySem.W.Frag} {mg : Str → Option Value} {a : Adr} (T : Txt K mg a) : Binds K a.d_is_whole ["value", "most"] [] := T.F_is_whole.binds fun _ _ _ _ _ _ us hl => match us, hl with | [_, _], _ => rfl
theorem sc_everybody : FnScope ["members"] ["members"] (defScope s_everybody) := ⟨rfl, rfl, rfl, by decide +kernel, rfl, by decide +kernel, by decide +kernel⟩
theorem b_everybody {K : PySem.W.Frag} {mg : Str → Option Value} {a : Adr} (T : Txt K mg a) : Binds K a.d_everybody ["members"] [] := T.F_everybody.binds fun _ _ _ _ _ _ us hl => match us, hl with | [_], _ => rfl
theorem sc_is_group : FnScope ["value", "members"] ["value", "members"] (defScope s_is_group) := ⟨rfl, rfl, rfl, by decide +kernel, rfl, by decide +kernel, by decide +kernel⟩
theorem b_is_group {K : PySem.W.Frag} {mg : Str → Option Value} {a : Adr} (T : Txt K mg a) : Binds K a.d_is_group ["value", "members"] [] := T.F_is_group.binds fun _ _ _ _ _ _ us hl => match us, hl with | [_, _], _ => rfl
theorem sc_groups_of : FnScope ["members"] ["members"] (defScope s_groups_of) := ⟨rfl, rfl, rfl, by decide +kernel, rfl, by decide +kernel, by decide +kernel⟩
theorem b_groups_of {K : PySem.W.Frag} {mg : Str → Option Value} {a : Adr} (T : Txt K mg a) : Binds K a.d_groups_of ["members"] [] := T.F_groups_of.binds fun _ _ _ _ _ _ us hl => match us, hl with | [_], _ => rfl
theorem sc_has : FnScope ["group", "member"] ["group", "member"] (defScope s_has) := ⟨rfl, rfl, rfl, by decide +kernel, rfl, by decide +kernel, by decide +kernel⟩
theorem b_has {K : PySem.W.Frag} {mg : Str → Option Value} {a : Adr} (T : Txt K mg a) : Binds K a.d_has ["group", "member"] [] := T.F_has.binds fun _ _ _ _ _ _ us hl => match us, hl with | [_, _], _ => rfl
theorem sc_members_of : FnScope ["group"] ["group"] (defScope s_members_of) := ⟨rfl, rfl, rfl, by decide +kernel, rfl, by decide +kernel, by decide +kernel⟩
theorem b_members_of {K : PySem.W.Frag} {mg : Str → Option Value} {a : Adr} (T : Txt K mg a) : Binds K a.d_members_of ["group"] [] := T.F_members_of.binds fun _ _ _ _ _ _ us hl => match us, hl with | [_], _ => rfl
theorem sc_with_member : FnScope ["group", "member"] ["group", "member"] (defScope s_with_member) := ⟨rfl, rfl, rfl, by decide +kernel, rfl, by decide +kernel, by decide +kernel⟩
theorem b_with_member {K : PySem.W.Frag} {mg : Str → Option Value} {a : Adr} (T : Txt K mg a) : Binds K a.d_with_member ["group", "member"] [] := T.F_with_member.binds fun _ _ _ _ _ _ us hl => match us, hl with | [_, _], _ => rfl
theorem sc_within : FnScope ["small", "large"] ["small", "large"] (defScope s_within) := ⟨rfl, rfl, rfl, by decide +kernel, rfl, by decide +kernel, by decide +kernel⟩
theorem b_within {K : PySem.W.Frag} {mg : Str → Option Value} {a : Adr} (T : Txt K mg a) : Binds K a.d_within ["small", "large"] [] := T.F_within.binds fun _ _ _ _ _ _ us hl => match us, hl with | [_, _], _ => rfl
theorem sc_weight_of : FnScope ["weights", "group"] ["weights", "group"] (defScope s_weight_of) := ⟨rfl, rfl, rfl, by decide +kernel, rfl, by decide +kernel, by decide +kernel⟩
theorem b_weight_of {K : PySem.W.Frag} {mg : Str → Option Value} {a : Adr} (T : Txt K mg a) : Binds K a.d_weight_of ["weights", "group"] [] := T.F_weight_of.binds fun _ _ _ _ _ _ us hl => match us, hl with | [_, _], _ => rfl
theorem sc_Weights_init : FnScope ["self", "weights", "quota"] ["self", "weights", "quota"] (defScope s_Weights_init) := ⟨rfl, rfl, rfl, by decide +kernel, rfl, by decide +kernel, by decide +kernel⟩
theorem b_Weights_init {K : PySem.W.Frag} {mg : Str → Option Value} {a : Adr} (T : Txt K mg a) : Binds K a.d_Weights_init ["self", "weights", "quota"] [] := T.F_Weights_init.binds fun _ _ _ _ _ _ us hl => match us, hl with | [_, _, _], _ => rfl
theorem sc_Weights_holds : FnScope ["self", "council"] ["self", "council"] (defScope s_Weights_holds) := ⟨rfl, rfl, rfl, by decide +kernel, rfl, by decide +kernel, by decide +kernel⟩
theorem b_Weights_holds {K : PySem.W.Frag} {mg : Str → Option Value} {a : Adr} (T : Txt K mg a) : Binds K a.d_Weights_holds ["self", "council"] [] := T.F_Weights_holds.binds fun _ _ _ _ _ _ us hl => match us, hl with | [_, _], _ => rfl
theorem sc_Weights_agrees : FnScope ["self", "council", "group"] ["self", "council", "group"] (defScope s_Weights_agrees) := ⟨rfl, rfl, rfl, by decide +kernel, rfl, by decide +kernel, by decide +kernel⟩
theorem b_Weights_agrees {K : PySem.W.Frag} {mg : Str → Option Value} {a : Adr} (T : Txt K mg a) : Binds K a.d_Weights_agrees ["self", "council", "group"] [] := T.F_Weights_agrees.binds fun _ _ _ _ _ _ us hl => match us, hl with | [_, _, _], _ => rfl
theorem sc_Trade_init : FnScope ["self", "carry", "fail"] ["self", "carry", "fail"] (defScope s_Trade_init) := ⟨rfl, rfl, rfl, by decide +kernel, rfl, by decide +kernel, by decide +kernel⟩
theorem b_Trade_init {K : PySem.W.Frag} {mg : Str → Option Value} {a : Adr} (T : Txt K mg a) : Binds K a.d_Trade_init ["self", "carry", "fail"] [] := T.F_Trade_init.binds fun _ _ _ _ _ _ us hl => match us, hl with | [_, _, _], _ => rfl
theorem sc_Trade_holds : FnScope ["self", "council"] ["self", "council"] (defScope s_Trade_holds) := ⟨rfl, rfl, rfl, by decide +kernel, rfl, by decide +kernel, by decide +kernel⟩
theorem b_Trade_holds {K : PySem.W.Frag} {mg : Str → Option Value} {a : Adr} (T : Txt K mg a) : Binds K a.d_Trade_holds ["self", "council"] [] := T.F_Trade_holds.binds fun _ _ _ _ _ _ us hl => match us, hl with | [_, _], _ => rfl
theorem sc_how_often : FnScope ["groups", "member"] ["groups", "member"] (defScope s_how_often) := ⟨rfl, rfl, rfl, by decide +kernel, rfl, by decide +kernel, by decide +kernel⟩
theorem b_how_often {K : PySem.W.Frag} {mg : Str → Option Value} {a : Adr} (T : Txt K mg a) : Binds K a.d_how_often ["groups", "member"] [] := T.F_how_often.binds fun _ _ _ _ _ _ us hl => match us, hl with | [_, _], _ => rfl
theorem sc_telling : FnScope ["council", "trade"] ["council"] (defScope s_telling) := ⟨rfl, rfl, rfl, by decide +kernel, rfl, by decide +kernel, by decide +kernel⟩
theorem b_telling {K : PySem.W.Frag} {mg : Str → Option Value} {a : Adr} (T : Txt K mg a) : Binds K a.d_telling ["council"] [] := T.F_telling.binds fun _ _ _ _ _ _ us hl => match us, hl with | [_], _ => rfl
theorem sc_trade_of : FnScope ["council", "fails", "carry", "fail"] ["council"] (defScope s_trade_of) := ⟨rfl, rfl, rfl, by decide +kernel, rfl, by decide +kernel, by decide +kernel⟩
theorem b_trade_of {K : PySem.W.Frag} {mg : Str → Option Value} {a : Adr} (T : Txt K mg a) : Binds K a.d_trade_of ["council"] [] := T.F_trade_of.binds fun _ _ _ _ _ _ us hl => match us, hl with | [_], _ => rfl
theorem sc_pairs : FnScope ["groups", "found", "place", "one", "other"] ["groups"] (defScope s_pairs) := ⟨rfl, rfl, rfl, by decide +kernel, rfl, by decide +kernel, by decide +kernel⟩
theorem b_pairs {K : PySem.W.Frag} {mg : Str → Option Value} {a : Adr} (T : Txt K mg a) : Binds K a.d_pairs ["groups"] [] := T.F_pairs.binds fun _ _ _ _ _ _ us hl => match us, hl with | [_], _ => rfl
theorem sc_outdoes : FnScope ["fail", "carry"] ["fail", "carry"] (defScope s_outdoes) := ⟨rfl, rfl, rfl, by decide +kernel, rfl, by decide +kernel, by decide +kernel⟩
theorem b_outdoes {K : PySem.W.Frag} {mg : Str → Option Value} {a : Adr} (T : Txt K mg a) : Binds K a.d_outdoes ["fail", "carry"] [] := T.F_outdoes.binds fun _ _ _ _ _ _ us hl => match us, hl with | [_, _], _ => rfl
theorem sc_weights_of : FnScope ["council", "order", "least", "greatest", "falling", "weights", "quota"] ["council"] (defScope s_weights_of) := ⟨rfl, rfl, rfl, by decide +kernel, rfl, by decide +kernel, by decide +kernel⟩
theorem b_weights_of {K : PySem.W.Frag} {mg : Str → Option Value} {a : Adr} (T : Txt K mg a) : Binds K a.d_weights_of ["council"] [] := T.F_weights_of.binds fun _ _ _ _ _ _ us hl => match us, hl with | [_], _ => rfl
theorem sc_by_strength : FnScope ["council"] ["council"] (defScope s_by_strength) := ⟨rfl, rfl, rfl, by decide +kernel, rfl, by decide +kernel, by decide +kernel⟩
theorem b_by_strength {K : PySem.W.Frag} {mg : Str → Option Value} {a : Adr} (T : Txt K mg a) : Binds K a.d_by_strength ["council"] [] := T.F_by_strength.binds fun _ _ _ _ _ _ us hl => match us, hl with | [_], _ => rfl
theorem sc_strength : FnScope ["council", "member"] ["council", "member"] (defScope s_strength) := ⟨rfl, rfl, rfl, by decide +kernel, rfl, by decide +kernel, by decide +kernel⟩
theorem b_strength {K : PySem.W.Frag} {mg : Str → Option Value} {a : Adr} (T : Txt K mg a) : Binds K a.d_strength ["council", "member"] [] := T.F_strength.binds fun _ _ _ _ _ _ us hl => match us, hl with | [_, _], _ => rfl
theorem sc_falling_lists : FnScope ["length", "most", "found", "first", "rest"] ["length", "most"] (defScope s_falling_lists) := ⟨rfl, rfl, rfl, by decide +kernel, rfl, by decide +kernel, by decide +kernel⟩
theorem b_falling_lists {K : PySem.W.Frag} {mg : Str → Option Value} {a : Adr} (T : Txt K mg a) : Binds K a.d_falling_lists ["length", "most"] [] := T.F_falling_lists.binds fun _ _ _ _ _ _ us hl => match us, hl with | [_, _], _ => rfl
theorem sc_placed : FnScope ["falling", "order", "weights", "place", "member"] ["falling", "order"] (defScope s_placed) := ⟨rfl, rfl, rfl, by decide +kernel, rfl, by decide +kernel, by decide +kernel⟩
theorem b_placed {K : PySem.W.Frag} {mg : Str → Option Value} {a : Adr} (T : Txt K mg a) : Binds K a.d_placed ["falling", "order"] [] := T.F_placed.binds fun _ _ _ _ _ _ us hl => match us, hl with | [_, _], _ => rfl
theorem sc_Council_init : FnScope ["self", "members", "groups"] ["self", "members", "groups"] (defScope s_Council_init) := ⟨rfl, rfl, rfl, by decide +kernel, rfl, by decide +kernel, by decide +kernel⟩
theorem b_Council_init {K : PySem.W.Frag} {mg : Str → Option Value} {a : Adr} (T : Txt K mg a) : Binds K a.d_Council_init ["self", "members", "groups"] [] := T.F_Council_init.binds fun _ _ _ _ _ _ us hl => match us, hl with | [_, _, _], _ => rfl
theorem sc_Council_carries : FnScope ["self", "group"] ["self", "group"] (defScope s_Council_carries) := ⟨rfl, rfl, rfl, by decide +kernel, rfl, by decide +kernel, by decide +kernel⟩
theorem b_Council_carries {K : PySem.W.Frag} {mg : Str → Option Value} {a : Adr} (T : Txt K mg a) : Binds K a.d_Council_carries ["self", "group"] [] := T.F_Council_carries.binds fun _ _ _ _ _ _ us hl => match us, hl with | [_, _], _ => rfl
theorem sc_Council_least : FnScope ["self"] ["self"] (defScope s_Council_least) := ⟨rfl, rfl, rfl, by decide +kernel, rfl, by decide +kernel, by decide +kernel⟩
theorem b_Council_least {K : PySem.W.Frag} {mg : Str → Option Value} {a : Adr} (T : Txt K mg a) : Binds K a.d_Council_least ["self"] [] := T.F_Council_least.binds fun _ _ _ _ _ _ us hl => match us, hl with | [_], _ => rfl
theorem sc_Council_greatest : FnScope ["self"] ["self"] (defScope s_Council_greatest) := ⟨rfl, rfl, rfl, by decide +kernel, rfl, by decide +kernel, by decide +kernel⟩
theorem b_Council_greatest {K : PySem.W.Frag} {mg : Str → Option Value} {a : Adr} (T : Txt K mg a) : Binds K a.d_Council_greatest ["self"] [] := T.F_Council_greatest.binds fun _ _ _ _ _ _ us hl => match us, hl with | [_], _ => rfl
theorem sc_Council_is_least : FnScope ["self", "group", "smaller"] ["self", "group"] (defScope s_Council_is_least) := ⟨rfl, rfl, rfl, by decide +kernel, rfl, by decide +kernel, by decide +kernel⟩
theorem b_Council_is_least {K : PySem.W.Frag} {mg : Str → Option Value} {a : Adr} (T : Txt K mg a) : Binds K a.d_Council_is_least ["self", "group"] [] := T.F_Council_is_least.binds fun _ _ _ _ _ _ us hl => match us, hl with | [_, _], _ => rfl
theorem sc_Council_is_greatest : FnScope ["self", "group", "larger"] ["self", "group"] (defScope s_Council_is_greatest) := ⟨rfl, rfl, rfl, by decide +kernel, rfl, by decide +kernel, by decide +kernel⟩
theorem b_Council_is_greatest {K : PySem.W.Frag} {mg : Str → Option Value} {a : Adr} (T : Txt K mg a) : Binds K a.d_Council_is_greatest ["self", "group"] [] := T.F_Council_is_greatest.binds fun _ _ _ _ _ _ us hl => match us, hl with | [_, _], _ => rfl
theorem sc_refuse_bad_council : FnScope ["members", "groups"] ["members", "groups"] (defScope s_refuse_bad_council) := ⟨rfl, rfl, rfl, by decide +kernel, rfl, by decide +kernel, by decide +kernel⟩
theorem b_refuse_bad_council {K : PySem.W.Frag} {mg : Str → Option Value} {a : Adr} (T : Txt K mg a) : Binds K a.d_refuse_bad_council ["members", "groups"] [] := T.F_refuse_bad_council.binds fun _ _ _ _ _ _ us hl => match us, hl with | [_, _], _ => rfl
theorem sc_has_one_within : FnScope ["groups", "group"] ["groups", "group"] (defScope s_has_one_within) := ⟨rfl, rfl, rfl, by decide +kernel, rfl, by decide +kernel, by decide +kernel⟩
theorem b_has_one_within {K : PySem.W.Frag} {mg : Str → Option Value} {a : Adr} (T : Txt K mg a) : Binds K a.d_has_one_within ["groups", "group"] [] := T.F_has_one_within.binds fun _ _ _ _ _ _ us hl => match us, hl with | [_, _], _ => rfl
theorem sc_turned : FnScope ["council", "everyone", "carrying"] ["council"] (defScope s_turned) := ⟨rfl, rfl, rfl, by decide +kernel, rfl, by decide +kernel, by decide +kernel⟩
theorem b_turned {K : PySem.W.Frag} {mg : Str → Option Value} {a : Adr} (T : Txt K mg a) : Binds K a.d_turned ["council"] [] := T.F_turned.binds fun _ _ _ _ _ _ us hl => match us, hl with | [_], _ => rfl
theorem sc_weighted : FnScope ["weights", "quota", "members", "carrying"] ["weights", "quota"] (defScope s_weighted) := ⟨rfl, rfl, rfl, by decide +kernel, rfl, by decide +kernel, by decide +kernel⟩
theorem b_weighted {K : PySem.W.Frag} {mg : Str → Option Value} {a : Adr} (T : Txt K mg a) : Binds K a.d_weighted ["weights", "quota"] [] := T.F_weighted.binds fun _ _ _ _ _ _ us hl => match us, hl with | [_, _], _ => rfl
theorem sc_refuse_bad_weights : FnScope ["weights", "quota"] ["weights", "quota"] (defScope s_refuse_bad_weights) := ⟨rfl, rfl, rfl, by decide +kernel, rfl, by decide +kernel, by decide +kernel⟩
theorem b_refuse_bad_weights {K : PySem.W.Frag} {mg : Str → Option Value} {a : Adr} (T : Txt K mg a) : Binds K a.d_refuse_bad_weights ["weights", "quota"] [] := T.F_refuse_bad_weights.binds fun _ _ _ _ _ _ us hl => match us, hl with | [_, _], _ => rfl
theorem sc_law_cell_at : FnScope ["_law_script", "_law_k"] ["_law_script", "_law_k"] (defScope s_law_cell_at) := ⟨rfl, rfl, rfl, by decide +kernel, rfl, by decide +kernel, by decide +kernel⟩
theorem b_law_cell_at {K : PySem.W.Frag} {mg : Str → Option Value} {a : Adr} (T : Txt K mg a) : Binds K a.d_law_cell_at ["_law_script", "_law_k"] [] := T.F_law_cell_at.binds fun _ _ _ _ _ _ us hl => match us, hl with | [_, _], _ => rfl
theorem sc_law_draw : FnScope ["_law_cell", "_law_k", "_law_many", "_law_primes", "_law_blend"] ["_law_cell", "_law_k", "_law_many"] (defScope s_law_draw) := ⟨rfl, rfl, rfl, by decide +kernel, rfl, by decide +kernel, by decide +kernel⟩
theorem b_law_draw {K : PySem.W.Frag} {mg : Str → Option Value} {a : Adr} (T : Txt K mg a) : Binds K a.d_law_draw ["_law_cell", "_law_k", "_law_many"] [] := T.F_law_draw.binds fun _ _ _ _ _ _ us hl => match us, hl with | [_, _, _], _ => rfl
theorem sc_law_told : FnScope ["_law_script", "_law_first", "_law_cell", "_law_other", "_law_members", "_law_groups", "_law_weights", "_law_quota", "_law_group", "_law_k"] ["_law_script", "_law_first"] (defScope s_law_told) := ⟨rfl, rfl, rfl, by decide +kernel, rfl, by decide +kernel, by decide +kernel⟩
theorem b_law_told {K : PySem.W.Frag} {mg : Str → Option Value} {a : Adr} (T : Txt K mg a) : Binds K a.d_law_told ["_law_script", "_law_first"] [] := T.F_law_told.binds fun _ _ _ _ _ _ us hl => match us, hl with | [_, _], _ => rfl
theorem sc_law_table : FnScope ["_law_told_here", "_law_found", "_law_group"] ["_law_told_here"] (defScope s_law_table) := ⟨rfl, rfl, rfl, by decide +kernel, rfl, by decide +kernel, by decide +kernel⟩
theorem b_law_table {K : PySem.W.Frag} {mg : Str → Option Value} {a : Adr} (T : Txt K mg a) : Binds K a.d_law_table ["_law_told_here"] [] := T.F_law_table.binds fun _ _ _ _ _ _ us hl => match us, hl with | [_], _ => rfl
theorem sc_law_has : FnScope ["_law_group", "_law_member"] ["_law_group", "_law_member"] (defScope s_law_has) := ⟨rfl, rfl, rfl, by decide +kernel, rfl, by decide +kernel, by decide +kernel⟩
theorem b_law_has {K : PySem.W.Frag} {mg : Str → Option Value} {a : Adr} (T : Txt K mg a) : Binds K a.d_law_has ["_law_group", "_law_member"] [] := T.F_law_has.binds fun _ _ _ _ _ _ us hl => match us, hl with | [_, _], _ => rfl
theorem sc_law_whole : FnScope ["_law_things"] ["_law_things"] (defScope s_law_whole) := ⟨rfl, rfl, rfl, by decide +kernel, rfl, by decide +kernel, by decide +kernel⟩
theorem b_law_whole {K : PySem.W.Frag} {mg : Str → Option Value} {a : Adr} (T : Txt K mg a) : Binds K a.d_law_whole ["_law_things"] [] := T.F_law_whole.binds fun _ _ _ _ _ _ us hl => match us, hl with | [_], _ => rfl
theorem sc_law_made : FnScope ["_law_table_here", "_law_weights", "_law_quota", "_law_group", "_law_total"] ["_law_table_here", "_law_weights", "_law_quota"] (defScope s_law_made) := ⟨rfl, rfl, rfl, by decide +kernel, rfl, by decide +kernel, by decide +kernel⟩
theorem b_law_made {K : PySem.W.Frag} {mg : Str → Option Value} {a : Adr} (T : Txt K mg a) : Binds K a.d_law_made ["_law_table_here", "_law_weights", "_law_quota"] [] := T.F_law_made.binds fun _ _ _ _ _ _ us hl => match us, hl with | [_, _, _], _ => rfl
theorem sc_law_traded : FnScope ["_law_table_here", "_law_carry", "_law_fail", "_law_members", "_law_k"] ["_law_table_here", "_law_carry", "_law_fail", "_law_members"] (defScope s_law_traded) := ⟨rfl, rfl, rfl, by decide +kernel, rfl, by decide +kernel, by decide +kernel⟩
theorem b_law_traded {K : PySem.W.Frag} {mg : Str → Option Value} {a : Adr} (T : Txt K mg a) : Binds K a.d_law_traded ["_law_table_here", "_law_carry", "_law_fail", "_law_members"] [] := T.F_law_traded.binds fun _ _ _ _ _ _ us hl => match us, hl with | [_, _, _, _], _ => rfl
theorem sc_law_right : FnScope ["_law_table_here", "_law_members", "_law_found"] ["_law_table_here", "_law_members", "_law_found"] (defScope s_law_right) := ⟨rfl, rfl, rfl, by decide +kernel, rfl, by decide +kernel, by decide +kernel⟩
theorem b_law_right {K : PySem.W.Frag} {mg : Str → Option Value} {a : Adr} (T : Txt K mg a) : Binds K a.d_law_right ["_law_table_here", "_law_members", "_law_found"] [] := T.F_law_right.binds fun _ _ _ _ _ _ us hl => match us, hl with | [_, _, _], _ => rfl
theorem sc_law_bent : FnScope ["_law_found", "_law_cell", "_law_members", "_law_weights", "_law_quota", "_law_carry", "_law_fail", "_law_group"] ["_law_found", "_law_cell", "_law_members"] (defScope s_law_bent) := ⟨rfl, rfl, rfl, by decide +kernel, rfl, by decide +kernel, by decide +kernel⟩
theorem b_law_bent {K : PySem.W.Frag} {mg : Str → Option Value} {a : Adr} (T : Txt K mg a) : Binds K a.d_law_bent ["_law_found", "_law_cell", "_law_members"] [] := T.F_law_bent.binds fun _ _ _ _ _ _ us hl => match us, hl with | [_, _, _], _ => rfl
theorem sc_law_says : FnScope ["_law_answer", "_law_council", "_law_due_here", "_law_told_here"] ["_law_answer", "_law_council", "_law_due_here"] (defScope s_law_says) := ⟨rfl, rfl, rfl, by decide +kernel, rfl, by decide +kernel, by decide +kernel⟩
theorem b_law_says {K : PySem.W.Frag} {mg : Str → Option Value} {a : Adr} (T : Txt K mg a) : Binds K a.d_law_says ["_law_answer", "_law_council", "_law_due_here"] [] := T.F_law_says.binds fun _ _ _ _ _ _ us hl => match us, hl with | [_, _, _], _ => rfl
theorem sc_law_by_hand : FnScope ["_law_council", "_law_table_here", "_law_found", "_law_bent_here", "_law_first", "_law_second", "_law_kept", "_law_made_here", "_law_due_here", "_law_other"] ["_law_council", "_law_table_here", "_law_found", "_law_bent_here"] (defScope s_law_by_hand) := ⟨rfl, rfl, rfl, by decide +kernel, rfl, by decide +kernel, by decide +kernel⟩
theorem b_law_by_hand {K : PySem.W.Frag} {mg : Str → Option Value} {a : Adr} (T : Txt K mg a) : Binds K a.d_law_by_hand ["_law_council", "_law_table_here", "_law_found", "_law_bent_here"] [] := T.F_law_by_hand.binds fun _ _ _ _ _ _ us hl => match us, hl with | [_, _, _, _], _ => rfl
theorem sc_law_due : FnScope ["_law_told_here", "_law_found", "_law_table_here"] ["_law_told_here", "_law_found"] (defScope s_law_due) := ⟨rfl, rfl, rfl, by decide +kernel, rfl, by decide +kernel, by decide +kernel⟩
theorem b_law_due {K : PySem.W.Frag} {mg : Str → Option Value} {a : Adr} (T : Txt K mg a) : Binds K a.d_law_due ["_law_told_here", "_law_found"] [] := T.F_law_due.binds fun _ _ _ _ _ _ us hl => match us, hl with | [_, _], _ => rfl
theorem sc_law_built : FnScope ["_law_told_here", "_law_cell", "_law_table_here", "_law_groups"] ["_law_told_here", "_law_cell"] (defScope s_law_built) := ⟨rfl, rfl, rfl, by decide +kernel, rfl, by decide +kernel, by decide +kernel⟩
theorem b_law_built {K : PySem.W.Frag} {mg : Str → Option Value} {a : Adr} (T : Txt K mg a) : Binds K a.d_law_built ["_law_told_here", "_law_cell"] [] := T.F_law_built.binds fun _ _ _ _ _ _ us hl => match us, hl with | [_, _], _ => rfl
theorem sc_law : FnScope ["_law_script", "_law_told_here", "_law_council", "_law_table_here", "_law_other", "_law_again", "_law_found", "_law_second"] ["_law_script"] (defScope s_law) := ⟨rfl, rfl, rfl, by decide +kernel, rfl, by decide +kernel, by decide +kernel⟩
/-! ## the data -/
theorem kmt : ¬ (("members" : Str) = "table") := by decide +kernel
def flds (n : Int) (t : Addr) : List (Str × V) := putF "table" (.ref t) (putF "members" (.int n) [])
theorem flds_m (n : Int) (t : Addr) : (flds n t).lookup ("members" : Str) = some (.int n) := by
  unfold flds
  rw [lookup_putF, if_neg kmt, lookup_putF, if_pos rfl]
theorem flds_t (n : Int) (t : Addr) : (flds n t).lookup ("table" : Str) = some (.ref t) := by
  unfold flds
  rw [lookup_putF, if_pos rfl]
theorem flds_no (n : Int) (t : Addr) {m : Str} (h1 : ¬ m = "table") (h2 : ¬ m = "members") : (flds n t).lookup m = none := by
  unfold flds
  rw [lookup_putF, if_neg h1, lookup_putF, if_neg h2]
  rfl
/-- a council stands at p: n members, tb tells which groups carry -/
structure CAt (C : Addr) (H : Hp) (p : Addr) (n : Nat) (tb : List Bool) : Prop where
  ob : ∃ dx t, H p = some (.ins C dx (flds (n : Int) t)) ∧ H t = some (.tup (tb.map V.bl))
  n1 : 1 ≤ n
  n5 : n ≤ 5
  len : tb.length = 2 ^ n
theorem CAt.same {C : Addr} {H H' : Hp} {p : Addr} {n : Nat} {tb : List Bool} (c : CAt C H p n tb) (h : Same H H') : CAt C H' p n tb := by
  obtain ⟨⟨dx, t, h1, h2⟩, n1, n5, l⟩ := c
  exact ⟨⟨dx, t, h _ _ h1, h _ _ h2⟩, n1, n5, l⟩
theorem nat_pow (n : Nat) : ((2 ^ n : Nat) : Int) = 2 ^ n := by
  induction n with
  | zero => rfl
  | succ k ih => rw [Nat.pow_succ, Int.pow_succ, ← ih]; omega
theorem pow_n {n : Nat} : (1 : Int) * 2 ^ ((n : Int)).toNat = ((2 ^ n : Nat) : Int) := by
  rw [Int.toNat_natCast, nat_pow]; omega
theorem upto_up (n : Nat) : upto n = (up n).map V.int := by
  unfold upto up
  rw [List.map_map]
  rfl
theorem shl_ok {n : Nat} (h : n ≤ 1000) : CPow 1 (n : Int) := ⟨by omega, by omega, by decide⟩

/-! ## the promises -/
def sp_is_whole : Sp := sp2 (fun _ _ => True) fun v m => .bl (decide (0 ≤ v ∧ v ≤ m))
def sp_everybody : Sp := fun vs H Q _ => ∃ n : Nat, vs = [.int n] ∧ n ≤ 5 ∧ ∀ H', Same H H' → Q (.int (((2 ^ n : Nat) : Int) - 1)) H'
def sp_is_group : Sp := fun vs H Q _ => ∃ (v : Int) (n : Nat), vs = [.int v, .int n] ∧ n ≤ 5 ∧ ∀ H', Same H H' → Q (.bl (decide (0 ≤ v ∧ v ≤ ((2 ^ n : Nat) : Int) - 1))) H'
def sp_groups_of : Sp := fun vs H Q _ => ∃ n : Nat, vs = [.int n] ∧ n ≤ 5 ∧ ∀ r H', H r = none → Same H H' → H' r = some (.lst ((up (2 ^ n)).map V.int)) → Q (.ref r) H'
def sp_has : Sp := sp2 (fun _ m => 0 ≤ m) fun g m => .bl (hasB g m)
def sp_members_of : Sp := fun vs H Q _ => ∃ g : Int, vs = [.int g] ∧ ∀ r H', H r = none → Same H H' → H' r = some (.lst ((ins 5 g).map V.int)) → Q (.ref r) H'
def sp_with_member : Sp := sp2 (fun _ m => 0 ≤ m ∧ m ≤ 5) fun g m => .int (Builtin.bitOr g (1 * 2 ^ m.toNat))
def sp_within : Sp := sp2 (fun _ _ => True) fun s l => .bl (withinB s l)
def sp_weight_of : Sp := fun vs H Q _ => ∃ (l : Addr) (ws : List Int) (g : Int), vs = [.ref l, .int g] ∧ H l = some (.lst (ws.map V.int)) ∧ ws.length ≤ 1000 ∧ ∀ H', Same H H' → Q (.int (wtOf ws g)) H'
def sp_has_one_within : Sp := fun vs H Q _ => ∃ (l : Addr) (gs : List Int) (g : Int), vs = [.ref l, .int g] ∧ H l = some (.lst (gs.map V.int)) ∧ gs.length ≤ 1000 ∧ ∀ H', Same H H' → Q (.bl (carrB gs g)) H'
/-- groups of n members -/
def GrpOk (n : Nat) (gs : List Int) : Prop := gs.length ≤ 1000 ∧ ∀ g ∈ gs, 0 ≤ g ∧ g < ((2 ^ n : Nat) : Int)
def sp_refuse_bad_council : Sp := fun vs H Q _ => ∃ (n : Nat) (l : Addr) (gs : List Int), vs = [.int n, .ref l] ∧ 1 ≤ n ∧ n ≤ 5 ∧ H l = some (.lst (gs.map V.int)) ∧ GrpOk n gs ∧ ∀ H', Same H H' → Q .non H'
def sp_init (C : Addr) : Sp := fun vs H Q _ => ∃ (p dx : Addr) (n : Nat) (l : Addr) (gs : List Int), vs = [.ref p, .int n, .ref l] ∧ H p = some (.ins C dx []) ∧ 1 ≤ n ∧ n ≤ 5 ∧ H l = some (.lst (gs.map V.int)) ∧ GrpOk n gs ∧
  ∀ H', CAt C H' p n (tabOf n gs) → (∀ b o, H b = some o → b ≠ p → H' b = some o) → Q .non H'
def sp_carries (C : Addr) : Sp := fun vs H Q _ => ∃ (p : Addr) (n : Nat) (tb : List Bool) (g : Int), vs = [.ref p, .int g] ∧ CAt C H p n tb ∧ 0 ≤ g ∧ g < ((2 ^ n : Nat) : Int) ∧ ∀ H', Same H H' → Q (.bl (at_ tb g)) H'
def sp_is_least (C : Addr) : Sp := fun vs H Q _ => ∃ (p : Addr) (n : Nat) (tb : List Bool) (g : Int), vs = [.ref p, .int g] ∧ CAt C H p n tb ∧ 0 ≤ g ∧ g < ((2 ^ n : Nat) : Int) ∧
  ∀ H', Same H H' → Q (.bl (at_ tb g && !((ins n g).map fun m => at_ tb (g - 1 * 2 ^ m.toNat)).any id)) H'
def sp_is_greatest (C : Addr) : Sp := fun vs H Q _ => ∃ (p : Addr) (n : Nat) (tb : List Bool) (g : Int), vs = [.ref p, .int g] ∧ CAt C H p n tb ∧ 0 ≤ g ∧ g < ((2 ^ n : Nat) : Int) ∧
  ∀ H', Same H H' → Q (.bl (!at_ tb g && ((outs n g).map fun m => at_ tb (g + 1 * 2 ^ m.toNat)).all id)) H'
def sp_least (C : Addr) : Sp := fun vs H Q _ => ∃ (p : Addr) (n : Nat) (tb : List Bool), vs = [.ref p] ∧ CAt C H p n tb ∧
  ∀ r H', H r = none → Same H H' → H' r = some (.lst ((leastBy (fun g m => g - 1 * 2 ^ m.toNat) n tb).map V.int)) → Q (.ref r) H'
def sp_greatest (C : Addr) : Sp := fun vs H Q _ => ∃ (p : Addr) (n : Nat) (tb : List Bool), vs = [.ref p] ∧ CAt C H p n tb ∧
  ∀ r H', H r = none → Same H H' → H' r = some (.lst ((greatBy (fun g m => g + 1 * 2 ^ m.toNat) n tb).map V.int)) → Q (.ref r) H'

/-! ## groups.py -/
theorem ok_is_whole {P : Program} {w : World} {K : PySem.W.Frag} {mg : Str → Option Value} {base : Heap} {a : Adr} (T : Txt K mg a) : FnOk P w K mg base CX0 1 a.a_is_whole a.d_is_whole ["value", "most"] sp_is_whole := by
  refine T.F_is_whole.ok sc_is_whole (fun vs H Q E h => ?_) (fun cdv A outer s H vs Q E hr h => ?_)
  · obtain ⟨x, y, rfl, _⟩ := h; rfl
  obtain ⟨v, m, rfl, _, k⟩ := h
  refine ⟨_, (pss_one (ps_ret (pe_and (pe_callB (call_isiK K) rfl T.z_isinstance PyProof.Rows.boot_isinstance (pa_cons (pv 0) (pa_cons (pe_bltn (v := .ty "int") rfl T.z_int PyProof.Rows.boot_int rfl) pa_nil))) (pe_and (pe_not (pe_callB (call_isiK K) rfl T.z_isinstance PyProof.Rows.boot_isinstance (pa_cons (pv 0) (pa_cons (pe_bltn (v := .ty "bool") rfl T.z_bool PyProof.Rows.boot_bool rfl) pa_nil)))) (pe_one (pe_chain op_le op_le pe_int (pv 0) (pv 1))))))), ?_⟩
  refine ⟨_, rfl, _, "int", "int", true, rfl, .int v, .inl rfl, isi_ii, true, rfl, iteT ?_⟩
  refine ⟨_, rfl, _, "int", "bool", false, rfl, .int v, .inr (.inl rfl), isi_ib, false, rfl, true, rfl, iteT ?_⟩
  refine ⟨_, rfl, _, _, rfl, rfl, _, rfl, ?_⟩
  refine ite_b (fun c => ?_) (fun c => ?_)
  · refine ⟨_, rfl, _, _, rfl, rfl, ?_⟩
    have c' : 0 ≤ v := of_decide_eq_true c
    have e : decide (0 ≤ v ∧ v ≤ m) = decide (v ≤ m) := by
      rw [Bool.eq_iff_iff, decide_eq_true_eq, decide_eq_true_eq]
      exact ⟨fun z => z.2, fun z => ⟨c', z⟩⟩
    have q : Q (.bl (decide (0 ≤ v ∧ v ≤ m))) H := k H (Same.refl H)
    rw [e] at q
    exact q
  · have c' : ¬ 0 ≤ v := of_decide_eq_false c
    have e : decide (0 ≤ v ∧ v ≤ m) = false := decide_eq_false fun z => c' z.1
    have q : Q (.bl (decide (0 ≤ v ∧ v ≤ m))) H := k H (Same.refl H)
    rw [e] at q
    exact q
theorem ok_everybody {P : Program} {w : World} {K : PySem.W.Frag} {mg : Str → Option Value} {base : Heap} {a : Adr} (T : Txt K mg a) : FnOk P w K mg base CX0 1 a.a_everybody a.d_everybody ["members"] sp_everybody := by
  refine T.F_everybody.ok sc_everybody (fun vs H Q E h => ?_) (fun cdv A outer s H vs Q E hr h => ?_)
  · obtain ⟨x, rfl, _⟩ := h; rfl
  obtain ⟨n, rfl, hn, k⟩ := h
  refine ⟨_, (pss_one (ps_ret (pe_op op_sub (pe_op op_shl pe_int (pv 0)) pe_int))), ?_⟩
  refine ⟨_, rfl, _, _, rfl, rfl, shl_ok (by omega), _, _, rfl, rfl, ?_⟩
  have q := k H (Same.refl H)
  rw [← pow_n] at q
  exact q
theorem ok_is_group {P : Program} {w : World} {K : PySem.W.Frag} {mg : Str → Option Value} {base : Heap} {a : Adr} (T : Txt K mg a) : FnOk P w K mg base CX0 2 a.a_is_group a.d_is_group ["value", "members"] sp_is_group := by
  refine T.F_is_group.ok sc_is_group (fun vs H Q E h => ?_) (fun cdv A outer s H vs Q E hr h => ?_)
  · obtain ⟨x, n, rfl, _⟩ := h; rfl
  obtain ⟨v, n, rfl, hn, k⟩ := h
  refine ⟨_, (pss_one (ps_ret (pe_call (ok_is_whole T) hr rfl T.m_is_whole T.F_is_whole.kp (b_is_whole T) .nil pass0 (pa_cons (pv 0) (pa_cons (pe_call (ok_everybody T) hr rfl T.m_everybody T.F_everybody.kp (b_everybody T) .nil pass0 (pa_cons (pv 1) pa_nil)) pa_nil))))), ?_⟩
  refine ⟨_, rfl, _, rfl, n, rfl, hn, fun H1 h1 => ?_⟩
  exact ⟨_, _, rfl, trivial, fun H2 h2 => k H2 (h1.trans h2)⟩
theorem ok_groups_of {P : Program} {w : World} {K : PySem.W.Frag} {mg : Str → Option Value} {base : Heap} {a : Adr} (T : Txt K mg a) : FnOk P w K mg base CX0 1 a.a_groups_of a.d_groups_of ["members"] sp_groups_of := by
  refine T.F_groups_of.ok sc_groups_of (fun vs H Q E h => ?_) (fun cdv A outer s H vs Q E hr h => ?_)
  · obtain ⟨n, rfl, _⟩ := h; rfl
  obtain ⟨n, rfl, hn, k⟩ := h
  refine ⟨_, (pss_one (ps_ret (pe_callTy (call_list_rng rfl) rfl T.z_list PyProof.Rows.boot_list (pa_cons (pe_callTy call_range1 rfl T.z_range PyProof.Rows.boot_range (pa_cons (pe_op op_shl pe_int (pv 0)) pa_nil)) pa_nil)))), ?_⟩
  have h5 := two_le hn
  refine ⟨_, rfl, _, _, rfl, rfl, shl_ok (by omega), _, rfl, fun p hp => ?_⟩
  refine ⟨p, _, rfl, upd_same, ?_, ?_, fun l hl => ?_⟩
  · rw [pow_n]; exact Int.natCast_nonneg _
  · rw [pow_n]; omega
  have e : upto ((1 : Int) * 2 ^ ((n : Int)).toNat).toNat = (up (2 ^ n)).map V.int := by
    rw [pow_n, Int.toNat_natCast, upto_up]
  refine k l _ ((same_new hp _).free hl) ((same_new hp _).trans (same_new hl _)) ?_
  rw [upd_same, ← e]
theorem ok_has {P : Program} {w : World} {K : PySem.W.Frag} {mg : Str → Option Value} {base : Heap} {a : Adr} (T : Txt K mg a) : FnOk P w K mg base CX0 1 a.a_has a.d_has ["group", "member"] sp_has := by
  refine T.F_has.ok sc_has (fun vs H Q E h => ?_) (fun cdv A outer s H vs Q E hr h => ?_)
  · obtain ⟨x, y, rfl, _⟩ := h; rfl
  obtain ⟨g, m, rfl, hm, k⟩ := h
  refine ⟨_, (pss_one (ps_ret (pe_cmpR op_eq (pe_op op_and (pe_op op_shr (pv 0) (pv 1)) pe_int) pe_int (nomark _)))), ?_⟩
  refine ⟨_, rfl, _, rfl, _, _, rfl, rfl, hm, _, _, rfl, rfl, rfl, ?_⟩
  have q : Q (.bl (hasB g m)) H := k H (Same.refl H)
  unfold hasB at q
  rw [show decide (Builtin.bitAnd (g / 2 ^ m.toNat) 1 = 1) = decide (V.int (Builtin.bitAnd (g / 2 ^ m.toNat) 1) = V.int 1) by rw [dec_int]; rfl] at q
  exact q
theorem ok_members_of {P : Program} {w : World} {K : PySem.W.Frag} {mg : Str → Option Value} {base : Heap} {a : Adr} (T : Txt K mg a) : FnOk P w K mg base CX0 2 a.a_members_of a.d_members_of ["group"] sp_members_of := by
  refine T.F_members_of.ok sc_members_of (fun vs H Q E h => ?_) (fun cdv A outer s H vs Q E hr h => ?_)
  · obtain ⟨x, rfl, _⟩ := h; rfl
  obtain ⟨g, rfl, k⟩ := h
  refine ⟨_, (pss_one (ps_ret (pe_lc rfl (lcOk_of (S := defScope s_members_of) (N := ["group"]) (M := ["group", "member"]) (by decide +kernel)) (pi_range1 rfl T.z_range (pa_cons (pe_glob (v := .int 5) rfl T.g_MOST_MEMBERS ⟨_, rfl⟩) pa_nil)) (fun _ _ _ _ => (pg_name (i := 1) (show List.Nodup (["group", "member"] : List Str) by decide +kernel) rfl (by first | exact Or.inl rfl | exact Or.inr rfl))) (fun _ _ _ _ => (pifs_one (pt_val (pe_call (ok_has T) hr rfl T.m_has T.F_has.kp (b_has T) .nil pass0 (pa_cons (pv 0) (pa_cons (pv 1) pa_nil)))))) (fun _ _ _ _ => (pv 1))))), ?_⟩
  refine ⟨5, rfl, by omega, by omega, ?_⟩
  refine lcB_range (k := 5) rfl (by omega) (hasB g) V.int (fun x x0 x1 H1 s1 R q => ?_) (fun x x0 x1 hb H1 s1 R q => ?_) fun H1 D s1 hD => ?_
  · exact ⟨_, rfl, _, rfl, _, _, rfl, x0, fun H2 s2 => ⟨_, rfl, q H2 s2⟩⟩
  · exact ⟨_, rfl, q H1 (Same.refl _)⟩
  exact k D _ (s1.free hD) (s1.trans (same_new hD _)) upd_same
theorem ok_with_member {P : Program} {w : World} {K : PySem.W.Frag} {mg : Str → Option Value} {base : Heap} {a : Adr} (T : Txt K mg a) : FnOk P w K mg base CX0 1 a.a_with_member a.d_with_member ["group", "member"] sp_with_member := by
  refine T.F_with_member.ok sc_with_member (fun vs H Q E h => ?_) (fun cdv A outer s H vs Q E hr h => ?_)
  · obtain ⟨x, y, rfl, _⟩ := h; rfl
  obtain ⟨g, m, rfl, ⟨m0, m5⟩, k⟩ := h
  refine ⟨_, (pss_one (ps_ret (pe_op op_or (pv 0) (pe_op op_shl pe_int (pv 1))))), ?_⟩
  refine ⟨_, rfl, _, rfl, _, _, rfl, rfl, ⟨m0, by omega, by decide⟩, _, _, rfl, rfl, ?_⟩
  exact k H (Same.refl H)
theorem ok_within {P : Program} {w : World} {K : PySem.W.Frag} {mg : Str → Option Value} {base : Heap} {a : Adr} (T : Txt K mg a) : FnOk P w K mg base CX0 1 a.a_within a.d_within ["small", "large"] sp_within := by
  refine T.F_within.ok sc_within (fun vs H Q E h => ?_) (fun cdv A outer s H vs Q E hr h => ?_)
  · obtain ⟨x, y, rfl, _⟩ := h; rfl
  obtain ⟨x, y, rfl, _, k⟩ := h
  refine ⟨_, (pss_one (ps_ret (pe_cmpR op_eq (pe_op op_and (pv 0) (pv 1)) (pv 0) (nomark _)))), ?_⟩
  refine ⟨_, rfl, _, rfl, _, _, rfl, rfl, _, rfl, rfl, ?_⟩
  have q : Q (.bl (withinB x y)) H := k H (Same.refl H)
  unfold withinB at q
  rw [show decide (Builtin.bitAnd x y = x) = decide (V.int (Builtin.bitAnd x y) = V.int x) by rw [dec_int]; rfl] at q
  exact q
theorem pairs_sum (ws : List Int) (g : Int) : (((pairs (ws.map V.int)).filter fun q => hasB g (q.1 : Int)).map fun q => q.2) = (((up ws.length).filter (hasB g)).map fun k => ws.getD k.toNat 0).map V.int := by
  have key : ∀ n, n ≤ ws.length → ((((pairs (ws.map V.int)).take n).filter fun q => hasB g (q.1 : Int)).map fun q => q.2) = (((up n).filter (hasB g)).map fun k => ws.getD k.toNat 0).map V.int := by
    intro n
    induction n with
    | zero => intro _; rfl
    | succ n ih =>
      intro h
      have e : (ws.map V.int)[n]? = some (.int ws[n]) := by rw [List.getElem?_map, List.getElem?_eq_getElem h]; rfl
      rw [pairs_take e, up_succ, List.filter_append, List.filter_append, List.map_append, List.map_append, List.map_append, ih (by omega), List.filter_cons, List.filter_cons]
      congr 1
      cases hasB g (n : Int) with
      | true =>
        simp only [if_true, List.filter_nil, List.map_cons, List.map_nil, Int.toNat_natCast]
        rw [List.getD_eq_getElem?_getD, List.getElem?_eq_getElem (show n < ws.length by omega)]
        rfl
      | false => rfl
  have := key ws.length (Nat.le_refl _)
  rw [List.take_of_length_le (by rw [pairs_length, List.length_map]; exact Nat.le_refl _)] at this
  exact this
theorem ok_weight_of {P : Program} {w : World} {K : PySem.W.Frag} {mg : Str → Option Value} {base : Heap} {a : Adr} (T : Txt K mg a) : FnOk P w K mg base CX0 2 a.a_weight_of a.d_weight_of ["weights", "group"] sp_weight_of := by
  refine T.F_weight_of.ok sc_weight_of (fun vs H Q E h => ?_) (fun cdv A outer s H vs Q E hr h => ?_)
  · obtain ⟨l, ws, g, rfl, _⟩ := h; rfl
  obtain ⟨l, ws, g, rfl, hl, hz, k⟩ := h
  refine ⟨_, (pss_one (ps_ret (pe_callB (call_sumK K rfl) rfl T.z_sum PyProof.Rows.boot_sum (pa_cons (pe_lc rfl (lcOk_of (S := defScope s_weight_of) (N := ["weights", "group"]) (M := ["weights", "group", "member", "weight"]) (by decide +kernel)) (pi_enum rfl T.z_enumerate (pa_cons (pv 0) pa_nil)) (fun _ _ _ _ => (pg_tupK K (n := 2) rfl (pgs_cons (pg_name (i := 2) (show List.Nodup (["weights", "group", "member", "weight"] : List Str) by decide +kernel) rfl (by first | exact Or.inl rfl | exact Or.inr rfl)) (pgs_cons (pg_name (i := 3) (show List.Nodup (["weights", "group", "member", "weight"] : List Str) by decide +kernel) rfl (by first | exact Or.inl rfl | exact Or.inr rfl)) pgs_nil)))) (fun _ _ _ _ => (pifs_one (pt_val (pe_call (ok_has T) hr rfl T.m_has T.F_has.kp (b_has T) .nil pass0 (pa_cons (pv 1) (pa_cons (pv 2) pa_nil)))))) (fun _ _ _ _ => (pv 3))) pa_nil)))), ?_⟩
  refine ⟨_, rfl, l, _, rfl, SqL.of hl, ?_⟩
  refine lcB_enum rfl rfl (SqL.of hl) (by rw [List.length_map]; exact hz) (fun i _ => hasB g (i : Int)) (fun _ x => x) (fun i x hx H1 h1 R q => ?_) (fun i x hx _ H1 h1 R q => ?_) fun H1 D h1 hD => ?_
  · exact ⟨_, rfl, _, rfl, _, _, rfl, by omega, fun H2 h2 => ⟨_, rfl, q H2 h2⟩⟩
  · exact ⟨_, rfl, q H1 (Same.refl _)⟩
  · refine ⟨D, _, rfl, SqL.of (by rw [upd_same, pairs_sum]), ?_⟩
    exact k _ (h1.trans (same_new hD _))
theorem ok_has_one_within {P : Program} {w : World} {K : PySem.W.Frag} {mg : Str → Option Value} {base : Heap} {a : Adr} (T : Txt K mg a) : FnOk P w K mg base CX0 2 a.a_has_one_within a.d_has_one_within ["groups", "group"] sp_has_one_within := by
  refine T.F_has_one_within.ok sc_has_one_within (fun vs H Q E h => ?_) (fun cdv A outer s H vs Q E hr h => ?_)
  · obtain ⟨l, gs, g, rfl, _⟩ := h; rfl
  obtain ⟨l, gs, g, rfl, hl, hz, k⟩ := h
  refine ⟨_, (pss_one (ps_ret (pe_callB (call_anyK K rfl) rfl T.z_any PyProof.Rows.boot_any (pa_cons (pe_lc rfl (lcOk_of (S := defScope s_has_one_within) (N := ["groups", "group"]) (M := ["groups", "group", "told"]) (by decide +kernel)) (pi_listK K (pv 0)) (fun _ _ _ _ => (pg_name (i := 2) (show List.Nodup (["groups", "group", "told"] : List Str) by decide +kernel) rfl (by first | exact Or.inl rfl | exact Or.inr rfl))) (fun _ _ _ _ => pifs_nil) (fun _ _ _ _ => (pe_call (ok_within T) hr rfl T.m_within T.F_within.kp (b_within T) .nil pass0 (pa_cons (pv 2) (pa_cons (pv 1) pa_nil))))) pa_nil)))), ?_⟩
  refine ⟨_, rfl, l, rfl, ⟨_, SqL.of hl⟩, ?_⟩
  refine lcB_list rfl (SqL.of hl) (by rw [List.length_map]; exact hz) (fun _ => true) (fun x => match x with | .int o => .bl (withinB o g) | _ => .non) (fun x hx H1 h1 R q => q H1 (Same.refl _)) (fun x hx _ H1 h1 R q => ?_) fun H1 D h1 hD => ?_
  · obtain ⟨o, _, rfl⟩ := List.mem_map.mp hx
    exact ⟨_, rfl, _, rfl, _, _, rfl, trivial, fun H2 h2 => q H2 h2⟩
  · refine ⟨D, gs.map fun o => withinB o g, rfl, SqL.of ?_, ?_⟩
    · rw [upd_same, List.filter_eq_self.mpr (fun _ _ => rfl), List.map_map, List.map_map]
      rfl
    · have e : ((gs.map fun o => withinB o g).any id) = carrB gs g := by unfold carrB; rw [List.any_map]; rfl
      show Q (.bl ((gs.map fun o => withinB o g).any id)) _
      rw [e]
      exact k _ (h1.trans (same_new hD _))
/-! ## councils.py -/
theorem all_true {α : Type} {l : List α} {f : α → Bool} (h : ∀ x ∈ l, f x = true) : (l.map f).all id = true := by
  rw [List.all_map, List.all_eq_true]
  exact h
theorem ok_refuse_bad_council {P : Program} {w : World} {K : PySem.W.Frag} {mg : Str → Option Value} {base : Heap} {a : Adr} (T : Txt K mg a) : FnOk P w K mg base CX0 3 a.a_refuse_bad_council a.d_refuse_bad_council ["members", "groups"] sp_refuse_bad_council := by
  refine T.F_refuse_bad_council.ok sc_refuse_bad_council (fun vs H Q E h => ?_) (fun cdv A outer s H vs Q E hr h => ?_)
  · obtain ⟨n, l, gs, rfl, _⟩ := h; rfl
  obtain ⟨n, l, gs, rfl, n1, n5, hl, ⟨hz, hg⟩, k⟩ := h
  refine ⟨_, (pss_cons (ps_if (PW.pt (pw_or (pt_not (pt_val (pe_call (ok_is_whole T) (hr.mono (by decide)) rfl T.m_is_whole T.F_is_whole.kp (b_is_whole T) .nil pass0 (pa_cons (pv 0) (pa_cons (pe_glob (v := .int 5) rfl T.g_MOST_MEMBERS ⟨_, rfl⟩) pa_nil))))) (pw_or1 (pt_cmpR op_eq (pv 0) pe_int (nomark _))))) (pss_one ps_never) pss_nil)
      (pss_cons (ps_if (pt_not (pt_val (pe_callB (call_isiK K) rfl T.z_isinstance PyProof.Rows.boot_isinstance (pa_cons (pv 1) (pa_cons (pe_bltn (v := .ty "list") rfl T.z_list PyProof.Rows.boot_list rfl) pa_nil))))) (pss_one ps_never) pss_nil)
      (pss_one (ps_if (pt_not (pt_val (pe_callB (call_allK K rfl) rfl T.z_all PyProof.Rows.boot_all (pa_cons (pe_lc rfl (lcOk_of (S := defScope s_refuse_bad_council) (N := ["members", "groups"]) (M := ["members", "groups", "group"]) (by decide +kernel)) (pi_listK K (pv 1)) (fun _ _ _ _ => (pg_name (i := 2) (show List.Nodup (["members", "groups", "group"] : List Str) by decide +kernel) rfl (by first | exact Or.inl rfl | exact Or.inr rfl))) (fun _ _ _ _ => pifs_nil) (fun _ _ _ _ => (pe_call (ok_is_group T) hr rfl T.m_is_group T.F_is_group.kp (b_is_group T) .nil pass0 (pa_cons (pv 2) (pa_cons (pv 0) pa_nil))))) pa_nil)))) (pss_one ps_never) pss_nil)))), ?_⟩
  refine ⟨_, rfl, _, _, rfl, trivial, fun H1 h1 => ⟨_, rfl, ?_⟩⟩
  refine ite_f (by rw [decide_eq_true (by omega)]; rfl) ?_
  refine ⟨_, rfl, rfl, _, rfl, ?_⟩
  refine ite_f (decide_eq_false fun z => by have z' := V.int.inj z; omega) ?_
  refine ⟨_, rfl, _, "list", "list", true, rfl, .lst (h1 _ _ hl), .inr (.inr rfl), isi_ll, true, rfl, iteF ?_⟩
  refine ⟨_, rfl, l, rfl, ⟨_, SqL.of (h1 _ _ hl)⟩, ?_⟩
  refine lcB_list rfl (SqL.of (h1 _ _ hl)) (by rw [List.length_map]; exact hz) (fun _ => true) (fun x => match x with | .int o => .bl (decide (0 ≤ o ∧ o ≤ ((2 ^ n : Nat) : Int) - 1)) | _ => .non) (fun x hx H2 h2 R q => q H2 (Same.refl _)) (fun x hx _ H2 h2 R q => ?_) fun H2 D h2 hD => ?_
  · obtain ⟨o, _, rfl⟩ := List.mem_map.mp hx
    exact ⟨_, rfl, _, rfl, _, n, rfl, n5, fun H3 h3 => q H3 h3⟩
  · refine ⟨D, gs.map fun o => decide (0 ≤ o ∧ o ≤ ((2 ^ n : Nat) : Int) - 1), rfl, SqL.of ?_, _, rfl, ?_⟩
    · rw [upd_same, List.filter_eq_self.mpr (fun _ _ => rfl), List.map_map, List.map_map]
      rfl
    · refine ite_f (by rw [all_true fun o ho => decide_eq_true (by have := hg o ho; omega)]; rfl) ?_
      exact k _ (h1.trans (h2.trans (same_new hD _)))
theorem ok_Council_init {P : Program} {w : World} {K : PySem.W.Frag} {mg : Str → Option Value} {base : Heap} {a : Adr} (T : Txt K mg a) : FnOk P w K mg base CX0 4 a.a_Council_init a.d_Council_init ["self", "members", "groups"] (sp_init a.C_Council) := by
  refine T.F_Council_init.ok sc_Council_init (fun vs H Q E h => ?_) (fun cdv A outer s H vs Q E hr h => ?_)
  · obtain ⟨p, dx, n, l, gs, rfl, _⟩ := h; rfl
  obtain ⟨p, dx, n, l, gs, rfl, hp, n1, n5, hl, hg, k⟩ := h
  refine ⟨_, (pss_cons (ps_expr (pe_call (ok_refuse_bad_council T) hr rfl T.m_refuse_bad_council T.F_refuse_bad_council.kp (b_refuse_bad_council T) .nil pass0 (pa_cons (pv 1) (pa_cons (pv 2) pa_nil))))
      (pss_cons (ps_fld (pv 0) (pv 1) rfl)
      (pss_one (ps_fld (pv 0) (pe_callTy (call_tuple_ofK K) rfl T.z_tuple PyProof.Rows.boot_tuple (pa_cons (pe_lc rfl (lcOk_of (S := defScope s_Council_init) (N := ["self", "members", "groups"]) (M := ["self", "members", "groups", "group"]) (by decide +kernel)) (pi_listK K (pe_call (ok_groups_of T) (hr.mono (by decide)) rfl T.m_groups_of T.F_groups_of.kp (b_groups_of T) .nil pass0 (pa_cons (pv 1) pa_nil))) (fun _ _ _ _ => (pg_name (i := 3) (show List.Nodup (["self", "members", "groups", "group"] : List Str) by decide +kernel) rfl (by first | exact Or.inl rfl | exact Or.inr rfl))) (fun _ _ _ _ => pifs_nil) (fun _ _ _ _ => (pe_call (ok_has_one_within T) (hr.mono (by decide)) rfl T.m_has_one_within T.F_has_one_within.kp (b_has_one_within T) .nil pass0 (pa_cons (pv 2) (pa_cons (pv 3) pa_nil))))) pa_nil)) rfl)))), ?_⟩
  have npl : l ≠ p := ne_of hl hp (by intro z; cases z)
  refine ⟨_, rfl, _, rfl, n, l, gs, rfl, n1, n5, hl, hg, fun H1 h1 => ?_⟩
  refine ⟨_, rfl, _, rfl, p, a.C_Council, dx, [], rfl, h1 _ _ hp, T.cl_Council, T.n_Council_members, (by show 0 < 1000; decide), ?_⟩
  -- the table
  have hl2 : upd H1 p (.ins a.C_Council dx (putF "members" (.int n) [])) l = some (.lst (gs.map V.int)) := by rw [upd_ne npl]; exact h1 _ _ hl
  refine ⟨_, rfl, n, rfl, n5, fun r H2 nr h2 hr2 => ?_⟩
  refine ⟨r, rfl, ⟨_, SqL.of hr2⟩, ?_⟩
  have h5 := two_le n5
  refine lcB_list rfl (SqL.of hr2) (by rw [List.length_map, up_length]; omega) (fun _ => true) (fun x => match x with | .int o => .bl (carrB gs o) | _ => .non) (fun x hx H3 h3 R q => q H3 (Same.refl _)) (fun x hx _ H3 h3 R q => ?_) fun H3 D h3 hD => ?_
  · obtain ⟨o, _, rfl⟩ := List.mem_map.mp hx
    exact ⟨_, rfl, _, rfl, l, gs, o, rfl, h3 _ _ (h2 _ _ hl2), hg.1, fun H4 h4 => q H4 h4⟩
  · have hs3 : Same (upd H1 p (.ins a.C_Council dx (putF "members" (.int n) []))) (upd H3 D (.lst ((((up (2 ^ n)).map V.int).filter fun _ => true).map fun x => match x with | .int o => V.bl (carrB gs o) | _ => .non))) := h2.trans (h3.trans (same_new hD _))
    refine ⟨D, _, rfl, .inl ⟨SqL.of upd_same, fun t ht => ?_⟩⟩
    have et : ((((up (2 ^ n)).map V.int).filter fun _ => true).map fun x => match x with | .int o => V.bl (carrB gs o) | _ => .non) = (tabOf n gs).map V.bl := by
      unfold tabOf
      rw [List.filter_eq_self.mpr (fun _ _ => rfl), List.map_map, List.map_map]
      rfl
    rw [et] at hs3 ht ⊢
    have hp3 := hs3 p _ upd_same
    have npt : p ≠ t := ne_of_none hp3 ht
    refine ⟨_, rfl, p, a.C_Council, dx, _, rfl, (by rw [upd_ne npt]; exact hp3), T.cl_Council, T.n_Council_table, (by show 1 < 1000; decide), ?_⟩
    refine k _ ⟨⟨dx, t, upd_same, by rw [upd_ne npt.symm, upd_same]⟩, n1, n5, tabOf_length _ _⟩ fun b o hb nb => ?_
    rw [upd_ne nb]
    have hb3 := hs3 b o (by rw [upd_ne nb]; exact h1 _ _ hb)
    rw [upd_ne (ne_of_none hb3 ht)]
    exact hb3
theorem tup_at {tb : List Bool} {g : Int} (h0 : 0 ≤ g) (h1 : g < (tb.length : Int)) : atI (tb.map V.bl) g = some (.bl (at_ tb g)) := by
  have hg : g.toNat < tb.length := by omega
  have e : g = ((g.toNat : Nat) : Int) := by omega
  have q : atI (tb.map V.bl) ((g.toNat : Nat) : Int) = some (.bl (at_ tb g)) := atI_nat (by
    unfold at_
    rw [List.getElem?_map, List.getD_eq_getElem?_getD, List.getElem?_eq_getElem hg]
    rfl)
  rw [← e] at q
  exact q
theorem ok_Council_carries {P : Program} {w : World} {K : PySem.W.Frag} {mg : Str → Option Value} {base : Heap} {a : Adr} (T : Txt K mg a) : FnOk P w K mg base CX0 3 a.a_Council_carries a.d_Council_carries ["self", "group"] (sp_carries a.C_Council) := by
  refine T.F_Council_carries.ok sc_Council_carries (fun vs H Q E h => ?_) (fun cdv A outer s H vs Q E hr h => ?_)
  · obtain ⟨p, n, tb, g, rfl, _⟩ := h; rfl
  obtain ⟨p, n, tb, g, rfl, c, g0, g1, k⟩ := h
  refine ⟨_, (pss_cons (ps_if (pt_not (pt_val (pe_call (ok_is_group T) hr rfl T.m_is_group T.F_is_group.kp (b_is_group T) .nil pass0 (pa_cons (pv 1) (pa_cons (pe_fldK K (pv 0) rfl) pa_nil))))) (pss_one ps_never) pss_nil)
      (pss_one (ps_ret (pe_ix (ix_tupK K) (pe_fldK K (pv 0) rfl) (pv 1) (fun _ _ => rfl))))), ?_⟩
  obtain ⟨⟨dx, t, h1, h2⟩, n1, n5, hl⟩ := id c
  refine ⟨_, rfl, _, rfl, p, a.C_Council, dx, _, _, rfl, h1, T.cl_Council, T.n_Council_members, flds_m _ _, _, n, rfl, n5, fun H1 s1 => ⟨_, rfl, ?_⟩⟩
  refine ite_f (by rw [decide_eq_true (by omega)]; rfl) ?_
  refine ⟨_, rfl, p, a.C_Council, dx, _, _, rfl, s1 _ _ h1, T.cl_Council, T.n_Council_table, flds_t _ _, _, rfl, t, _, g, _, rfl, rfl, SqT.of (s1 _ _ h2), tup_at g0 (by rw [hl]; exact g1), ?_⟩
  exact k H1 s1
theorem ins_big : ∀ n : Fin 6, ∀ g : Fin 32, g.val < 2 ^ n.val → ins 5 (g.val : Int) = ins n.val (g.val : Int) := by decide +kernel
theorem ins_five {n : Nat} (hn : n ≤ 5) {g : Int} (hg : g ∈ up (2 ^ n)) : ins 5 g = ins n g := by
  have h5 := two_le hn
  obtain ⟨g0, g1⟩ := mem_up.mp hg
  have e1 : ((g.toNat : Nat) : Int) = g := by omega
  have q := ins_big ⟨n, by omega⟩ ⟨g.toNat, by omega⟩ (by show g.toNat < 2 ^ n; omega)
  simpa only [e1] using q
theorem filt_len {p : Int → Bool} {n : Nat} {m : Nat} (h : n ≤ m) : ((up n).filter p).length ≤ m := by
  have z := List.length_filter_le p (up n)
  rw [up_length] at z
  omega
theorem ok_Council_is_least {P : Program} {w : World} {K : PySem.W.Frag} {mg : Str → Option Value} {base : Heap} {a : Adr} (T : Txt K mg a) : FnOk P w K mg base CX0 4 a.a_Council_is_least a.d_Council_is_least ["self", "group"] (sp_is_least a.C_Council) := by
  refine T.F_Council_is_least.ok sc_Council_is_least (fun vs H Q E h => ?_) (fun cdv A outer s H vs Q E hr h => ?_)
  · obtain ⟨p, n, tb, g, rfl, _⟩ := h; rfl
  obtain ⟨p, n, tb, g, rfl, c, g0, g1, k⟩ := h
  refine ⟨_, (pss_cons (ps_lc (i := 2) sc_Council_is_least.nd rfl rfl rfl (lcOk_of (S := defScope s_Council_is_least) (N := ["self", "group", "smaller"]) (M := ["self", "group", "smaller", "member"]) (by decide +kernel)) (pi_listK K (pe_call (ok_members_of T) (hr.mono (by decide)) rfl T.m_members_of T.F_members_of.kp (b_members_of T) .nil pass0 (pa_cons (pv 1) pa_nil))) (fun _ _ _ _ => (pg_name (i := 3) (show List.Nodup (["self", "group", "smaller", "member"] : List Str) by decide +kernel) rfl (by first | exact Or.inl rfl | exact Or.inr rfl))) (fun _ _ _ _ => pifs_nil) (fun _ _ _ _ => (pe_op op_sub (pv 1) (pe_op op_shl pe_int (pv 3)))))
      (pss_one (ps_ret (pe_and (pe_meth (pv 0) T.cl_Council T.mt_Council_carries (ok_Council_carries T) hr (b_Council_carries T) .nil pass0 (pa_cons (pv 1) pa_nil)) (pe_one (pe_not (pe_callB (call_anyK K rfl) rfl T.z_any PyProof.Rows.boot_any (pa_cons (pe_lc rfl (lcOk_of (S := defScope s_Council_is_least) (N := ["self", "group", "smaller"]) (M := ["self", "group", "smaller", "one"]) (by decide +kernel)) (pi_listK K (pv 2)) (fun _ _ _ _ => (pg_name (i := 3) (show List.Nodup (["self", "group", "smaller", "one"] : List Str) by decide +kernel) rfl (by first | exact Or.inl rfl | exact Or.inr rfl))) (fun _ _ _ _ => pifs_nil) (fun _ _ _ _ => (pe_meth (pv 0) T.cl_Council T.mt_Council_carries (ok_Council_carries T) hr (b_Council_carries T) .nil pass0 (pa_cons (pv 3) pa_nil)))) pa_nil)))))))), ?_⟩
  obtain ⟨⟨dx, t, h1, h2⟩, n1, n5, hl⟩ := id c
  have hgm : g ∈ up (2 ^ n) := mem_up.mpr ⟨g0, g1⟩
  refine ⟨_, rfl, g, rfl, fun r H0 nr s0 hr0 => ?_⟩
  rw [ins_five n5 hgm] at hr0
  refine ⟨r, rfl, ⟨_, SqL.of hr0⟩, ?_⟩
  refine lcB_list rfl (SqL.of hr0) (by rw [List.length_map]; exact filt_len (by omega)) (fun _ => true) (fun x => match x with | .int m => .int (g - 1 * 2 ^ m.toNat) | _ => .non) (fun x hx H1 s1 R q => q H1 (Same.refl _)) (fun x hx _ H1 s1 R q => ?_) fun H1 D s1 hD => ?_
  · obtain ⟨m, hm, rfl⟩ := List.mem_map.mp hx
    have hm0 : 0 ≤ m := (mem_up.mp (List.mem_filter.mp hm).1).1
    have hm1 := (mem_up.mp (List.mem_filter.mp hm).1).2
    exact ⟨_, rfl, _, rfl, _, _, rfl, rfl, ⟨hm0, by omega, by decide⟩, _, _, rfl, rfl, q H1 (Same.refl _)⟩
  have s2 : Same H (upd H1 D (.lst ((((ins n g).map V.int).filter fun _ => true).map fun x => match x with | .int m => V.int (g - 1 * 2 ^ m.toNat) | _ => .non))) := s0.trans (s1.trans (same_new hD _))
  have hD2 : upd H1 D (.lst ((((ins n g).map V.int).filter fun _ => true).map fun x => match x with | .int m => V.int (g - 1 * 2 ^ m.toNat) | _ => .non)) D = some (.lst (((ins n g).map fun m => g - 1 * 2 ^ m.toNat).map V.int)) := by
    rw [upd_same, List.filter_eq_self.mpr (fun _ _ => rfl), List.map_map, List.map_map]
    rfl
  generalize upd H1 D (.lst ((((ins n g).map V.int).filter fun _ => true).map fun x => match x with | .int m => V.int (g - 1 * 2 ^ m.toNat) | _ => .non)) = H2 at s2 hD2
  have c2 := c.same s2
  obtain ⟨⟨dx2, t2, h12, h22⟩, _⟩ := id c2
  refine ⟨_, rfl, p, dx2, _, rfl, h12, flds_no _ _ (by decide +kernel) (by decide +kernel), _, rfl, p, n, tb, g, rfl, c2, g0, g1, fun H3 s3 => ⟨_, rfl, ?_⟩⟩
  refine ite_b (fun hc => ?_) (fun hc => ?_)
  · refine ⟨_, rfl, D, rfl, ⟨_, SqL.of (s3 _ _ hD2)⟩, ?_⟩
    refine lcB_list rfl (SqL.of (s3 _ _ hD2)) ?_ (fun _ => true) (fun x => match x with | .int o => .bl (at_ tb o) | _ => .non) (fun x hx H4 h4 R q => q H4 (Same.refl _)) (fun x hx _ H4 s4 R q => ?_) fun H4 D4 s4 hD4 => ?_
    · rw [List.length_map, List.length_map]
      exact filt_len (by omega)
    · obtain ⟨o, ho, rfl⟩ := List.mem_map.mp hx
      obtain ⟨m, hm, rfl⟩ := List.mem_map.mp ho
      have ok := sub_ok n5 hgm hm
      have c3 := c2.same (s3.trans s4)
      obtain ⟨⟨dx3, t3, h13, h23⟩, _⟩ := id c3
      exact ⟨_, rfl, p, dx3, _, rfl, h13, flds_no _ _ (by decide +kernel) (by decide +kernel), _, rfl, p, n, tb, _, rfl, c3, ok.2.1, ok.2.2, fun H5 s5 => q H5 s5⟩
    · refine ⟨D4, (ins n g).map fun m => at_ tb (g - 1 * 2 ^ m.toNat), rfl, SqL.of ?_, _, rfl, ?_⟩
      · rw [upd_same, List.filter_eq_self.mpr (fun _ _ => rfl), List.map_map, List.map_map, List.map_map]
        rfl
      · exact qbl (by rw [hc, Bool.true_and]) (k _ (s2.trans (s3.trans (s4.trans (same_new hD4 _)))))
  · exact qbl (by rw [hc, Bool.false_and]) (k _ (s2.trans s3))
theorem ok_Council_is_greatest {P : Program} {w : World} {K : PySem.W.Frag} {mg : Str → Option Value} {base : Heap} {a : Adr} (T : Txt K mg a) : FnOk P w K mg base CX0 4 a.a_Council_is_greatest a.d_Council_is_greatest ["self", "group"] (sp_is_greatest a.C_Council) := by
  refine T.F_Council_is_greatest.ok sc_Council_is_greatest (fun vs H Q E h => ?_) (fun cdv A outer s H vs Q E hr h => ?_)
  · obtain ⟨p, n, tb, g, rfl, _⟩ := h; rfl
  obtain ⟨p, n, tb, g, rfl, c, g0, g1, k⟩ := h
  refine ⟨_, (pss_cons (ps_lc (i := 2) sc_Council_is_greatest.nd rfl rfl rfl (lcOk_of (S := defScope s_Council_is_greatest) (N := ["self", "group", "larger"]) (M := ["self", "group", "larger", "member"]) (by decide +kernel)) (pi_range1 rfl T.z_range (pa_cons (pe_fldK K (pv 0) rfl) pa_nil)) (fun _ _ _ _ => (pg_name (i := 3) (show List.Nodup (["self", "group", "larger", "member"] : List Str) by decide +kernel) rfl (by first | exact Or.inl rfl | exact Or.inr rfl))) (fun _ _ _ _ => (pifs_one (pt_not (pt_val (pe_call (ok_has T) (hr.mono (by decide)) rfl T.m_has T.F_has.kp (b_has T) .nil pass0 (pa_cons (pv 1) (pa_cons (pv 3) pa_nil))))))) (fun _ _ _ _ => (pe_call (ok_with_member T) (hr.mono (by decide)) rfl T.m_with_member T.F_with_member.kp (b_with_member T) .nil pass0 (pa_cons (pv 1) (pa_cons (pv 3) pa_nil)))))
      (pss_one (ps_ret (pe_and (pe_not (pe_meth (pv 0) T.cl_Council T.mt_Council_carries (ok_Council_carries T) hr (b_Council_carries T) .nil pass0 (pa_cons (pv 1) pa_nil))) (pe_one (pe_callB (call_allK K rfl) rfl T.z_all PyProof.Rows.boot_all (pa_cons (pe_lc rfl (lcOk_of (S := defScope s_Council_is_greatest) (N := ["self", "group", "larger"]) (M := ["self", "group", "larger", "one"]) (by decide +kernel)) (pi_listK K (pv 2)) (fun _ _ _ _ => (pg_name (i := 3) (show List.Nodup (["self", "group", "larger", "one"] : List Str) by decide +kernel) rfl (by first | exact Or.inl rfl | exact Or.inr rfl))) (fun _ _ _ _ => pifs_nil) (fun _ _ _ _ => (pe_meth (pv 0) T.cl_Council T.mt_Council_carries (ok_Council_carries T) hr (b_Council_carries T) .nil pass0 (pa_cons (pv 3) pa_nil)))) pa_nil))))))), ?_⟩
  obtain ⟨⟨dx, t, h1, h2⟩, n1, n5, hl⟩ := id c
  refine ⟨_, rfl, p, a.C_Council, dx, _, _, rfl, h1, T.cl_Council, T.n_Council_members, flds_m _ _, n, rfl, by omega, by omega, ?_⟩
  have hgm : g ∈ up (2 ^ n) := mem_up.mpr ⟨g0, g1⟩
  refine lcB_range (k := n) rfl (by omega) (fun m => !hasB g m) (fun m => .int (Builtin.bitOr g (1 * 2 ^ m.toNat))) (fun x x0 x1 H1 s1 R q => ?_) (fun x x0 x1 hb H1 s1 R q => ?_) fun H1 D s1 hD => ?_
  · exact ⟨_, rfl, _, rfl, _, _, rfl, x0, fun H2 s2 => ⟨_, rfl, q H2 s2⟩⟩
  · exact ⟨_, rfl, _, rfl, _, _, rfl, ⟨x0, by omega⟩, fun H2 s2 => q H2 s2⟩
  have s2 : Same H (upd H1 D (.lst (((up n).filter fun m => !hasB g m).map fun m => .int (Builtin.bitOr g (1 * 2 ^ m.toNat))))) := s1.trans (same_new hD _)
  have hD2 : upd H1 D (.lst (((up n).filter fun m => !hasB g m).map fun m => .int (Builtin.bitOr g (1 * 2 ^ m.toNat)))) D = some (.lst (((outs n g).map fun m => g + 1 * 2 ^ m.toNat).map V.int)) := by
    rw [upd_same, List.map_map]
    have e : ((up n).filter fun m => !hasB g m).map (fun m => V.int (Builtin.bitOr g (1 * 2 ^ m.toNat))) = (outs n g).map (V.int ∘ fun m => g + 1 * 2 ^ m.toNat) := List.map_congr_left fun m hm => by
      show V.int (Builtin.bitOr g (1 * 2 ^ m.toNat)) = V.int (g + 1 * 2 ^ m.toNat)
      rw [(add_ok n5 hgm hm).1]
    rw [e]
  generalize upd H1 D (.lst (((up n).filter fun m => !hasB g m).map fun m => .int (Builtin.bitOr g (1 * 2 ^ m.toNat)))) = H2 at s2 hD2
  have c2 := c.same s2
  obtain ⟨⟨dx2, t2, h12, h22⟩, _⟩ := id c2
  refine ⟨_, rfl, p, dx2, _, rfl, h12, flds_no _ _ (by decide +kernel) (by decide +kernel), _, rfl, p, n, tb, g, rfl, c2, g0, g1, fun H3 s3 => ⟨_, rfl, _, rfl, ?_⟩⟩
  refine ite_b (fun hc => ?_) (fun hc => ?_)
  · refine ⟨_, rfl, D, rfl, ⟨_, SqL.of (s3 _ _ hD2)⟩, ?_⟩
    refine lcB_list rfl (SqL.of (s3 _ _ hD2)) ?_ (fun _ => true) (fun x => match x with | .int o => .bl (at_ tb o) | _ => .non) (fun x hx H4 h4 R q => q H4 (Same.refl _)) (fun x hx _ H4 s4 R q => ?_) fun H4 D4 s4 hD4 => ?_
    · rw [List.length_map, List.length_map]
      exact filt_len (by omega)
    · obtain ⟨o, ho, rfl⟩ := List.mem_map.mp hx
      obtain ⟨m, hm, rfl⟩ := List.mem_map.mp ho
      have ok := add_ok n5 hgm hm
      have c3 := c2.same (s3.trans s4)
      obtain ⟨⟨dx3, t3, h13, h23⟩, _⟩ := id c3
      exact ⟨_, rfl, p, dx3, _, rfl, h13, flds_no _ _ (by decide +kernel) (by decide +kernel), _, rfl, p, n, tb, _, rfl, c3, ok.2.1, ok.2.2, fun H5 s5 => q H5 s5⟩
    · refine ⟨D4, (outs n g).map fun m => at_ tb (g + 1 * 2 ^ m.toNat), rfl, SqL.of ?_, ?_⟩
      · rw [upd_same, List.filter_eq_self.mpr (fun _ _ => rfl), List.map_map, List.map_map, List.map_map]
        rfl
      · exact qbl (by rw [hc, Bool.true_and]) (k _ (s2.trans (s3.trans (s4.trans (same_new hD4 _)))))
  · exact qbl (by rw [hc, Bool.false_and]) (k _ (s2.trans s3))
theorem ok_Council_least {P : Program} {w : World} {K : PySem.W.Frag} {mg : Str → Option Value} {base : Heap} {a : Adr} (T : Txt K mg a) : FnOk P w K mg base CX0 5 a.a_Council_least a.d_Council_least ["self"] (sp_least a.C_Council) := by
  refine T.F_Council_least.ok sc_Council_least (fun vs H Q E h => ?_) (fun cdv A outer s H vs Q E hr h => ?_)
  · obtain ⟨p, n, tb, rfl, _⟩ := h; rfl
  obtain ⟨p, n, tb, rfl, c, k⟩ := h
  refine ⟨_, (pss_one (ps_ret (pe_lc rfl (lcOk_of (S := defScope s_Council_least) (N := ["self"]) (M := ["self", "group"]) (by decide +kernel)) (pi_listK K (pe_call (ok_groups_of T) (hr.mono (by decide)) rfl T.m_groups_of T.F_groups_of.kp (b_groups_of T) .nil pass0 (pa_cons (pe_fldK K (pv 0) rfl) pa_nil))) (fun _ _ _ _ => (pg_name (i := 1) (show List.Nodup (["self", "group"] : List Str) by decide +kernel) rfl (by first | exact Or.inl rfl | exact Or.inr rfl))) (fun _ _ _ _ => (pifs_one (pt_val (pe_meth (pv 0) T.cl_Council T.mt_Council_is_least (ok_Council_is_least T) hr (b_Council_is_least T) .nil pass0 (pa_cons (pv 1) pa_nil))))) (fun _ _ _ _ => (pv 1))))), ?_⟩
  obtain ⟨⟨dx, t, h1, h2⟩, n1, n5, hl⟩ := id c
  have h5 := two_le n5
  refine ⟨_, rfl, p, a.C_Council, dx, _, _, rfl, h1, T.cl_Council, T.n_Council_members, flds_m _ _, n, rfl, n5, fun r H1 nr s1 hr1 => ?_⟩
  refine ⟨r, rfl, ⟨_, SqL.of hr1⟩, ?_⟩
  refine lcB_list rfl (SqL.of hr1) (by rw [List.length_map, up_length]; omega) (fun x => match x with | .int g => at_ tb g && !((ins n g).map fun m => at_ tb (g - 1 * 2 ^ m.toNat)).any id | _ => false) (fun x => x) (fun x hx H2 s2 R q => ?_) (fun x hx _ H2 s2 R q => ⟨_, rfl, q H2 (Same.refl _)⟩) fun H2 D s2 hD => ?_
  · obtain ⟨g, hg, rfl⟩ := List.mem_map.mp hx
    obtain ⟨g0, g1⟩ := mem_up.mp hg
    have c2 := c.same (s1.trans s2)
    obtain ⟨⟨dx2, t2, h12, h22⟩, _⟩ := id c2
    exact ⟨_, rfl, p, dx2, _, rfl, h12, flds_no _ _ (by decide +kernel) (by decide +kernel), _, rfl, p, n, tb, g, rfl, c2, g0, g1, fun H3 s3 => ⟨_, rfl, q H3 s3⟩⟩
  · refine k D _ ((s1.trans s2).free hD) (s1.trans (s2.trans (same_new hD _))) ?_
    rw [upd_same, List.map_id']
    unfold leastBy
    rw [List.filter_map]
    rfl
theorem ok_Council_greatest {P : Program} {w : World} {K : PySem.W.Frag} {mg : Str → Option Value} {base : Heap} {a : Adr} (T : Txt K mg a) : FnOk P w K mg base CX0 5 a.a_Council_greatest a.d_Council_greatest ["self"] (sp_greatest a.C_Council) := by
  refine T.F_Council_greatest.ok sc_Council_greatest (fun vs H Q E h => ?_) (fun cdv A outer s H vs Q E hr h => ?_)
  · obtain ⟨p, n, tb, rfl, _⟩ := h; rfl
  obtain ⟨p, n, tb, rfl, c, k⟩ := h
  refine ⟨_, (pss_one (ps_ret (pe_lc rfl (lcOk_of (S := defScope s_Council_greatest) (N := ["self"]) (M := ["self", "group"]) (by decide +kernel)) (pi_listK K (pe_call (ok_groups_of T) (hr.mono (by decide)) rfl T.m_groups_of T.F_groups_of.kp (b_groups_of T) .nil pass0 (pa_cons (pe_fldK K (pv 0) rfl) pa_nil))) (fun _ _ _ _ => (pg_name (i := 1) (show List.Nodup (["self", "group"] : List Str) by decide +kernel) rfl (by first | exact Or.inl rfl | exact Or.inr rfl))) (fun _ _ _ _ => (pifs_one (pt_val (pe_meth (pv 0) T.cl_Council T.mt_Council_is_greatest (ok_Council_is_greatest T) hr (b_Council_is_greatest T) .nil pass0 (pa_cons (pv 1) pa_nil))))) (fun _ _ _ _ => (pv 1))))), ?_⟩
  obtain ⟨⟨dx, t, h1, h2⟩, n1, n5, hl⟩ := id c
  have h5 := two_le n5
  refine ⟨_, rfl, p, a.C_Council, dx, _, _, rfl, h1, T.cl_Council, T.n_Council_members, flds_m _ _, n, rfl, n5, fun r H1 nr s1 hr1 => ?_⟩
  refine ⟨r, rfl, ⟨_, SqL.of hr1⟩, ?_⟩
  refine lcB_list rfl (SqL.of hr1) (by rw [List.length_map, up_length]; omega) (fun x => match x with | .int g => !at_ tb g && ((outs n g).map fun m => at_ tb (g + 1 * 2 ^ m.toNat)).all id | _ => false) (fun x => x) (fun x hx H2 s2 R q => ?_) (fun x hx _ H2 s2 R q => ⟨_, rfl, q H2 (Same.refl _)⟩) fun H2 D s2 hD => ?_
  · obtain ⟨g, hg, rfl⟩ := List.mem_map.mp hx
    obtain ⟨g0, g1⟩ := mem_up.mp hg
    have c2 := c.same (s1.trans s2)
    obtain ⟨⟨dx2, t2, h12, h22⟩, _⟩ := id c2
    exact ⟨_, rfl, p, dx2, _, rfl, h12, flds_no _ _ (by decide +kernel) (by decide +kernel), _, rfl, p, n, tb, g, rfl, c2, g0, g1, fun H3 s3 => ⟨_, rfl, q H3 s3⟩⟩
  · refine k D _ ((s1.trans s2).free hD) (s1.trans (s2.trans (same_new hD _))) ?_
    rw [upd_same, List.map_id']
    unfold greatBy
    rw [List.filter_map]
    rfl
end Wv
namespace Wv
open PySem L2
/-! ## turned, both, either -/
def tabTurned (n : Nat) (tb : List Bool) : List Bool := (up (2 ^ n)).map fun g => !at_ tb (((2 ^ n : Nat) : Int) - 1 - g)
theorem within_trans : ∀ a : Fin 32, ∀ b : Fin 32, withinB a.val b.val = true → ∀ c : Fin 32, withinB b.val c.val = true → withinB a.val c.val = true := by decide +kernel
theorem within_tr {n : Nat} (hn : n ≤ 5) {a b c : Int} (ha : a ∈ up (2 ^ n)) (hb : b ∈ up (2 ^ n)) (hc : c ∈ up (2 ^ n)) (h1 : withinB a b = true) (h2 : withinB b c = true) : withinB a c = true := by
  have h5 := two_le hn
  obtain ⟨a0, a1⟩ := mem_up.mp ha
  obtain ⟨b0, b1⟩ := mem_up.mp hb
  obtain ⟨c0, c1⟩ := mem_up.mp hc
  have e1 : ((a.toNat : Nat) : Int) = a := by omega
  have e2 : ((b.toNat : Nat) : Int) = b := by omega
  have e3 : ((c.toNat : Nat) : Int) = c := by omega
  have q := within_trans ⟨a.toNat, by omega⟩ ⟨b.toNat, by omega⟩ (by simp only [e1, e2]; exact h1) ⟨c.toNat, by omega⟩ (by simp only [e2, e3]; exact h2)
  simpa only [e1, e3] using q
theorem within_co : ∀ n : Fin 6, ∀ a : Fin 32, ∀ b : Fin 32, a.val < 2 ^ n.val → b.val < 2 ^ n.val → withinB a.val b.val = true → withinB (((2 ^ n.val : Nat) : Int) - 1 - b.val) (((2 ^ n.val : Nat) : Int) - 1 - a.val) = true := by decide +kernel
theorem within_comp {n : Nat} (hn : n ≤ 5) {a b : Int} (ha : a ∈ up (2 ^ n)) (hb : b ∈ up (2 ^ n)) (h : withinB a b = true) : withinB (((2 ^ n : Nat) : Int) - 1 - b) (((2 ^ n : Nat) : Int) - 1 - a) = true := by
  have h5 := two_le hn
  obtain ⟨a0, a1⟩ := mem_up.mp ha
  obtain ⟨b0, b1⟩ := mem_up.mp hb
  have e1 : ((a.toNat : Nat) : Int) = a := by omega
  have e2 : ((b.toNat : Nat) : Int) = b := by omega
  have q := within_co ⟨n, by omega⟩ ⟨a.toNat, by omega⟩ ⟨b.toNat, by omega⟩ (by show a.toNat < 2 ^ n; omega) (by show b.toNat < 2 ^ n; omega) (by simp only [e1, e2]; exact h)
  simpa only [e1, e2] using q
theorem mono_tab {n : Nat} (hn : n ≤ 5) {gs : List Int} (hg : ∀ g ∈ gs, g ∈ up (2 ^ n)) : Mono n (tabOf n gs) := by
  intro o g ho hg' h1 h2
  obtain ⟨o0, o1⟩ := mem_up.mp ho
  obtain ⟨g0, g1⟩ := mem_up.mp hg'
  rw [at_tab o0 o1] at h2
  rw [at_tab g0 g1]
  unfold carrB at h2 ⊢
  rw [List.any_eq_true] at h2 ⊢
  obtain ⟨x, hx, hw⟩ := h2
  exact ⟨x, hx, within_tr hn (hg x hx) ho hg' hw h1⟩
/-- the council of just the groups that a growing test picks -/
theorem tab_pick {n : Nat} (hn : n ≤ 5) {f : Int → Bool} (hf : ∀ o g, o ∈ up (2 ^ n) → g ∈ up (2 ^ n) → withinB o g = true → f o = true → f g = true) : tabOf n ((up (2 ^ n)).filter f) = (up (2 ^ n)).map f := by
  refine List.map_congr_left fun g hg => ?_
  rw [Bool.eq_iff_iff]
  unfold carrB
  rw [List.any_eq_true]
  constructor
  · rintro ⟨o, ho, hw⟩
    rw [List.mem_filter] at ho
    exact hf o g ho.1 hg hw ho.2
  · intro h
    exact ⟨g, List.mem_filter.mpr ⟨hg, h⟩, within_self hn hg⟩
theorem at_map {n : Nat} {f : Int → Bool} {g : Int} (hg : g ∈ up (2 ^ n)) : at_ ((up (2 ^ n)).map f) g = f g := by
  obtain ⟨g0, g1⟩ := mem_up.mp hg
  unfold at_
  have hi : g.toNat < 2 ^ n := by omega
  rw [List.getD_eq_getElem?_getD, List.getElem?_map, up_get hi]
  have e : ((g.toNat : Nat) : Int) = g := by omega
  rw [e]
  rfl
theorem co_mem {n : Nat} {g : Int} (hg : g ∈ up (2 ^ n)) : ((2 ^ n : Nat) : Int) - 1 - g ∈ up (2 ^ n) := by
  obtain ⟨g0, g1⟩ := mem_up.mp hg
  exact mem_up.mpr ⟨by omega, by omega⟩
theorem tab_turned {n : Nat} (hn : n ≤ 5) {tb : List Bool} (hm : Mono n tb) : tabOf n ((up (2 ^ n)).filter fun g => !at_ tb (((2 ^ n : Nat) : Int) - 1 - g)) = tabTurned n tb := by
  refine tab_pick hn fun o g ho hg hw h => ?_
  have h' : at_ tb (((2 ^ n : Nat) : Int) - 1 - o) = false := by simpa using h
  cases e : at_ tb (((2 ^ n : Nat) : Int) - 1 - g) with
  | false => rfl
  | true =>
    have z := hm _ _ (co_mem hg) (co_mem ho) (within_comp hn ho hg hw) e
    rw [h'] at z
    cases z
theorem mono_turned {n : Nat} (hn : n ≤ 5) {tb : List Bool} (hm : Mono n tb) : Mono n (tabTurned n tb) := by
  rw [← tab_turned hn hm]
  exact mono_tab hn fun g hg => (List.mem_filter.mp hg).1
theorem turned_twice {n : Nat} {tb : List Bool} (hl : tb.length = 2 ^ n) : tabTurned n (tabTurned n tb) = tb := by
  refine List.ext_getElem (by unfold tabTurned; rw [List.length_map, up_length, hl]) fun i h1 h2 => ?_
  have hi : i < 2 ^ n := by rw [← hl]; exact h2
  have hg : (i : Int) ∈ up (2 ^ n) := mem_up.mpr ⟨by omega, by omega⟩
  have e : at_ (tabTurned n (tabTurned n tb)) (i : Int) = at_ tb (i : Int) := by
    unfold tabTurned
    rw [at_map hg, at_map (co_mem hg), Bool.not_not]
    congr 1
    omega
  unfold at_ at e
  rw [Int.toNat_natCast, List.getD_eq_getElem?_getD, List.getD_eq_getElem?_getD, List.getElem?_eq_getElem h1, List.getElem?_eq_getElem h2] at e
  exact e
def sp_turned (C : Addr) : Sp := fun vs H Q _ => ∃ (p : Addr) (n : Nat) (tb : List Bool), vs = [.ref p] ∧ CAt C H p n tb ∧ Mono n tb ∧ ∀ q H', H q = none → Same H H' → CAt C H' q n (tabTurned n tb) → Q (.ref q) H'
theorem ok_turned {P : Program} {w : World} {K : PySem.W.Frag} {mg : Str → Option Value} {base : Heap} {a : Adr} (T : Txt K mg a) : FnOk P w K mg base CX0 6 a.a_turned a.d_turned ["council"] (sp_turned a.C_Council) := by
  refine T.F_turned.ok sc_turned (fun vs H Q E h => ?_) (fun cdv A outer s H vs Q E hr h => ?_)
  · obtain ⟨p, n, tb, rfl, _⟩ := h; rfl
  obtain ⟨p, n, tb, rfl, c, hm, k⟩ := h
  refine ⟨_, (pss_cons (ps_set (i := 1) sc_turned.nd rfl (by first | exact Or.inl rfl | exact Or.inr rfl) (pe_call (ok_everybody T) (hr.mono (by decide)) rfl T.m_everybody T.F_everybody.kp (b_everybody T) .nil pass0 (pa_cons (pe_fldK K (pv 0) rfl) pa_nil)))
      (pss_cons (ps_lc (i := 2) sc_turned.nd rfl rfl rfl (lcOk_of (S := defScope s_turned) (N := ["council", "everyone", "carrying"]) (M := ["council", "everyone", "carrying", "group"]) (by decide +kernel)) (pi_listK K (pe_call (ok_groups_of T) (hr.mono (by decide)) rfl T.m_groups_of T.F_groups_of.kp (b_groups_of T) .nil pass0 (pa_cons (pe_fldK K (pv 0) rfl) pa_nil))) (fun _ _ _ _ => (pg_name (i := 3) (show List.Nodup (["council", "everyone", "carrying", "group"] : List Str) by decide +kernel) rfl (by first | exact Or.inl rfl | exact Or.inr rfl))) (fun _ _ _ _ => (pifs_one (pt_not (pt_val (pe_meth (pv 0) T.cl_Council T.mt_Council_carries (ok_Council_carries T) (hr.mono (by decide)) (b_Council_carries T) .nil pass0 (pa_cons (pe_op op_sub (pv 1) (pv 3)) pa_nil)))))) (fun _ _ _ _ => (pv 3)))
      (pss_one (ps_ret (pe_make T.mk_Council (ok_Council_init T) hr rfl T.m_Council (b_Council_init T) .nil pass0 (pa_cons (pe_fldK K (pv 0) rfl) (pa_cons (pv 2) pa_nil))))))), ?_⟩
  obtain ⟨⟨dx, t, h1, h2⟩, n1, n5, hl⟩ := id c
  have h5 := two_le n5
  refine ⟨_, rfl, p, a.C_Council, dx, _, _, rfl, h1, T.cl_Council, T.n_Council_members, flds_m _ _, n, rfl, n5, fun H1 s1 => ?_⟩
  refine ⟨_, rfl, p, a.C_Council, dx, _, _, rfl, s1 _ _ h1, T.cl_Council, T.n_Council_members, flds_m _ _, n, rfl, n5, fun r H2 nr s2 hr2 => ?_⟩
  refine ⟨r, rfl, ⟨_, SqL.of hr2⟩, ?_⟩
  refine lcB_list rfl (SqL.of hr2) (by rw [List.length_map, up_length]; omega) (fun x => match x with | .int g => !at_ tb (((2 ^ n : Nat) : Int) - 1 - g) | _ => false) (fun x => x) (fun x hx H3 s3 R q => ?_) (fun x hx _ H3 s3 R q => ⟨_, rfl, q H3 (Same.refl _)⟩) fun H3 D s3 hD => ?_
  · obtain ⟨g, hg, rfl⟩ := List.mem_map.mp hx
    obtain ⟨g0, g1⟩ := mem_up.mp (co_mem hg)
    have c3 := c.same (s1.trans (s2.trans s3))
    obtain ⟨⟨dx3, t3, h13, h23⟩, _⟩ := id c3
    exact ⟨_, rfl, p, dx3, _, rfl, h13, flds_no _ _ (by decide +kernel) (by decide +kernel), _, rfl, _, rfl, _, _, rfl, rfl, p, n, tb, _, rfl, c3, g0, g1, fun H4 s4 => ⟨_, rfl, q H4 s4⟩⟩
  · have s4 : Same H (upd H3 D (.lst ((((up (2 ^ n)).map V.int).filter fun x => match x with | .int g => !at_ tb (((2 ^ n : Nat) : Int) - 1 - g) | _ => false).map fun x => x))) := s1.trans (s2.trans (s3.trans (same_new hD _)))
    have eD : ((((up (2 ^ n)).map V.int).filter fun x => match x with | .int g => !at_ tb (((2 ^ n : Nat) : Int) - 1 - g) | _ => false).map fun x => x) = ((up (2 ^ n)).filter fun g => !at_ tb (((2 ^ n : Nat) : Int) - 1 - g)).map V.int := by
      rw [List.map_id', List.filter_map]
      rfl
    rw [eD] at s4 ⊢
    have c4 := c.same s4
    obtain ⟨⟨dx4, t4, h14, h24⟩, _⟩ := id c4
    refine ⟨_, rfl, p, a.C_Council, dx4, _, _, rfl, h14, T.cl_Council, T.n_Council_members, flds_m _ _, _, rfl, fun x dx nx ndx nex => ?_⟩
    have s5 : Same H (upd (upd (upd H3 D (.lst (((up (2 ^ n)).filter fun g => !at_ tb (((2 ^ n : Nat) : Int) - 1 - g)).map V.int))) dx (.own x)) x (.ins a.C_Council dx [])) := s4.trans ((same_new ndx _).trans (same_new (by rw [upd_ne (Ne.symm nex)]; exact nx) _))
    have hDx : D ≠ x := ne_of_none (upd_same (H := H3) (a := D)) nx
    have hDd : D ≠ dx := ne_of_none (upd_same (H := H3) (a := D)) ndx
    refine ⟨x, dx, n, D, _, rfl, upd_same, n1, n5, by rw [upd_ne hDx, upd_ne hDd, upd_same], ⟨?_, fun g hg => ?_⟩, fun H5 c5 kp => ⟨rfl, ?_⟩⟩
    · have z := List.length_filter_le (fun g => !at_ tb (((2 ^ n : Nat) : Int) - 1 - g)) (up (2 ^ n))
      rw [up_length] at z
      omega
    · exact mem_up.mp (List.mem_filter.mp hg).1
    · have nxH : H x = none := s4.free nx
      rw [tab_turned n5 hm] at c5
      exact k x H5 nxH (fun b o hb => kp b o (s5 b o hb) (ne_of_none hb nxH)) c5
end Wv
namespace Wv
open PySem L2
/-! ## weighted -/
def WtsOk (ws : List Int) : Prop := 1 ≤ ws.length ∧ ws.length ≤ 5 ∧ ∀ w ∈ ws, 0 ≤ w ∧ w ≤ 1000000
def sp_refuse_bad_weights : Sp := fun vs H Q _ => ∃ (l : Addr) (ws : List Int) (q : Int), vs = [.ref l, .int q] ∧ H l = some (.lst (ws.map V.int)) ∧ WtsOk ws ∧ 0 ≤ q ∧ q ≤ 5000001 ∧ ∀ H', Same H H' → Q .non H'
def sp_weighted (C : Addr) : Sp := fun vs H Q _ => ∃ (l : Addr) (ws : List Int) (q : Int), vs = [.ref l, .int q] ∧ H l = some (.lst (ws.map V.int)) ∧ WtsOk ws ∧ 0 ≤ q ∧ q ≤ 5000001 ∧
  ∀ p H', H p = none → Same H H' → CAt C H' p ws.length ((up (2 ^ ws.length)).map fun g => decide (q ≤ wtOf ws g)) → Q (.ref p) H'
theorem ok_refuse_bad_weights {P : Program} {w : World} {K : PySem.W.Frag} {mg : Str → Option Value} {base : Heap} {a : Adr} (T : Txt K mg a) : FnOk P w K mg base CX0 2 a.a_refuse_bad_weights a.d_refuse_bad_weights ["weights", "quota"] sp_refuse_bad_weights := by
  refine T.F_refuse_bad_weights.ok sc_refuse_bad_weights (fun vs H Q E h => ?_) (fun cdv A outer s H vs Q E hr h => ?_)
  · obtain ⟨l, ws, q, rfl, _⟩ := h; rfl
  obtain ⟨l, ws, q, rfl, hl, ⟨w1, w5, hw⟩, q0, q1, k⟩ := h
  refine ⟨_, (pss_cons (ps_if (PW.pt (pw_or (pt_not (pt_val (pe_callB (call_isiK K) rfl T.z_isinstance PyProof.Rows.boot_isinstance (pa_cons (pv 0) (pa_cons (pe_bltn (v := .ty "list") rfl T.z_list PyProof.Rows.boot_list rfl) pa_nil))))) (pw_or1 (pt_not (pt_chain op_le op_le pe_int (pe_callB (call_lenK K) rfl T.z_len PySem.boot_len (pa_cons (pv 0) pa_nil)) (pe_glob (v := .int 5) rfl T.g_MOST_MEMBERS ⟨_, rfl⟩)))))) (pss_one ps_never) pss_nil)
      (pss_cons (ps_if (pt_not (pt_val (pe_callB (call_allK K rfl) rfl T.z_all PyProof.Rows.boot_all (pa_cons (pe_lc rfl (lcOk_of (S := defScope s_refuse_bad_weights) (N := ["weights", "quota"]) (M := ["weights", "quota", "weight"]) (by decide +kernel)) (pi_listK K (pv 0)) (fun _ _ _ _ => (pg_name (i := 2) (show List.Nodup (["weights", "quota", "weight"] : List Str) by decide +kernel) rfl (by first | exact Or.inl rfl | exact Or.inr rfl))) (fun _ _ _ _ => pifs_nil) (fun _ _ _ _ => (pe_call (ok_is_whole T) hr rfl T.m_is_whole T.F_is_whole.kp (b_is_whole T) .nil pass0 (pa_cons (pv 2) (pa_cons (pe_glob (v := .int 1000000) rfl T.g_MOST_WEIGHT ⟨_, rfl⟩) pa_nil))))) pa_nil)))) (pss_one ps_never) pss_nil)
      (pss_one (ps_if (pt_not (pt_val (pe_call (ok_is_whole T) hr rfl T.m_is_whole T.F_is_whole.kp (b_is_whole T) .nil pass0 (pa_cons (pv 1) (pa_cons (pe_glob (v := .int 5000001) rfl T.g_MOST_QUOTA ⟨_, rfl⟩) pa_nil))))) (pss_one ps_never) pss_nil)))), ?_⟩
  refine ⟨_, rfl, _, "list", "list", true, rfl, .lst hl, .inr (.inr rfl), isi_ll, true, rfl, iteF ?_⟩
  refine ⟨_, rfl, l, _, rfl, .inl (SqL.of hl), _, _, rfl, rfl, _, rfl, ?_⟩
  refine ite_t (decide_eq_true (by rw [List.length_map]; omega)) ?_
  refine ⟨_, _, rfl, rfl, _, rfl, ?_⟩
  refine ite_f (by rw [decide_eq_true (by rw [List.length_map]; omega)]; rfl) ?_
  refine ⟨_, rfl, l, rfl, ⟨_, SqL.of hl⟩, ?_⟩
  refine lcB_list rfl (SqL.of hl) (by rw [List.length_map]; omega) (fun _ => true) (fun x => match x with | .int o => .bl (decide (0 ≤ o ∧ o ≤ 1000000)) | _ => .non) (fun x hx H2 h2 R q => q H2 (Same.refl _)) (fun x hx _ H2 h2 R q => ?_) fun H2 D h2 hD => ?_
  · obtain ⟨o, _, rfl⟩ := List.mem_map.mp hx
    exact ⟨_, rfl, _, _, rfl, trivial, fun H3 h3 => q H3 h3⟩
  · refine ⟨D, ws.map fun o => decide (0 ≤ o ∧ o ≤ 1000000), rfl, SqL.of ?_, _, rfl, ?_⟩
    · rw [upd_same, List.filter_eq_self.mpr (fun _ _ => rfl), List.map_map, List.map_map]
      rfl
    · refine ite_f (by rw [all_true fun o ho => decide_eq_true (hw o ho)]; rfl) ?_
      refine ⟨_, rfl, _, _, rfl, trivial, fun H3 h3 => ⟨_, rfl, ?_⟩⟩
      refine ite_f (by rw [decide_eq_true ⟨q0, q1⟩]; rfl) ?_
      exact k _ (h2.trans ((same_new hD _).trans h3))
theorem ok_weighted {P : Program} {w : World} {K : PySem.W.Frag} {mg : Str → Option Value} {base : Heap} {a : Adr} (T : Txt K mg a) : FnOk P w K mg base CX0 6 a.a_weighted a.d_weighted ["weights", "quota"] (sp_weighted a.C_Council) := by
  refine T.F_weighted.ok sc_weighted (fun vs H Q E h => ?_) (fun cdv A outer s H vs Q E hr h => ?_)
  · obtain ⟨l, ws, q, rfl, _⟩ := h; rfl
  obtain ⟨l, ws, q, rfl, hl, ok, q0, q1, k⟩ := h
  refine ⟨_, (pss_cons (ps_expr (pe_call (ok_refuse_bad_weights T) (hr.mono (by decide)) rfl T.m_refuse_bad_weights T.F_refuse_bad_weights.kp (b_refuse_bad_weights T) .nil pass0 (pa_cons (pv 0) (pa_cons (pv 1) pa_nil))))
      (pss_cons (ps_set (i := 2) sc_weighted.nd rfl (by first | exact Or.inl rfl | exact Or.inr rfl) (pe_callB (call_lenK K) rfl T.z_len PySem.boot_len (pa_cons (pv 0) pa_nil)))
      (pss_cons (ps_lc (i := 3) sc_weighted.nd rfl rfl rfl (lcOk_of (S := defScope s_weighted) (N := ["weights", "quota", "members", "carrying"]) (M := ["weights", "quota", "members", "carrying", "group"]) (by decide +kernel)) (pi_listK K (pe_call (ok_groups_of T) (hr.mono (by decide)) rfl T.m_groups_of T.F_groups_of.kp (b_groups_of T) .nil pass0 (pa_cons (pv 2) pa_nil))) (fun _ _ _ _ => (pg_name (i := 4) (show List.Nodup (["weights", "quota", "members", "carrying", "group"] : List Str) by decide +kernel) rfl (by first | exact Or.inl rfl | exact Or.inr rfl))) (fun _ _ _ _ => (pifs_one (pt_cmpR op_ge (pe_call (ok_weight_of T) (hr.mono (by decide)) rfl T.m_weight_of T.F_weight_of.kp (b_weight_of T) .nil pass0 (pa_cons (pv 0) (pa_cons (pv 4) pa_nil))) (pv 1) (nomark _)))) (fun _ _ _ _ => (pv 4)))
      (pss_one (ps_ret (pe_make T.mk_Council (ok_Council_init T) hr rfl T.m_Council (b_Council_init T) .nil pass0 (pa_cons (pv 2) (pa_cons (pv 3) pa_nil)))))))), ?_⟩
  obtain ⟨w1, w5, hw⟩ := id ok
  have h5 := two_le w5
  refine ⟨_, rfl, _, rfl, l, ws, q, rfl, hl, ok, q0, q1, fun H1 h1 => ?_⟩
  refine ⟨_, rfl, l, _, rfl, .inl (SqL.of (h1 _ _ hl)), ?_⟩
  refine ⟨_, rfl, ws.length, ?_, w5, fun r H2 nr h2 hr2 => ?_⟩
  · rw [List.length_map]; rfl
  refine ⟨r, rfl, ⟨_, SqL.of hr2⟩, ?_⟩
  refine lcB_list rfl (SqL.of hr2) (by rw [List.length_map, up_length]; omega) (fun x => match x with | .int g => decide (q ≤ wtOf ws g) | _ => false) (fun x => x) (fun x hx H3 h3 R z => ?_) (fun x hx _ H3 h3 R z => ⟨_, rfl, z H3 (Same.refl _)⟩) fun H3 D h3 hD => ?_
  · obtain ⟨g, hg, rfl⟩ := List.mem_map.mp hx
    refine ⟨_, rfl, _, rfl, l, ws, g, rfl, h3 _ _ (h2 _ _ (h1 _ _ hl)), by omega, fun H4 h4 => ?_⟩
    exact ⟨_, rfl, _, _, rfl, rfl, _, rfl, z H4 h4⟩
  · have s3 : Same H (upd H3 D (.lst ((((up (2 ^ ws.length)).map V.int).filter fun x => match x with | .int g => decide (q ≤ wtOf ws g) | _ => false).map fun x => x))) := h1.trans (h2.trans (h3.trans (same_new hD _)))
    have eD : ((((up (2 ^ ws.length)).map V.int).filter fun x => match x with | .int g => decide (q ≤ wtOf ws g) | _ => false).map fun x => x) = ((up (2 ^ ws.length)).filter fun g => decide (q ≤ wtOf ws g)).map V.int := by
      rw [List.map_id', List.filter_map]
      rfl
    rw [eD] at s3 ⊢
    refine ⟨_, rfl, _, rfl, fun x dx nx ndx nex => ?_⟩
    have s4 : Same H (upd (upd (upd H3 D (.lst (((up (2 ^ ws.length)).filter fun g => decide (q ≤ wtOf ws g)).map V.int))) dx (.own x)) x (.ins a.C_Council dx [])) := s3.trans ((same_new ndx _).trans (same_new (by rw [upd_ne (Ne.symm nex)]; exact nx) _))
    have hDx : D ≠ x := ne_of_none (upd_same (H := H3) (a := D)) nx
    have hDd : D ≠ dx := ne_of_none (upd_same (H := H3) (a := D)) ndx
    refine ⟨x, dx, ws.length, D, (up (2 ^ ws.length)).filter fun g => decide (q ≤ wtOf ws g), ?_, upd_same, w1, w5, ?_, ⟨?_, fun g hg => ?_⟩, fun H5 c kp => ⟨rfl, ?_⟩⟩
    · rw [List.length_map]; rfl
    · rw [upd_ne hDx, upd_ne hDd, upd_same]
    · have z : ((up (2 ^ ws.length)).filter fun g => decide (q ≤ wtOf ws g)).length ≤ (up (2 ^ ws.length)).length := List.length_filter_le _ _
      rw [up_length] at z
      omega
    · exact mem_up.mp (List.mem_filter.mp hg).1
    · have nxH : H x = none := s3.free nx
      rw [tab_weights w5 rfl (fun w hw' => (hw w hw').1)] at c
      exact k x H5 nxH (fun b o hb => kp b o (s4 b o hb) (ne_of_none hb nxH)) c

end Wv

set_option Elab.async false
set_option linter.all false
set_option maxRecDepth 100000
set_option maxHeartbeats 4000000

namespace Wv
open PySem L2
seal L2.PSs L2.PS L2.PE L2.PA L2.PT L2.PI L2.PW L2.PG L2.PGs L2.PIfs
/-! ## the data: Weights, Trade -/
theorem kqw : ¬ (("weights" : Str) = "quota") := by decide +kernel
theorem kfc : ¬ (("carry" : Str) = "fail") := by decide +kernel
def wflds (l : Addr) (q : Int) : List (Str × V) := putF "quota" (.int q) (putF "weights" (.ref l) [])
def tflds (l m : Addr) : List (Str × V) := putF "fail" (.ref m) (putF "carry" (.ref l) [])
theorem wflds_w (l : Addr) (q : Int) : (wflds l q).lookup ("weights" : Str) = some (.ref l) := by
  unfold wflds
  rw [lookup_putF, if_neg kqw, lookup_putF, if_pos rfl]
theorem wflds_q (l : Addr) (q : Int) : (wflds l q).lookup ("quota" : Str) = some (.int q) := by
  unfold wflds
  rw [lookup_putF, if_pos rfl]
theorem wflds_no (l : Addr) (q : Int) {m : Str} (h1 : ¬ m = "quota") (h2 : ¬ m = "weights") : (wflds l q).lookup m = none := by
  unfold wflds
  rw [lookup_putF, if_neg h1, lookup_putF, if_neg h2]
  rfl
theorem tflds_c (l m : Addr) : (tflds l m).lookup ("carry" : Str) = some (.ref l) := by
  unfold tflds
  rw [lookup_putF, if_neg kfc, lookup_putF, if_pos rfl]
theorem tflds_f (l m : Addr) : (tflds l m).lookup ("fail" : Str) = some (.ref m) := by
  unfold tflds
  rw [lookup_putF, if_pos rfl]
theorem tflds_no (l m : Addr) {x : Str} (h1 : ¬ x = "fail") (h2 : ¬ x = "carry") : (tflds l m).lookup x = none := by
  unfold tflds
  rw [lookup_putF, if_neg h1, lookup_putF, if_neg h2]
  rfl
/-- a Weights stands at p, its list at l -/
def WAt (C : Addr) (H : Hp) (p l : Addr) (ws : List Int) (q : Int) : Prop := (∃ dx, H p = some (.ins C dx (wflds l q))) ∧ H l = some (.lst (ws.map V.int))
/-- a Trade stands at p, its lists at l, m -/
def TAt (C : Addr) (H : Hp) (p l m : Addr) (cs fs : List Int) : Prop := (∃ dx, H p = some (.ins C dx (tflds l m))) ∧ H l = some (.lst (cs.map V.int)) ∧ H m = some (.lst (fs.map V.int))
theorem WAt.t {C : Addr} {H H' : Hp} {p l : Addr} {ws : List Int} {q : Int} (h : WAt C H p l ws q) (s : SameT H H') : WAt C H' p l ws q :=
  ⟨let ⟨dx, e⟩ := h.1; ⟨dx, s.get e (fun _ z => nomatch z)⟩, s.get h.2 (fun _ z => nomatch z)⟩
theorem WAt.same {C : Addr} {H H' : Hp} {p l : Addr} {ws : List Int} {q : Int} (h : WAt C H p l ws q) (s : Same H H') : WAt C H' p l ws q := h.t s.t
theorem TAt.t {C : Addr} {H H' : Hp} {p l m : Addr} {cs fs : List Int} (h : TAt C H p l m cs fs) (s : SameT H H') : TAt C H' p l m cs fs :=
  ⟨let ⟨dx, e⟩ := h.1; ⟨dx, s.get e (fun _ z => nomatch z)⟩, s.get h.2.1 (fun _ z => nomatch z), s.get h.2.2 (fun _ z => nomatch z)⟩
theorem TAt.same {C : Addr} {H H' : Hp} {p l m : Addr} {cs fs : List Int} (h : TAt C H p l m cs fs) (s : Same H H') : TAt C H' p l m cs fs := h.t s.t
theorem CAt.t {C : Addr} {H H' : Hp} {p : Addr} {n : Nat} {tb : List Bool} (c : CAt C H p n tb) (h : SameT H H') : CAt C H' p n tb := by
  obtain ⟨⟨dx, t, h1, h2⟩, n1, n5, l⟩ := c
  exact ⟨⟨dx, t, h.get h1 (fun _ z => nomatch z), h.get h2 (fun _ z => nomatch z)⟩, n1, n5, l⟩
/-! ## the promises -/
def sp_Weights_init (C : Addr) : Sp := fun vs H Q _ => ∃ (p dx l0 : Addr) (ws : List Int) (q : Int), vs = [.ref p, .ref l0, .int q] ∧ H p = some (.ins C dx []) ∧ H l0 = some (.lst (ws.map V.int)) ∧
  ∀ l H', H l = none → WAt C H' p l ws q → (∀ b o, H b = some o → b ≠ p → H' b = some o) → Q .non H'
def sp_Trade_init (C : Addr) : Sp := fun vs H Q _ => ∃ (p dx l0 m0 : Addr) (cs fs : List Int), vs = [.ref p, .ref l0, .ref m0] ∧ H p = some (.ins C dx []) ∧ H l0 = some (.lst (cs.map V.int)) ∧ H m0 = some (.lst (fs.map V.int)) ∧
  ∀ l m H', H l = none → H m = none → l ≠ m → TAt C H' p l m cs fs → (∀ b o, H b = some o → b ≠ p → H' b = some o) → Q .non H'
/-- as the answer's own word has it -/
def madeB (n : Nat) (tb : List Bool) (ws : List Int) (q : Int) : Bool := decide (ws.length = n) && (up (2 ^ n)).all fun g => at_ tb g == decide (q ≤ wtOf ws g)
def ofB (gs : List Int) (m : Int) : Nat := (gs.filter fun g => hasB g m).length
def tradedB (n : Nat) (tb : List Bool) (cs fs : List Int) : Bool := decide (cs.length = fs.length) && !decide (cs = []) && cs.all (at_ tb) && !fs.any (at_ tb) && (up n).all fun m => decide (ofB cs m ≤ ofB fs m)
def sp_agrees (C W : Addr) : Sp := fun vs H Q _ => ∃ (p l c : Addr) (ws : List Int) (q g : Int) (n : Nat) (tb : List Bool), vs = [.ref p, .ref c, .int g] ∧ WAt W H p l ws q ∧ ws.length ≤ 1000 ∧ CAt C H c n tb ∧ g ∈ up (2 ^ n) ∧ ∀ H', Same H H' → Q (.bl (at_ tb g == decide (q ≤ wtOf ws g))) H'
def sp_Weights_holds (C W : Addr) : Sp := fun vs H Q _ => ∃ (p l c : Addr) (ws : List Int) (q : Int) (n : Nat) (tb : List Bool), vs = [.ref p, .ref c] ∧ WAt W H p l ws q ∧ ws.length ≤ 1000 ∧ CAt C H c n tb ∧ ∀ H', Same H H' → Q (.bl (madeB n tb ws q)) H'
def sp_how_often : Sp := fun vs H Q _ => ∃ (l : Addr) (gs : List Int) (m : Int), vs = [.ref l, .int m] ∧ H l = some (.lst (gs.map V.int)) ∧ gs.length ≤ 1000 ∧ 0 ≤ m ∧ ∀ H', Same H H' → Q (.int (ofB gs m : Int)) H'
def sp_Trade_holds (C W : Addr) : Sp := fun vs H Q _ => ∃ (p l m c : Addr) (cs fs : List Int) (n : Nat) (tb : List Bool), vs = [.ref p, .ref c] ∧ TAt W H p l m cs fs ∧ cs.length ≤ 400 ∧ fs.length ≤ 400 ∧ (∀ g ∈ cs, g ∈ up (2 ^ n)) ∧ (∀ g ∈ fs, g ∈ up (2 ^ n)) ∧ CAt C H c n tb ∧ ∀ H', Same H H' → Q (.bl (tradedB n tb cs fs)) H'
theorem ok_Weights_init {P : Program} {w : World} {K : PySem.W.Frag} {mg : Str → Option Value} {base : Heap} {a : Adr} (T : Txt K mg a) : FnOk P w K mg base CX0 1 a.a_Weights_init a.d_Weights_init ["self", "weights", "quota"] (sp_Weights_init a.C_Weights) := by
  refine T.F_Weights_init.ok sc_Weights_init (fun vs H Q E h => ?_) (fun cdv A outer s H vs Q E hr h => ?_)
  · obtain ⟨p, dx, l0, ws, q, rfl, _⟩ := h; rfl
  obtain ⟨p, dx, l0, ws, q, rfl, hp, hl, k⟩ := h
  refine ⟨_, (pss_cons (ps_fld (pv 0) (pe_callTy (call_list_ofK K) rfl T.z_list PyProof.Rows.boot_list (pa_cons (pv 1) pa_nil)) rfl)
      (pss_one (ps_fld (pv 0) (pv 2) rfl))), ?_⟩
  refine ⟨_, rfl, l0, _, rfl, .inl (SqL.of hl), fun l nl => ?_⟩
  have npl : p ≠ l := ne_of_none hp nl
  refine ⟨_, rfl, p, a.C_Weights, dx, [], rfl, (by rw [upd_ne npl]; exact hp), T.cl_Weights, T.n_Weights_weights, (by show 0 < 1000; decide), ?_⟩
  refine ⟨_, rfl, _, rfl, p, a.C_Weights, dx, _, rfl, upd_same, T.cl_Weights, T.n_Weights_quota, (by show 1 < 1000; decide), ?_⟩
  refine k l _ nl ⟨⟨dx, upd_same⟩, ?_⟩ fun b o hb nb => ?_
  · rw [upd_ne (Ne.symm npl), upd_ne (Ne.symm npl), upd_same]
  · rw [upd_ne nb, upd_ne nb, upd_ne (ne_of_none hb nl)]
    exact hb
theorem ok_Trade_init {P : Program} {w : World} {K : PySem.W.Frag} {mg : Str → Option Value} {base : Heap} {a : Adr} (T : Txt K mg a) : FnOk P w K mg base CX0 1 a.a_Trade_init a.d_Trade_init ["self", "carry", "fail"] (sp_Trade_init a.C_Trade) := by
  refine T.F_Trade_init.ok sc_Trade_init (fun vs H Q E h => ?_) (fun cdv A outer s H vs Q E hr h => ?_)
  · obtain ⟨p, dx, l0, m0, cs, fs, rfl, _⟩ := h; rfl
  obtain ⟨p, dx, l0, m0, cs, fs, rfl, hp, hl, hm, k⟩ := h
  refine ⟨_, (pss_cons (ps_fld (pv 0) (pe_callTy (call_list_ofK K) rfl T.z_list PyProof.Rows.boot_list (pa_cons (pv 1) pa_nil)) rfl)
      (pss_one (ps_fld (pv 0) (pe_callTy (call_list_ofK K) rfl T.z_list PyProof.Rows.boot_list (pa_cons (pv 2) pa_nil)) rfl))), ?_⟩
  refine ⟨_, rfl, l0, _, rfl, .inl (SqL.of hl), fun l nl => ?_⟩
  have npl : p ≠ l := ne_of_none hp nl
  refine ⟨_, rfl, p, a.C_Trade, dx, [], rfl, (by rw [upd_ne npl]; exact hp), T.cl_Trade, T.n_Trade_carry, (by show 0 < 1000; decide), ?_⟩
  have hmp : m0 ≠ p := ne_of hm hp (by intro z; cases z)
  refine ⟨_, rfl, m0, _, rfl, .inl (SqL.of (by rw [upd_ne hmp, upd_ne (ne_of_none hm nl)]; exact hm)), fun m nm => ?_⟩
  have nmp : m ≠ p := fun z => by rw [z, upd_same] at nm; cases nm
  have nml : m ≠ l := fun z => by rw [z, upd_ne (Ne.symm npl), upd_same] at nm; cases nm
  have nm0 : H m = none := by rw [upd_ne nmp, upd_ne nml] at nm; exact nm
  refine ⟨_, rfl, p, a.C_Trade, dx, _, rfl, (by rw [upd_ne (Ne.symm nmp), upd_same]), T.cl_Trade, T.n_Trade_fail, (by show 1 < 1000; decide), ?_⟩
  refine k l m _ nl nm0 (Ne.symm nml) ⟨⟨dx, upd_same⟩, ?_, ?_⟩ fun b o hb nb => ?_
  · rw [upd_ne (Ne.symm npl), upd_ne (Ne.symm nml), upd_ne (Ne.symm npl), upd_same]
  · rw [upd_ne nmp, upd_same]
  · rw [upd_ne nb, upd_ne (ne_of_none hb nm0), upd_ne nb, upd_ne (ne_of_none hb nl)]
    exact hb
theorem ok_Weights_agrees {P : Program} {w : World} {K : PySem.W.Frag} {mg : Str → Option Value} {base : Heap} {a : Adr} (T : Txt K mg a) : FnOk P w K mg base CX0 4 a.a_Weights_agrees a.d_Weights_agrees ["self", "council", "group"] (sp_agrees a.C_Council a.C_Weights) := by
  refine T.F_Weights_agrees.ok sc_Weights_agrees (fun vs H Q E h => ?_) (fun cdv A outer s H vs Q E hr h => ?_)
  · obtain ⟨p, l, c, ws, q, g, n, tb, rfl, _⟩ := h; rfl
  obtain ⟨p, l, c, ws, q, g, n, tb, rfl, hW, hz, cc, hg, k⟩ := h
  refine ⟨_, (pss_one (ps_ret (pe_cmpR op_eq (pe_meth (pv 1) T.cl_Council T.mt_Council_carries (ok_Council_carries T) hr (b_Council_carries T) .nil pass0 (pa_cons (pv 2) pa_nil)) (pe_cmpR op_ge (pe_call (ok_weight_of T) (hr.mono (by decide)) rfl T.m_weight_of T.F_weight_of.kp (b_weight_of T) .nil pass0 (pa_cons (pe_fldK K (pv 0) rfl) (pa_cons (pv 2) pa_nil))) (pe_fldK K (pv 0) rfl) (nomark _)) (nomark _)))), ?_⟩
  obtain ⟨⟨cx, t, e1, e2⟩, n1, n5, hl⟩ := id cc
  obtain ⟨⟨dx, w1⟩, w2⟩ := id hW
  obtain ⟨g0, g1⟩ := mem_up.mp hg
  refine ⟨_, rfl, c, cx, _, rfl, e1, flds_no _ _ (by decide +kernel) (by decide +kernel), _, rfl, c, n, tb, g, rfl, cc, g0, g1, fun H1 s1 => ?_⟩
  refine ⟨_, rfl, p, a.C_Weights, dx, _, _, rfl, s1 _ _ w1, T.cl_Weights, T.n_Weights_weights, wflds_w _ _, _, rfl, l, ws, g, rfl, s1 _ _ w2, hz, fun H2 s2 => ?_⟩
  refine ⟨_, rfl, p, a.C_Weights, dx, _, _, rfl, s2 _ _ (s1 _ _ w1), T.cl_Weights, T.n_Weights_quota, wflds_q _ _, _, _, rfl, rfl, rfl, ?_⟩
  refine qbl ?_ (k _ (s1.trans s2))
  cases at_ tb g <;> cases h : decide (wtOf ws g ≥ q) <;> simp_all
end Wv

set_option Elab.async false
set_option linter.all false
set_option maxRecDepth 100000
set_option maxHeartbeats 4000000

namespace Wv
open PySem L2
seal L2.PSs L2.PS L2.PE L2.PA L2.PT L2.PI L2.PW L2.PG L2.PGs L2.PIfs
theorem bools_map {l : List Int} {f : Int → Bool} : (((l.map V.int).filter fun _ => true).map fun x => match x with | .int o => V.bl (f o) | _ => .non) = (l.map f).map V.bl := by
  rw [List.filter_eq_self.mpr (fun _ _ => rfl), List.map_map, List.map_map]
  rfl
theorem filt_map {l : List Int} {f : Int → Bool} : (((l.map V.int).filter fun x => match x with | .int o => f o | _ => false).map fun x => x) = (l.filter f).map V.int := by
  rw [List.map_id', List.filter_map]
  rfl
theorem ok_Weights_holds {P : Program} {w : World} {K : PySem.W.Frag} {mg : Str → Option Value} {base : Heap} {a : Adr} (T : Txt K mg a) : FnOk P w K mg base CX0 5 a.a_Weights_holds a.d_Weights_holds ["self", "council"] (sp_Weights_holds a.C_Council a.C_Weights) := by
  refine T.F_Weights_holds.ok sc_Weights_holds (fun vs H Q E h => ?_) (fun cdv A outer s H vs Q E hr h => ?_)
  · obtain ⟨p, l, c, ws, q, n, tb, rfl, _⟩ := h; rfl
  obtain ⟨p, l, c, ws, q, n, tb, rfl, hW, hz, cc, k⟩ := h
  refine ⟨_, (pss_cons (ps_if (pt_cmpR op_ne (pe_callB (call_lenK K) rfl T.z_len PySem.boot_len (pa_cons (pe_fldK K (pv 0) rfl) pa_nil)) (pe_fldK K (pv 1) rfl) (nomark _)) (pss_one (ps_ret pe_bl)) pss_nil)
      (pss_one (ps_ret (pe_callB (call_allK K rfl) rfl T.z_all PyProof.Rows.boot_all (pa_cons (pe_lc rfl (lcOk_of (S := defScope s_Weights_holds) (N := ["self", "council"]) (M := ["self", "council", "group"]) (by decide +kernel)) (pi_listK K (pe_call (ok_groups_of T) (hr.mono (by decide)) rfl T.m_groups_of T.F_groups_of.kp (b_groups_of T) .nil pass0 (pa_cons (pe_fldK K (pv 1) rfl) pa_nil))) (fun _ _ _ _ => (pg_name (i := 2) (show List.Nodup (["self", "council", "group"] : List Str) by decide +kernel) rfl (by first | exact Or.inl rfl | exact Or.inr rfl))) (fun _ _ _ _ => pifs_nil) (fun _ _ _ _ => (pe_meth (pv 0) T.cl_Weights T.mt_Weights_agrees (ok_Weights_agrees T) hr (b_Weights_agrees T) .nil pass0 (pa_cons (pv 1) (pa_cons (pv 2) pa_nil))))) pa_nil))))), ?_⟩
  obtain ⟨⟨cx, t, e1, e2⟩, n1, n5, hl⟩ := id cc
  obtain ⟨⟨dx, w1⟩, w2⟩ := id hW
  have h5 := two_le n5
  refine ⟨_, rfl, p, a.C_Weights, dx, _, _, rfl, w1, T.cl_Weights, T.n_Weights_weights, wflds_w _ _, l, _, rfl, .inl (SqL.of w2), ?_⟩
  refine ⟨_, rfl, c, a.C_Council, cx, _, _, rfl, e1, T.cl_Council, T.n_Council_members, flds_m _ _, rfl, _, rfl, ?_⟩
  rw [dec_int, List.length_map]
  by_cases hlen : ws.length = n
  · refine ite_f (by rw [hlen]; simp) ?_
    refine ⟨_, rfl, c, a.C_Council, cx, _, _, rfl, e1, T.cl_Council, T.n_Council_members, flds_m _ _, n, rfl, n5, fun r H1 nr s1 hr1 => ?_⟩
    refine ⟨r, rfl, ⟨_, SqL.of hr1⟩, ?_⟩
    refine lcB_list rfl (SqL.of hr1) (by rw [List.length_map, up_length]; omega) (fun _ => true) (fun x => match x with | .int g => .bl (at_ tb g == decide (q ≤ wtOf ws g)) | _ => .non) (fun x hx H2 s2 R z => z H2 (Same.refl _)) (fun x hx _ H2 s2 R z => ?_) fun H2 D s2 hD => ?_
    · obtain ⟨g, hg, rfl⟩ := List.mem_map.mp hx
      have s12 := s1.trans s2
      exact ⟨_, rfl, p, dx, _, rfl, s12 _ _ w1, wflds_no _ _ (by decide +kernel) (by decide +kernel), _, rfl, _, rfl, p, l, c, ws, q, g, n, tb, rfl, hW.same s12, hz, cc.same s12, hg, fun H3 s3 => z H3 s3⟩
    · rw [bools_map]
      refine ⟨D, _, rfl, SqL.of upd_same, ?_⟩
      refine qbl ?_ (k _ (s1.trans (s2.trans (same_new hD _))))
      unfold madeB
      rw [decide_eq_true hlen, List.all_map]
      rfl
  · refine ite_t (by simp; omega) ?_
    refine qbl ?_ (k _ (Same.refl _))
    unfold madeB
    rw [decide_eq_false hlen]
    rfl
theorem ok_how_often {P : Program} {w : World} {K : PySem.W.Frag} {mg : Str → Option Value} {base : Heap} {a : Adr} (T : Txt K mg a) : FnOk P w K mg base CX0 2 a.a_how_often a.d_how_often ["groups", "member"] sp_how_often := by
  refine T.F_how_often.ok sc_how_often (fun vs H Q E h => ?_) (fun cdv A outer s H vs Q E hr h => ?_)
  · obtain ⟨l, gs, m, rfl, _⟩ := h; rfl
  obtain ⟨l, gs, m, rfl, hl, hz, m0, k⟩ := h
  refine ⟨_, (pss_one (ps_ret (pe_callB (call_lenK K) rfl T.z_len PySem.boot_len (pa_cons (pe_lc rfl (lcOk_of (S := defScope s_how_often) (N := ["groups", "member"]) (M := ["groups", "member", "group"]) (by decide +kernel)) (pi_listK K (pv 0)) (fun _ _ _ _ => (pg_name (i := 2) (show List.Nodup (["groups", "member", "group"] : List Str) by decide +kernel) rfl (by first | exact Or.inl rfl | exact Or.inr rfl))) (fun _ _ _ _ => (pifs_one (pt_val (pe_call (ok_has T) hr rfl T.m_has T.F_has.kp (b_has T) .nil pass0 (pa_cons (pv 2) (pa_cons (pv 1) pa_nil)))))) (fun _ _ _ _ => (pv 2))) pa_nil)))), ?_⟩
  refine ⟨_, rfl, l, rfl, ⟨_, SqL.of hl⟩, ?_⟩
  refine lcB_list rfl (SqL.of hl) (by rw [List.length_map]; exact hz) (fun x => match x with | .int o => hasB o m | _ => false) (fun x => x) (fun x hx H2 s2 R z => ?_) (fun x hx _ H2 s2 R z => ?_) fun H2 D s2 hD => ?_
  · obtain ⟨g, hg, rfl⟩ := List.mem_map.mp hx
    exact ⟨_, rfl, _, rfl, _, _, rfl, m0, fun H3 s3 => ⟨_, rfl, z H3 s3⟩⟩
  · exact ⟨_, rfl, z H2 (Same.refl _)⟩
  · rw [filt_map]
    refine ⟨D, _, rfl, .inl (SqL.of upd_same), ?_⟩
    rw [List.length_map]
    exact k _ (s2.trans (same_new hD _))
theorem ok_Trade_holds {P : Program} {w : World} {K : PySem.W.Frag} {mg : Str → Option Value} {base : Heap} {a : Adr} (T : Txt K mg a) : FnOk P w K mg base CX0 4 a.a_Trade_holds a.d_Trade_holds ["self", "council"] (sp_Trade_holds a.C_Council a.C_Trade) := by
  refine T.F_Trade_holds.ok sc_Trade_holds (fun vs H Q E h => ?_) (fun cdv A outer s H vs Q E hr h => ?_)
  · obtain ⟨p, l, m, c, cs, fs, n, tb, rfl, _⟩ := h; rfl
  obtain ⟨p, l, m, c, cs, fs, n, tb, rfl, hT, zc, zf, gc, gf, cc, k⟩ := h
  refine ⟨_, (pss_cons (ps_if (PW.pt (pw_or (pt_cmpR op_ne (pe_callB (call_lenK K) rfl T.z_len PySem.boot_len (pa_cons (pe_fldK K (pv 0) rfl) pa_nil)) (pe_callB (call_lenK K) rfl T.z_len PySem.boot_len (pa_cons (pe_fldK K (pv 0) rfl) pa_nil)) (nomark _)) (pw_or1 (pt_cmpR op_eq (pe_callB (call_lenK K) rfl T.z_len PySem.boot_len (pa_cons (pe_fldK K (pv 0) rfl) pa_nil)) pe_int (nomark _))))) (pss_one (ps_ret pe_bl)) pss_nil)
      (pss_cons (ps_if (pt_not (pt_val (pe_callB (call_allK K rfl) rfl T.z_all PyProof.Rows.boot_all (pa_cons (pe_lc rfl (lcOk_of (S := defScope s_Trade_holds) (N := ["self", "council"]) (M := ["self", "council", "group"]) (by decide +kernel)) (pi_listK K (pe_op op_cat (pe_fldK K (pv 0) rfl) (pe_fldK K (pv 0) rfl))) (fun _ _ _ _ => (pg_name (i := 2) (show List.Nodup (["self", "council", "group"] : List Str) by decide +kernel) rfl (by first | exact Or.inl rfl | exact Or.inr rfl))) (fun _ _ _ _ => pifs_nil) (fun _ _ _ _ => (pe_call (ok_is_group T) (hr.mono (by decide)) rfl T.m_is_group T.F_is_group.kp (b_is_group T) .nil pass0 (pa_cons (pv 2) (pa_cons (pe_fldK K (pv 1) rfl) pa_nil))))) pa_nil)))) (pss_one (ps_ret pe_bl)) pss_nil)
      (pss_cons (ps_if (pt_not (pt_val (pe_callB (call_allK K rfl) rfl T.z_all PyProof.Rows.boot_all (pa_cons (pe_lc rfl (lcOk_of (S := defScope s_Trade_holds) (N := ["self", "council"]) (M := ["self", "council", "group"]) (by decide +kernel)) (pi_listK K (pe_fldK K (pv 0) rfl)) (fun _ _ _ _ => (pg_name (i := 2) (show List.Nodup (["self", "council", "group"] : List Str) by decide +kernel) rfl (by first | exact Or.inl rfl | exact Or.inr rfl))) (fun _ _ _ _ => pifs_nil) (fun _ _ _ _ => (pe_meth (pv 1) T.cl_Council T.mt_Council_carries (ok_Council_carries T) hr (b_Council_carries T) .nil pass0 (pa_cons (pv 2) pa_nil)))) pa_nil)))) (pss_one (ps_ret pe_bl)) pss_nil)
      (pss_cons (ps_if (pt_val (pe_callB (call_anyK K rfl) rfl T.z_any PyProof.Rows.boot_any (pa_cons (pe_lc rfl (lcOk_of (S := defScope s_Trade_holds) (N := ["self", "council"]) (M := ["self", "council", "group"]) (by decide +kernel)) (pi_listK K (pe_fldK K (pv 0) rfl)) (fun _ _ _ _ => (pg_name (i := 2) (show List.Nodup (["self", "council", "group"] : List Str) by decide +kernel) rfl (by first | exact Or.inl rfl | exact Or.inr rfl))) (fun _ _ _ _ => pifs_nil) (fun _ _ _ _ => (pe_meth (pv 1) T.cl_Council T.mt_Council_carries (ok_Council_carries T) hr (b_Council_carries T) .nil pass0 (pa_cons (pv 2) pa_nil)))) pa_nil))) (pss_one (ps_ret pe_bl)) pss_nil)
      (pss_one (ps_ret (pe_callB (call_allK K rfl) rfl T.z_all PyProof.Rows.boot_all (pa_cons (pe_lc rfl (lcOk_of (S := defScope s_Trade_holds) (N := ["self", "council"]) (M := ["self", "council", "member"]) (by decide +kernel)) (pi_range1 rfl T.z_range (pa_cons (pe_fldK K (pv 1) rfl) pa_nil)) (fun _ _ _ _ => (pg_name (i := 2) (show List.Nodup (["self", "council", "member"] : List Str) by decide +kernel) rfl (by first | exact Or.inl rfl | exact Or.inr rfl))) (fun _ _ _ _ => pifs_nil) (fun _ _ _ _ => (pe_cmpR op_le (pe_call (ok_how_often T) (hr.mono (by decide)) rfl T.m_how_often T.F_how_often.kp (b_how_often T) .nil pass0 (pa_cons (pe_fldK K (pv 0) rfl) (pa_cons (pv 2) pa_nil))) (pe_call (ok_how_often T) (hr.mono (by decide)) rfl T.m_how_often T.F_how_often.kp (b_how_often T) .nil pass0 (pa_cons (pe_fldK K (pv 0) rfl) (pa_cons (pv 2) pa_nil))) (nomark _)))) pa_nil)))))))), ?_⟩
  obtain ⟨⟨cx, t, e1, e2⟩, n1, n5, hl⟩ := id cc
  obtain ⟨⟨dx, w1⟩, w2, w3⟩ := id hT
  have h5 := two_le n5
  have cf := tflds_c l m
  have ff := tflds_f l m
  -- as many, one at least
  refine ⟨_, rfl, p, a.C_Trade, dx, _, _, rfl, w1, T.cl_Trade, T.n_Trade_carry, cf, l, _, rfl, .inl (SqL.of w2), _, rfl, p, a.C_Trade, dx, _, _, rfl, w1, T.cl_Trade, T.n_Trade_fail, ff, m, _, rfl, .inl (SqL.of w3), rfl, _, rfl, ?_⟩
  rw [dec_int, List.length_map, List.length_map]
  by_cases hlen' : ¬ cs.length = fs.length
  · have hlen := hlen'
    refine ite_t (by simp; omega) (qbl ?_ (k _ (Same.refl _)))
    unfold tradedB
    rw [decide_eq_false hlen]
    simp
  have hlen : cs.length = fs.length := Decidable.not_not.mp hlen'
  refine ite_f (by rw [hlen]; simp) ?_
  refine ⟨_, rfl, p, a.C_Trade, dx, _, _, rfl, w1, T.cl_Trade, T.n_Trade_carry, cf, l, _, rfl, .inl (SqL.of w2), rfl, _, rfl, ?_⟩
  rw [dec_int, List.length_map]
  by_cases hne : cs = []
  · refine ite_t (by rw [hne]; rfl) (qbl ?_ (k _ (Same.refl _)))
    unfold tradedB
    rw [decide_eq_true hne]
    simp
  have hne0 : cs.length ≠ 0 := fun z => hne (List.eq_nil_of_length_eq_zero z)
  refine ite_f (by simp; omega) ?_
  -- all are groups
  refine ⟨_, rfl, p, a.C_Trade, dx, _, _, rfl, w1, T.cl_Trade, T.n_Trade_carry, cf, _, rfl, p, a.C_Trade, dx, _, _, rfl, w1, T.cl_Trade, T.n_Trade_fail, ff, l, m, _, _, rfl, rfl, w2, w3, (by rw [List.length_map, List.length_map]; exact Nat.le_of_lt (small1000 (by omega))), fun r nr => ?_⟩
  have s1 : Same H (upd H r (.lst (cs.map V.int ++ fs.map V.int))) := same_new nr _
  have hr1 : upd H r (.lst (cs.map V.int ++ fs.map V.int)) r = some (.lst ((cs ++ fs).map V.int)) := by rw [upd_same, List.map_append]
  generalize upd H r (.lst (cs.map V.int ++ fs.map V.int)) = H1 at s1 hr1
  refine ⟨r, rfl, ⟨_, SqL.of hr1⟩, ?_⟩
  refine lcB_list rfl (SqL.of hr1) (by rw [List.length_map, List.length_append]; omega) (fun _ => true) (fun x => match x with | .int g => .bl (decide (0 ≤ g ∧ g ≤ ((2 ^ n : Nat) : Int) - 1)) | _ => .non) (fun x hx H2 s2 R z => z H2 (Same.refl _)) (fun x hx _ H2 s2 R z => ?_) fun H2 D s2 hD => ?_
  · obtain ⟨g, hg, rfl⟩ := List.mem_map.mp hx
    exact ⟨_, rfl, _, rfl, c, a.C_Council, cx, _, _, rfl, s2 _ _ (s1 _ _ e1), T.cl_Council, T.n_Council_members, flds_m _ _, g, n, rfl, n5, fun H3 s3 => z H3 s3⟩
  rw [bools_map]
  refine ⟨D, _, rfl, SqL.of upd_same, _, rfl, ?_⟩
  have s3 : Same H (upd H2 D (.lst (((cs ++ fs).map fun g => decide (0 ≤ g ∧ g ≤ ((2 ^ n : Nat) : Int) - 1)).map V.bl))) := s1.trans (s2.trans (same_new hD _))
  generalize upd H2 D (.lst (((cs ++ fs).map fun g => decide (0 ≤ g ∧ g ≤ ((2 ^ n : Nat) : Int) - 1)).map V.bl)) = H3 at s3
  refine ite_f (by
    rw [all_true fun g hg => decide_eq_true ?_]
    · rfl
    · have : g ∈ up (2 ^ n) := (List.mem_append.mp hg).elim (gc g) (gf g)
      obtain ⟨g0, g1⟩ := mem_up.mp this
      exact ⟨g0, by omega⟩) ?_
  clear s1 s2 hr1 hD nr
  -- all of the one carry
  refine ⟨_, rfl, p, a.C_Trade, dx, _, _, rfl, s3 _ _ w1, T.cl_Trade, T.n_Trade_carry, cf, l, rfl, ⟨_, SqL.of (s3 _ _ w2)⟩, ?_⟩
  refine lcB_list rfl (SqL.of (s3 _ _ w2)) (by rw [List.length_map]; omega) (fun _ => true) (fun x => match x with | .int g => .bl (at_ tb g) | _ => .non) (fun x hx H2 s2 R z => z H2 (Same.refl _)) (fun x hx _ H4 s4 R z => ?_) fun H4 D s4 hD => ?_
  · obtain ⟨g, hg, rfl⟩ := List.mem_map.mp hx
    obtain ⟨g0, g1⟩ := mem_up.mp (gc g hg)
    exact ⟨_, rfl, c, cx, _, rfl, s4 _ _ (s3 _ _ e1), flds_no _ _ (by decide +kernel) (by decide +kernel), _, rfl, c, n, tb, g, rfl, (cc.same s3).same s4, g0, g1, fun H5 s5 => z H5 s5⟩
  rw [bools_map]
  refine ⟨D, _, rfl, SqL.of upd_same, _, rfl, ?_⟩
  have s5 : Same H (upd H4 D (.lst ((cs.map (at_ tb)).map V.bl))) := s3.trans (s4.trans (same_new hD _))
  generalize upd H4 D (.lst ((cs.map (at_ tb)).map V.bl)) = H5 at s5
  clear s4 hD
  cases hca : cs.all (at_ tb) with
  | false =>
    refine ite_t (by rw [List.all_map]; show (!cs.all (at_ tb)) = true; rw [hca]; rfl) (qbl ?_ (k _ s5))
    unfold tradedB
    rw [hca]
    simp
  | true =>
  refine ite_f (by rw [List.all_map]; show (!cs.all (at_ tb)) = false; rw [hca]; rfl) ?_
  -- none of the others
  refine ⟨_, rfl, p, a.C_Trade, dx, _, _, rfl, s5 _ _ w1, T.cl_Trade, T.n_Trade_fail, ff, m, rfl, ⟨_, SqL.of (s5 _ _ w3)⟩, ?_⟩
  refine lcB_list rfl (SqL.of (s5 _ _ w3)) (by rw [List.length_map]; omega) (fun _ => true) (fun x => match x with | .int g => .bl (at_ tb g) | _ => .non) (fun x hx H2 s2 R z => z H2 (Same.refl _)) (fun x hx _ H6 s6 R z => ?_) fun H6 D s6 hD => ?_
  · obtain ⟨g, hg, rfl⟩ := List.mem_map.mp hx
    obtain ⟨g0, g1⟩ := mem_up.mp (gf g hg)
    exact ⟨_, rfl, c, cx, _, rfl, s6 _ _ (s5 _ _ e1), flds_no _ _ (by decide +kernel) (by decide +kernel), _, rfl, c, n, tb, g, rfl, (cc.same s5).same s6, g0, g1, fun H7 s7 => z H7 s7⟩
  rw [bools_map]
  refine ⟨D, _, rfl, SqL.of upd_same, _, rfl, ?_⟩
  have s7 : Same H (upd H6 D (.lst ((fs.map (at_ tb)).map V.bl))) := s5.trans (s6.trans (same_new hD _))
  generalize upd H6 D (.lst ((fs.map (at_ tb)).map V.bl)) = H7 at s7
  clear s6 hD
  cases hfa : fs.any (at_ tb) with
  | true =>
    refine ite_t (by rw [List.any_map]; exact hfa) (qbl ?_ (k _ s7))
    unfold tradedB
    rw [hfa]
    simp
  | false =>
  refine ite_f (by rw [List.any_map]; exact hfa) ?_
  -- as often, or more often
  refine ⟨_, rfl, c, a.C_Council, cx, _, _, rfl, s7 _ _ e1, T.cl_Council, T.n_Council_members, flds_m _ _, n, rfl, by omega, by omega, ?_⟩
  refine lcB_range (k := n) rfl (by omega) (fun _ => true) (fun x => .bl (decide (ofB cs x ≤ ofB fs x))) (fun x x0 x1 H8 s8 R z => z H8 (Same.refl _)) (fun x x0 x1 _ H8 s8 R z => ?_) fun H8 D s8 hD => ?_
  · have s78 := s7.trans s8
    refine ⟨_, rfl, p, a.C_Trade, dx, _, _, rfl, s78 _ _ w1, T.cl_Trade, T.n_Trade_carry, cf, _, rfl, l, cs, x, rfl, s78 _ _ w2, by omega, x0, fun H9 s9 => ?_⟩
    refine ⟨_, rfl, p, a.C_Trade, dx, _, _, rfl, s9 _ _ (s78 _ _ w1), T.cl_Trade, T.n_Trade_fail, ff, _, rfl, m, fs, x, rfl, s9 _ _ (s78 _ _ w3), by omega, x0, fun H10 s10 => ?_⟩
    refine ⟨_, _, rfl, rfl, ?_⟩
    refine qbl ?_ (z H10 (s9.trans s10))
    rw [decide_eq_decide]
    omega
  · refine ⟨D, (up n).map fun x => decide (ofB cs x ≤ ofB fs x), rfl, SqL.of ?_, ?_⟩
    · rw [upd_same, List.filter_eq_self.mpr (fun _ _ => rfl), List.map_map]
      rfl
    · refine qbl ?_ (k _ (s7.trans (s8.trans (same_new hD _))))
      unfold tradedB
      rw [decide_eq_true hlen, decide_eq_false hne, hca, hfa, List.all_map]
      rfl
/-! ## outdoes, strength, pairs -/
def PairAt (H : Hp) (l : Addr) (c : Int × Int) : Prop := H l = some (.lst [.int c.1, .int c.2])
def sp_outdoes : Sp := fun vs H Q _ => ∃ (l m : Addr) (f c : Int × Int), vs = [.ref l, .ref m] ∧ PairAt H l f ∧ PairAt H m c ∧ ∀ H', Same H H' → Q (.bl (outdB f c)) H'
theorem ok_outdoes {P : Program} {w : World} {K : PySem.W.Frag} {mg : Str → Option Value} {base : Heap} {a : Adr} (T : Txt K mg a) : FnOk P w K mg base CX0 2 a.a_outdoes a.d_outdoes ["fail", "carry"] sp_outdoes := by
  refine T.F_outdoes.ok sc_outdoes (fun vs H Q E h => ?_) (fun cdv A outer s H vs Q E hr h => ?_)
  · obtain ⟨l, m, f, c, rfl, _⟩ := h; rfl
  obtain ⟨l, m, f, c, rfl, hf, hc, k⟩ := h
  refine ⟨_, (pss_one (ps_ret (pe_and (pe_call (ok_within T) hr rfl T.m_within T.F_within.kp (b_within T) .nil pass0 (pa_cons (pe_op op_or (pe_ix (ix_listK K) (pv 1) pe_int (fun _ _ => rfl)) (pe_ix (ix_listK K) (pv 1) pe_int (fun _ _ => rfl))) (pa_cons (pe_op op_or (pe_ix (ix_listK K) (pv 0) pe_int (fun _ _ => rfl)) (pe_ix (ix_listK K) (pv 0) pe_int (fun _ _ => rfl))) pa_nil))) (pe_one (pe_call (ok_within T) hr rfl T.m_within T.F_within.kp (b_within T) .nil pass0 (pa_cons (pe_op op_and (pe_ix (ix_listK K) (pv 1) pe_int (fun _ _ => rfl)) (pe_ix (ix_listK K) (pv 1) pe_int (fun _ _ => rfl))) (pa_cons (pe_op op_and (pe_ix (ix_listK K) (pv 0) pe_int (fun _ _ => rfl)) (pe_ix (ix_listK K) (pv 0) pe_int (fun _ _ => rfl))) pa_nil))))))), ?_⟩
  have at0 : ∀ {x y : V}, atI [x, y] 0 = some x := fun {x y} => atI_nat (j := 0) rfl
  have at1 : ∀ {x y : V}, atI [x, y] 1 = some y := fun {x y} => atI_nat (j := 1) rfl
  refine ⟨_, rfl, m, _, _, _, rfl, rfl, SqL.of hc, at0, _, rfl, m, _, _, _, rfl, rfl, SqL.of hc, at1, _, _, rfl, rfl, _, rfl, l, _, _, _, rfl, rfl, SqL.of hf, at0, _, rfl, l, _, _, _, rfl, rfl, SqL.of hf, at1, _, _, rfl, rfl, _, _, rfl, trivial, fun H1 s1 => ?_⟩
  refine ⟨_, rfl, ?_⟩
  have hc1 := s1 _ _ hc
  have hf1 := s1 _ _ hf
  cases hw : withinB (Builtin.bitOr c.1 c.2) (Builtin.bitOr f.1 f.2) with
  | false =>
    refine iteF (qbl ?_ (k _ s1))
    unfold outdB
    rw [hw]
    rfl
  | true =>
    refine iteT ?_
    refine ⟨_, rfl, m, _, _, _, rfl, rfl, SqL.of hc1, at0, _, rfl, m, _, _, _, rfl, rfl, SqL.of hc1, at1, _, _, rfl, rfl, _, rfl, l, _, _, _, rfl, rfl, SqL.of hf1, at0, _, rfl, l, _, _, _, rfl, rfl, SqL.of hf1, at1, _, _, rfl, rfl, _, _, rfl, trivial, fun H2 s2 => ?_⟩
    refine qbl ?_ (k _ (s1.trans s2))
    unfold outdB
    rw [hw]
    rfl
def sp_strength (C : Addr) : Sp := fun vs H Q _ => ∃ (c : Addr) (n : Nat) (tb : List Bool) (m : Int), vs = [.ref c, .int m] ∧ CAt C H c n tb ∧ 0 ≤ m ∧ ∀ H', Same H H' → Q (.int (stB n tb m : Int)) H'
theorem ok_strength {P : Program} {w : World} {K : PySem.W.Frag} {mg : Str → Option Value} {base : Heap} {a : Adr} (T : Txt K mg a) : FnOk P w K mg base CX0 4 a.a_strength a.d_strength ["council", "member"] (sp_strength a.C_Council) := by
  refine T.F_strength.ok sc_strength (fun vs H Q E h => ?_) (fun cdv A outer s H vs Q E hr h => ?_)
  · obtain ⟨c, n, tb, m, rfl, _⟩ := h; rfl
  obtain ⟨c, n, tb, m, rfl, cc, m0, k⟩ := h
  refine ⟨_, (pss_one (ps_ret (pe_callB (call_lenK K) rfl T.z_len PySem.boot_len (pa_cons (pe_lc rfl (lcOk_of (S := defScope s_strength) (N := ["council", "member"]) (M := ["council", "member", "group"]) (by decide +kernel)) (pi_listK K (pe_call (ok_groups_of T) (hr.mono (by decide)) rfl T.m_groups_of T.F_groups_of.kp (b_groups_of T) .nil pass0 (pa_cons (pe_fldK K (pv 0) rfl) pa_nil))) (fun _ _ _ _ => (pg_name (i := 2) (show List.Nodup (["council", "member", "group"] : List Str) by decide +kernel) rfl (by first | exact Or.inl rfl | exact Or.inr rfl))) (fun _ _ _ _ => (pifs_one (PW.pt (pw_and (pt_val (pe_call (ok_has T) (hr.mono (by decide)) rfl T.m_has T.F_has.kp (b_has T) .nil pass0 (pa_cons (pv 2) (pa_cons (pv 1) pa_nil)))) (pw_and1 (pt_val (pe_meth (pv 0) T.cl_Council T.mt_Council_carries (ok_Council_carries T) hr (b_Council_carries T) .nil pass0 (pa_cons (pv 2) pa_nil)))))))) (fun _ _ _ _ => (pv 2))) pa_nil)))), ?_⟩
  obtain ⟨⟨cx, t, e1, e2⟩, n1, n5, hl⟩ := id cc
  have h5 := two_le n5
  refine ⟨_, rfl, c, a.C_Council, cx, _, _, rfl, e1, T.cl_Council, T.n_Council_members, flds_m _ _, n, rfl, n5, fun r H1 nr s1 hr1 => ?_⟩
  refine ⟨r, rfl, ⟨_, SqL.of hr1⟩, ?_⟩
  refine lcB_list rfl (SqL.of hr1) (by rw [List.length_map, up_length]; omega) (fun x => match x with | .int g => hasB g m && at_ tb g | _ => false) (fun x => x) (fun x hx H2 s2 R z => ?_) (fun x hx _ H2 s2 R z => ⟨_, rfl, z H2 (Same.refl _)⟩) fun H2 D s2 hD => ?_
  · obtain ⟨g, hg, rfl⟩ := List.mem_map.mp hx
    obtain ⟨g0, g1⟩ := mem_up.mp hg
    refine ⟨_, rfl, _, rfl, _, _, rfl, m0, fun H3 s3 => ⟨_, rfl, ?_⟩⟩
    have s13 := s1.trans (s2.trans s3)
    show if hasB g m = true then _ else _
    cases hh : hasB g m with
    | false => exact iteF (by have := z H3 s3; simp only [hh, Bool.false_and] at this; exact this)
    | true => exact iteT ⟨_, rfl, c, cx, _, rfl, s13 _ _ e1, flds_no _ _ (by decide +kernel) (by decide +kernel), _, rfl, c, n, tb, g, rfl, cc.same s13, g0, g1, fun H4 s4 => ⟨_, rfl, by have := z H4 (s3.trans s4); simp only [hh, Bool.true_and] at this; exact this⟩⟩
  · rw [filt_map]
    refine ⟨D, _, rfl, .inl (SqL.of upd_same), ?_⟩
    rw [List.length_map]
    exact k _ (s1.trans (s2.trans (same_new hD _)))
end Wv

set_option Elab.async false
set_option linter.all false
set_option maxRecDepth 100000
set_option maxHeartbeats 4000000

namespace Wv
open PySem L2
seal L2.PSs L2.PS L2.PE L2.PA L2.PT L2.PI L2.PW L2.PG L2.PGs L2.PIfs
/-! ## lists of lists that a def fills -/
/-- rows of ints, the list of them at l -/
def RowsOf (H : Hp) (l : Addr) (rs : List Addr) (L : List (List Int)) : Prop := H l = some (.lst (rs.map V.ref)) ∧ rs.length = L.length ∧ ∀ (i : Nat) (r : Addr) (u : List Int), rs[i]? = some r → L[i]? = some u → H r = some (.lst (u.map V.int))
theorem RowsOf.same {H H' : Hp} {l : Addr} {rs : List Addr} {L : List (List Int)} (h : RowsOf H l rs L) (s : Same H H') : RowsOf H' l rs L := ⟨s _ _ h.1, h.2.1, fun i r u e1 e2 => s _ _ (h.2.2 i r u e1 e2)⟩
theorem row_ne {H : Hp} {f r : Addr} {rs : List Addr} {u : List Int} (hf : H f = some (.lst (rs.map V.ref))) (hr : H r = some (.lst (u.map V.int))) (hm : rs ≠ []) : r ≠ f := fun z => by
  rw [z, hf] at hr
  have e := HO.lst.inj (Option.some.inj hr)
  cases rs with
  | nil => exact hm rfl
  | cons a t =>
    cases u with
    | nil => cases e
    | cons b v => cases e
theorem RowsOf.push {H : Hp} {f q : Addr} {rs : List Addr} {L : List (List Int)} {u : List Int} (h : RowsOf H f rs L) (hq : H q = some (.lst (u.map V.int))) (nqf : q ≠ f) : RowsOf (upd H f (.lst (rs.map V.ref ++ [.ref q]))) f (rs ++ [q]) (L ++ [u]) := by
  obtain ⟨h1, h2, h3⟩ := h
  refine ⟨by rw [upd_same, List.map_append]; rfl, by rw [List.length_append, List.length_append, h2]; rfl, fun i r v e1 e2 => ?_⟩
  by_cases hi : i < rs.length
  · rw [List.getElem?_append_left hi] at e1
    rw [List.getElem?_append_left (by omega)] at e2
    have hr := h3 i r v e1 e2
    have hm : rs ≠ [] := fun z => by rw [z] at hi; exact absurd hi (Nat.not_lt_zero _)
    rw [upd_ne (row_ne h1 hr hm)]
    exact hr
  · rw [List.getElem?_append_right (by omega)] at e1 e2
    rw [← h2] at e2
    have hi0 : i - rs.length = 0 := by
      cases z : i - rs.length with
      | zero => rfl
      | succ k => rw [z] at e1; cases e1
    rw [hi0] at e1 e2
    cases e1
    cases e2
    rw [upd_ne nqf]
    exact hq
theorem same_own {H H' : Hp} {f : Addr} {o : HO} (h : Same H H') (nf : H f = none) : Same H (upd H' f o) := fun b u e => by rw [upd_ne (ne_of_none e nf)]; exact h b u e
theorem cut_from (xs : List V) {k : Nat} (h : k ≤ xs.length) {i : Int} (hi : i = (k : Int)) : cutV xs (some i) none = xs.drop k := by
  subst hi
  unfold cutV
  have h1 : ¬ ((k : Int) < 0) := by omega
  simp only [HT.sIx, h1, if_false, Int.toNat_natCast, Nat.min_eq_left h]
  rw [List.take_of_length_le (by rw [List.length_drop]; omega)]
/-! ## pairs -/
abbrev rowP (c : Int × Int) : List Int := [c.1, c.2]
def sp_pairs : Sp := fun vs H Q _ => ∃ (l : Addr) (gs : List Int), vs = [.ref l] ∧ H l = some (.lst (gs.map V.int)) ∧ gs.length ≤ 32 ∧ ∀ r rs H', H r = none → Same H H' → RowsOf H' r rs ((pairsB gs).map rowP) → Q (.ref r) H'
theorem pairs_len : ∀ gs : List Int, (pairsB gs).length ≤ gs.length * gs.length
  | [] => Nat.le_refl _
  | x :: r => by
    show (r.map (fun y => (x, y)) ++ pairsB r).length ≤ (r.length + 1) * (r.length + 1)
    have := pairs_len r
    rw [List.length_append, List.length_map, Nat.succ_mul, Nat.mul_succ]
    omega
theorem ok_pairs {P : Program} {w : World} {K : PySem.W.Frag} {mg : Str → Option Value} {base : Heap} {a : Adr} (T : Txt K mg a) : FnOk P w K mg base CX0 1 a.a_pairs a.d_pairs ["groups"] sp_pairs := by
  refine T.F_pairs.ok sc_pairs (fun vs H Q E h => ?_) (fun cdv A outer s H vs Q E hr h => ?_)
  · obtain ⟨l, gs, rfl, _⟩ := h; rfl
  obtain ⟨l, gs, rfl, hl, hz, k⟩ := h
  refine ⟨_, (pss_cons (ps_set (i := 1) sc_pairs.nd rfl (by first | exact Or.inl rfl | exact Or.inr rfl) (pe_lst pa_nil))
      (pss_cons (ps_for PassesOwn.never rfl (pi_enum rfl T.z_enumerate (pa_cons (pv 0) pa_nil)) (pg_tupK K (n := 2) rfl (pgs_cons (pg_name (i := 2) sc_pairs.nd rfl (by first | exact Or.inl rfl | exact Or.inr rfl)) (pgs_cons (pg_name (i := 3) sc_pairs.nd rfl (by first | exact Or.inl rfl | exact Or.inr rfl)) pgs_nil))) (pss_one (ps_for PassesOwn.never rfl (pi_listK K (pe_slice (sl_listK K) (pv 0) (po_some (pe_op op_add (pv 2) pe_int)) po_none)) (pg_name (i := 4) sc_pairs.nd rfl (by first | exact Or.inl rfl | exact Or.inr rfl)) (pss_one (ps_expr (pe_bm PySem.F.plainAttrs_list PySem.F.slot_list_append PySem.F.type_list_append mt_append (pv 1) (pa_cons (pe_lst (pa_cons (pv 3) (pa_cons (pv 4) pa_nil))) pa_nil)))))))
      (pss_one (ps_ret (pv 1))))), ?_⟩
  have big : ∀ ps : List (Int × Int), ∀ z, ps ++ z = pairsB gs → ps.length ≤ 1024 := fun ps z e => by
    have h1 := pairs_len gs
    rw [← e, List.length_append] at h1
    have h2 : gs.length * gs.length ≤ 32 * 32 := Nat.mul_le_mul hz hz
    omega
  refine ⟨(by show 0 ≤ sizeLine; decide), fun f nf => ?_⟩
  have s0 : Same H (upd H f (.lst [])) := same_new nf _
  have hf0 : RowsOf (upd H f (.lst [])) f [] ([].map rowP) := ⟨upd_same, rfl, fun i r u e _ => by cases e⟩
  generalize upd H f (.lst []) = H0 at s0 hf0
  refine ⟨_, rfl, l, _, rfl, SqL.of (s0 _ _ hl), ?_⟩
  refine for_enum (xs := gs.map V.int) (fun i σ' H' => ∃ x y z : Option V, ∃ (rs : List Addr) (ps : List (Int × Int)), σ' = [some (.ref l), some (.ref f), x, y, z] ∧ Same H H' ∧ RowsOf H' f rs (ps.map rowP) ∧ ps ++ pairsB (gs.drop i) = pairsB gs) ?_ ?_ ?_ ?_
  · exact ⟨none, none, none, [], [], rfl, s0, hf0, rfl⟩
  · rintro i σ' H' _ ⟨x, y, z, rs, ps, rfl, hs, _⟩
    exact SqL.of (hs _ _ hl)
  · rintro i v σ' H' p hx ⟨x, y, z, rs, ps, rfl, hs, hR, he⟩ np
    rw [List.getElem?_map] at hx
    obtain ⟨one, ho, rfl⟩ := Option.map_eq_some_iff.mp hx
    have hi : i < gs.length := (List.getElem?_eq_some_iff.mp ho).1
    have ed : gs.drop i = one :: gs.drop (i + 1) := by
      rw [List.drop_eq_getElem_cons hi]
      rw [List.getElem?_eq_getElem hi] at ho
      rw [Option.some.inj ho]
    have s1 : Same H' (upd H' p (.tup [.int (i : Nat), .int one])) := same_new np _
    have hp1 : upd H' p (.tup [.int (i : Nat), .int one]) p = some (.tup [.int (i : Nat), .int one]) := upd_same
    generalize upd H' p (.tup [.int (i : Nat), .int one]) = H1 at s1 hp1
    refine ⟨p, _, rfl, SqT.of hp1, rfl, _, _, rfl, _, _, rfl, rfl, ?_⟩
    have hs1 := hs.trans s1
    refine ⟨_, rfl, _, rfl, _, _, rfl, rfl, _, rfl, l, _, rfl, SqL.of (hs1 _ _ hl), fun q nq => ?_⟩
    rw [cut_from (gs.map V.int) (k := i + 1) (by rw [List.length_map]; omega) (by omega), ← List.map_drop]
    have s2 : Same H1 (upd H1 q (.lst ((gs.drop (i + 1)).map V.int))) := same_new nq _
    have hq2 : upd H1 q (.lst ((gs.drop (i + 1)).map V.int)) q = some (.lst ((gs.drop (i + 1)).map V.int)) := upd_same
    generalize upd H1 q (.lst ((gs.drop (i + 1)).map V.int)) = H2 at s2 hq2
    have hs2 := hs1.trans s2
    have hR2 := (hR.same s1).same s2
    have nqf : q ≠ f := fun z => by
      have := hR.same s1
      rw [z, this.1] at nq
      cases nq
    refine ⟨q, rfl, ⟨_, SqL.of hq2⟩, ?_⟩
    refine for_list (xs := (gs.drop (i + 1)).map V.int) (fun j σ' H' => ∃ (z : Option V) (rs : List Addr), σ' = [some (.ref l), some (.ref f), some (.int (i : Nat)), some (.int one), z] ∧ Same H H' ∧ H' q = some (.lst ((gs.drop (i + 1)).map V.int)) ∧ RowsOf H' f rs ((ps ++ ((gs.drop (i + 1)).take j).map fun y => (one, y)).map rowP)) ?_ ?_ ?_ ?_
    · exact ⟨z, rs, rfl, hs2, hq2, by rw [List.take_zero, List.map_nil, List.append_nil]; exact hR2⟩
    · rintro j σ' H' _ ⟨z, rs, rfl, _, h, _⟩
      exact SqL.of h
    · rintro j v σ' H3 hx ⟨z, rs, rfl, hs3, hq3, hR3⟩
      rw [List.getElem?_map] at hx
      obtain ⟨oth, ho2, rfl⟩ := Option.map_eq_some_iff.mp hx
      have hR3a := hR3
      obtain ⟨h1, h2, h3⟩ := hR3a
      have hpre : (ps ++ ((gs.drop (i + 1)).take j).map fun y => (one, y)).length ≤ 1024 := big _ (((gs.drop (i + 1)).drop j).map (fun y => (one, y)) ++ pairsB (gs.drop (i + 1))) (by
        rw [← he, ed]
        show _ = ps ++ ((gs.drop (i + 1)).map (fun y => (one, y)) ++ pairsB (gs.drop (i + 1)))
        rw [List.append_assoc, ← List.append_assoc (List.map _ _) (List.map _ _), ← List.map_append, List.take_append_drop])
      refine ⟨_, rfl, .inl ⟨rfl, _, SqL.of h1⟩, _, rfl, _, rfl, (by show 2 ≤ sizeLine; decide), fun t nt => ?_⟩
      have s4 : Same H3 (upd H3 t (.lst [.int one, .int oth])) := same_new nt _
      have ht4 : upd H3 t (.lst [.int one, .int oth]) t = some (.lst (([one, oth] : List Int).map V.int)) := upd_same
      generalize upd H3 t (.lst [.int one, .int oth]) = H4 at s4 ht4
      have ntf : t ≠ f := fun z => by rw [z, h1] at nt; cases nt
      refine ⟨f, _, _, rfl, rfl, s4 _ _ h1, ?_, ?_⟩
      · rw [List.length_map, h2, List.length_map]
        exact Nat.lt_of_le_of_lt hpre (by decide)
      refine ⟨_, rs ++ [t], rfl, same_own (hs3.trans s4) nf, ?_, ?_⟩
      · rw [upd_ne nqf]
        exact s4 _ _ hq3
      · have e : ((gs.drop (i + 1)).take (j + 1)).map (fun y => (one, y)) = ((gs.drop (i + 1)).take j).map (fun y => (one, y)) ++ [(one, oth)] := by
          rw [List.take_add_one, ho2, List.map_append]
          rfl
        rw [e, ← List.append_assoc, List.map_append]
        exact (hR3.same s4).push ht4 ntf
    · rintro σ' H3 ⟨z, rs, rfl, hs3, _, hR3⟩
      rw [List.length_map, List.take_length] at hR3
      refine ⟨_, _, _, rs, _, rfl, hs3, hR3, ?_⟩
      rw [← he, ed, List.append_assoc]
      rfl
  · rintro σ' H3 ⟨x, y, z, rs, ps, rfl, hs3, hR3, he⟩
    rw [List.length_map, List.drop_length] at he
    have e : ps = pairsB gs := by
      rw [← he]
      show ps = ps ++ []
      rw [List.append_nil]
    rw [e] at hR3
    exact ⟨_, rfl, k f rs _ nf hs3 hR3⟩
end Wv

set_option Elab.async false
set_option linter.all false
set_option maxRecDepth 100000
set_option maxHeartbeats 4000000

namespace Wv
open PySem L2
seal L2.PSs L2.PS L2.PE L2.PA L2.PT L2.PI L2.PW L2.PG L2.PGs L2.PIfs
theorem great_len {f : Int → Int → Int} {n : Nat} (hn : n ≤ 5) {tb : List Bool} : (greatBy f n tb).length ≤ 32 := Nat.le_trans (filt_len (Nat.le_refl _)) (two_le hn)
theorem least_len {f : Int → Int → Int} {n : Nat} (hn : n ≤ 5) {tb : List Bool} : (leastBy f n tb).length ≤ 32 := Nat.le_trans (filt_len (Nat.le_refl _)) (two_le hn)
theorem mem_take_succ {α : Type} {l : List α} {i : Nat} {x y : α} (hx : l[i]? = some x) (h : y ∈ l.take (i + 1)) : y ∈ l.take i ∨ y = x := by
  rw [List.take_add_one, hx] at h
  rcases List.mem_append.mp h with h | h
  · exact .inl h
  · exact .inr (List.mem_singleton.mp h)
def sp_trade_of (C D : Addr) : Sp := fun vs H Q _ => ∃ (c : Addr) (n : Nat) (tb : List Bool), vs = [.ref c] ∧ CAt C H c n tb ∧
  (∀ (r l m : Addr) (cc ff : Int × Int) H', H r = none → H l = none → H m = none → l ≠ m → Same H H' → TAt D H' r l m (rowP cc) (rowP ff) → cc ∈ pairsB (leastI n tb) → ff ∈ pairsB (greatI n tb) → outdB ff cc = true → Q (.ref r) H') ∧
  ((∀ cc ∈ pairsB (leastI n tb), ∀ ff ∈ pairsB (greatI n tb), outdB ff cc = false) → ∀ H', Same H H' → Q .non H')
theorem ok_trade_of {P : Program} {w : World} {K : PySem.W.Frag} {mg : Str → Option Value} {base : Heap} {a : Adr} (T : Txt K mg a) : FnOk P w K mg base CX0 6 a.a_trade_of a.d_trade_of ["council"] (sp_trade_of a.C_Council a.C_Trade) := by
  refine T.F_trade_of.ok sc_trade_of (fun vs H Q E h => ?_) (fun cdv A outer s H vs Q E hr h => ?_)
  · obtain ⟨c, n, tb, rfl, _⟩ := h; rfl
  obtain ⟨c, n, tb, rfl, cc, k1, k2⟩ := h
  refine ⟨_, (pss_cons (ps_set (i := 1) sc_trade_of.nd rfl (by first | exact Or.inl rfl | exact Or.inr rfl) (pe_call (ok_pairs T) (hr.mono (by decide)) rfl T.m_pairs T.F_pairs.kp (b_pairs T) .nil pass0 (pa_cons (pe_meth0 (pv 0) T.cl_Council T.mt_Council_greatest (ok_Council_greatest T) hr (b_Council_greatest T) .nil pass0) pa_nil)))
      (pss_cons (ps_for PassesOwn.never rfl (pi_listK K (pe_call (ok_pairs T) (hr.mono (by decide)) rfl T.m_pairs T.F_pairs.kp (b_pairs T) .nil pass0 (pa_cons (pe_meth0 (pv 0) T.cl_Council T.mt_Council_least (ok_Council_least T) hr (b_Council_least T) .nil pass0) pa_nil))) (pg_name (i := 2) sc_trade_of.nd rfl (by first | exact Or.inl rfl | exact Or.inr rfl)) (pss_one (ps_for PassesOwn.never rfl (pi_listK K (pv 1)) (pg_name (i := 3) sc_trade_of.nd rfl (by first | exact Or.inl rfl | exact Or.inr rfl)) (pss_one (ps_if (pt_val (pe_call (ok_outdoes T) (hr.mono (by decide)) rfl T.m_outdoes T.F_outdoes.kp (b_outdoes T) .nil pass0 (pa_cons (pv 3) (pa_cons (pv 2) pa_nil)))) (pss_one (ps_ret (pe_make T.mk_Trade (ok_Trade_init T) (hr.mono (by decide)) rfl T.m_Trade (b_Trade_init T) .nil pass0 (pa_cons (pv 2) (pa_cons (pv 3) pa_nil))))) pss_nil)))))
      (pss_one (ps_ret pe_non)))), ?_⟩
  obtain ⟨⟨cx, t, e1, e2⟩, n1, n5, hl⟩ := id cc
  have nog : ∀ {H' : Hp}, (flds (n : Int) t).lookup ("greatest" : Str) = none := flds_no _ _ (by decide +kernel) (by decide +kernel)
  refine ⟨_, rfl, c, cx, _, rfl, e1, flds_no _ _ (by decide +kernel) (by decide +kernel), c, n, tb, rfl, cc, fun r1 H1 nr1 s1 hr1 => ?_⟩
  refine ⟨r1, _, rfl, hr1, great_len n5, fun f rs H2 nf s2 hR2 => ?_⟩
  have s02 := s1.trans s2
  refine ⟨_, rfl, c, cx, _, rfl, s02 _ _ e1, flds_no _ _ (by decide +kernel) (by decide +kernel), c, n, tb, rfl, cc.same s02, fun r3 H3 nr3 s3 hr3 => ?_⟩
  refine ⟨r3, _, rfl, hr3, least_len n5, fun g qs H4 ng s4 hR4 => ?_⟩
  have s24 := s3.trans s4
  have s04 := s02.trans s24
  have hF4 := hR2.same s24
  refine ⟨g, rfl, ⟨_, SqL.of hR4.1⟩, ?_⟩
  refine for_list (xs := qs.map V.ref) (fun i σ' H' => ∃ x y : Option V, σ' = [some (.ref c), some (.ref f), x, y] ∧ Same H4 H' ∧ ∀ cc ∈ (pairsB (leastI n tb)).take i, ∀ ff ∈ pairsB (greatI n tb), outdB ff cc = false) ?_ ?_ ?_ ?_
  · exact ⟨none, none, rfl, Same.refl _, fun cc h => by rw [List.take_zero] at h; cases h⟩
  · rintro i σ' H' _ ⟨x, y, rfl, hs, _⟩
    exact SqL.of (hs _ _ hR4.1)
  · rintro i v σ' H5 hx ⟨x, y, rfl, hs5, ha⟩
    rw [List.getElem?_map] at hx
    obtain ⟨q, hq, rfl⟩ := Option.map_eq_some_iff.mp hx
    have hi : i < (pairsB (leastI n tb)).length := by
      have h1 := hR4.2.1
      rw [List.length_map] at h1
      rw [← h1]
      exact (List.getElem?_eq_some_iff.mp hq).1
    obtain ⟨ca, hca⟩ : ∃ ca, (pairsB (leastI n tb))[i]? = some ca := ⟨_, List.getElem?_eq_getElem hi⟩
    have hq4 : H4 q = some (.lst ((rowP ca).map V.int)) := hR4.2.2 i q (rowP ca) hq (by rw [List.getElem?_map, hca]; rfl)
    have hF5 := hF4.same hs5
    refine ⟨_, rfl, f, rfl, ⟨_, SqL.of hF5.1⟩, ?_⟩
    refine for_list (xs := rs.map V.ref) (fun j σ' H' => ∃ y : Option V, σ' = [some (.ref c), some (.ref f), some (.ref q), y] ∧ Same H4 H' ∧ ∀ ff ∈ (pairsB (greatI n tb)).take j, outdB ff ca = false) ?_ ?_ ?_ ?_
    · exact ⟨y, rfl, hs5, fun ff h => by rw [List.take_zero] at h; cases h⟩
    · rintro j σ' H' _ ⟨y, rfl, hs, _⟩
      exact SqL.of (hs _ _ hF4.1)
    · rintro j v σ' H6 hx ⟨y, rfl, hs6, hb⟩
      rw [List.getElem?_map] at hx
      obtain ⟨r, hr', rfl⟩ := Option.map_eq_some_iff.mp hx
      have hj : j < (pairsB (greatI n tb)).length := by
        have h1 := hF4.2.1
        rw [List.length_map] at h1
        rw [← h1]
        exact (List.getElem?_eq_some_iff.mp hr').1
      obtain ⟨fa, hfa⟩ : ∃ fa, (pairsB (greatI n tb))[j]? = some fa := ⟨_, List.getElem?_eq_getElem hj⟩
      have hr4 : H4 r = some (.lst ((rowP fa).map V.int)) := hF4.2.2 j r (rowP fa) hr' (by rw [List.getElem?_map, hfa]; rfl)
      refine ⟨_, rfl, _, rfl, r, q, fa, ca, rfl, hs6 _ _ hr4, hs6 _ _ hq4, fun H7 s7 => ⟨_, rfl, ?_⟩⟩
      have hs7 := hs6.trans s7
      cases ho : outdB fa ca with
      | true =>
        refine iteT ?_
        refine ⟨_, rfl, _, rfl, fun x dx nx ndx nex => ?_⟩
        have s8 : Same H7 (upd (upd H7 dx (.own x)) x (.ins a.C_Trade dx [])) := (same_new ndx _).trans (same_new (by rw [upd_ne (Ne.symm nex)]; exact nx) _)
        refine ⟨x, dx, q, r, rowP ca, rowP fa, rfl, upd_same, s8 _ _ (hs7 _ _ hq4), s8 _ _ (hs7 _ _ hr4), fun l m H9 nl nm nlm hT keep => ⟨rfl, ?_⟩⟩
        have s07 := s04.trans hs7
        have s08 := s07.trans s8
        have nx0 : H x = none := s07.free nx
        refine k1 x l m ca fa H9 nx0 (s08.free nl) (s08.free nm) nlm (fun b o hb => keep b o (s08 _ _ hb) (ne_of_none hb nx0)) hT (List.mem_of_getElem? hca) (List.mem_of_getElem? hfa) ho
      | false =>
        refine iteF ⟨_, rfl, hs7, fun ff h => ?_⟩
        rcases mem_take_succ hfa h with h | h
        · exact hb ff h
        · rw [h]; exact ho
    · rintro σ' H6 ⟨y, rfl, hs6, hb⟩
      refine ⟨_, _, rfl, hs6, fun c2 h => ?_⟩
      rcases mem_take_succ hca h with h | h
      · exact ha c2 h
      · rw [h]
        have e : rs.length = (pairsB (greatI n tb)).length := by have h1 := hF4.2.1; rw [List.length_map] at h1; exact h1
        rw [List.length_map, e, List.take_length] at hb
        exact hb
  · rintro σ' H6 ⟨x, y, rfl, hs6, ha⟩
    have e : qs.length = (pairsB (leastI n tb)).length := by have h1 := hR4.2.1; rw [List.length_map] at h1; exact h1
    rw [List.length_map, e, List.take_length] at ha
    exact k2 ha _ (s04.trans hs6)
/-! ## falling lists: a def that calls itself -/
def sp_falling (n : Nat) : Sp := fun vs H Q _ => ∃ most : Nat, vs = [.int n, .int most] ∧ most ≤ 5 ∧ ∀ r rs H', H r = none → (∀ q ∈ rs, H q = none) → Same H H' → RowsOf H' r rs (fallB n most) → Q (.ref r) H'
theorem fall_few : ∀ n : Fin 6, ∀ most : Fin 6, (fallB n.val most.val).length ≤ 1000 := by decide +kernel
theorem ok_falling {P : Program} {w : World} {K : PySem.W.Frag} {mg : Str → Option Value} {base : Heap} {a : Adr} (T : Txt K mg a) : ∀ n : Nat, n ≤ 5 → FnOk P w K mg base CX0 (n + 1) a.a_falling_lists a.d_falling_lists ["length", "most"] (sp_falling n) := by
  have step : ∀ (n : Nat) (sp : Sp), n ≤ 5 → (∀ m, n = m + 1 → sp = sp_falling m) → FnOk P w K mg base CX0 n a.a_falling_lists a.d_falling_lists ["length", "most"] sp → FnOk P w K mg base CX0 (n + 1) a.a_falling_lists a.d_falling_lists ["length", "most"] (sp_falling n) := by
    intro n sp n5 hsp ih
    refine T.F_falling_lists.ok sc_falling_lists (fun vs H Q E h => ?_) (fun cdv A outer s H vs Q E hr h => ?_)
    · obtain ⟨most, rfl, _⟩ := h; rfl
    obtain ⟨most, rfl, m5, k⟩ := h
    refine ⟨_, (pss_cons (ps_if (pt_cmpR op_eq (pv 0) pe_int (nomark _)) (pss_one (ps_ret (pe_lst (pa_cons (pe_lst pa_nil) pa_nil)))) pss_nil)
      (pss_cons (ps_set (i := 2) sc_falling_lists.nd rfl (by first | exact Or.inl rfl | exact Or.inr rfl) (pe_lst pa_nil))
      (pss_cons (ps_for PassesOwn.never rfl (pi_range1 rfl T.z_range (pa_cons (pe_op op_add (pv 1) pe_int) pa_nil)) (pg_name (i := 3) sc_falling_lists.nd rfl (by first | exact Or.inl rfl | exact Or.inr rfl)) (pss_one (ps_for PassesOwn.never rfl (pi_listK K (pe_call ih hr rfl T.m_falling_lists T.F_falling_lists.kp (b_falling_lists T) .nil pass0 (pa_cons (pe_op op_sub (pv 0) pe_int) (pa_cons (pv 3) pa_nil)))) (pg_name (i := 4) sc_falling_lists.nd rfl (by first | exact Or.inl rfl | exact Or.inr rfl)) (pss_one (ps_expr (pe_bm PySem.F.plainAttrs_list PySem.F.slot_list_append PySem.F.type_list_append mt_append (pv 2) (pa_cons (pe_op op_cat (pe_lst (pa_cons (pv 3) pa_nil)) (pv 4)) pa_nil)))))))
      (pss_one (ps_ret (pv 2)))))), ?_⟩
    refine ⟨_, rfl, rfl, _, rfl, ?_⟩
    rw [dec_int]
    cases n with
    | zero =>
      refine ite_t rfl ?_
      refine ⟨(by show 0 ≤ sizeLine; decide), fun e ne => ⟨(by show 1 ≤ sizeLine; decide), fun r nr => ?_⟩⟩
      have he : upd H e (.lst []) e = some (.lst (([] : List Int).map V.int)) := upd_same
      have ner : e ≠ r := fun z => by rw [← z, upd_same] at nr; cases nr
      refine k r [e] _ (by rw [upd_ne (Ne.symm ner)] at nr; exact nr) (fun q hq => by rw [List.mem_singleton.mp hq]; exact ne) ((same_new ne _).trans (same_new nr _)) ⟨upd_same, rfl, fun i x u h1 h2 => ?_⟩
      match i with
      | 0 =>
        cases h1
        cases h2
        rw [upd_ne ner]
        exact he
      | i + 1 => cases h1
    | succ n =>
      have e := hsp n rfl
      subst e
      refine ite_f (by show ((((n + 1 : Nat) : Int)) == 0) = false; exact beq_eq_false_iff_ne.mpr (by omega)) ?_
      refine ⟨(by show 0 ≤ sizeLine; decide), fun f nf => ?_⟩
      have s0 : Same H (upd H f (.lst [])) := same_new nf _
      have hf0 : RowsOf (upd H f (.lst [])) f [] [] := ⟨upd_same, rfl, fun i r u e _ => by cases e⟩
      generalize upd H f (.lst []) = H0 at s0 hf0
      refine ⟨_, rfl, _, _, rfl, rfl, ((most + 1 : Nat) : Int), rfl, by omega, by omega, ?_⟩
      have bound : ∀ {L Z : List (List Int)}, L ++ Z = fallB (n + 1) most → L.length ≤ 1000 := fun {L Z} e => by
        have h1 := fall_few ⟨n + 1, by omega⟩ ⟨most, by omega⟩
        simp only [← e, List.length_append] at h1
        omega
      refine for_range (n := most + 1) (fun i σ' H' => ∃ x y : Option V, ∃ rs : List Addr, σ' = [some (.int ((n + 1 : Nat) : Int)), some (.int most), some (.ref f), x, y] ∧ Same H H' ∧ (∀ q ∈ rs, H q = none) ∧ RowsOf H' f rs ((List.range i).flatMap fun f => (fallB n f).map fun r => (f : Int) :: r)) ?_ ?_ ?_
      · exact ⟨none, none, [], rfl, s0, (fun q h => nomatch h), hf0⟩
      · rintro i σ' H1 hi ⟨x, y, rs, rfl, hs1, hn1, hR1⟩
        refine ⟨_, rfl, _, _, rfl, rfl, _, rfl, i, (by show [V.int (((n + 1 : Nat) : Int) - 1), V.int (0 + (i : Int))] = _; rw [show (((n + 1 : Nat) : Int)) - 1 = (n : Int) by omega, Int.zero_add]), by omega, fun g qs H2 ng nqs s2 hG2 => ?_⟩
        refine ⟨g, rfl, ⟨_, SqL.of hG2.1⟩, ?_⟩
        have split : ∀ j, ∃ Z, ((List.range i).flatMap (fun f => (fallB n f).map fun r => (f : Int) :: r) ++ ((fallB n i).take j).map fun r => (i : Int) :: r) ++ Z = fallB (n + 1) most := fun j => by
          refine ⟨((fallB n i).drop j).map (fun r => (i : Int) :: r) ++ ((List.range (most - i)).map fun d => i + 1 + d).flatMap fun f => (fallB n f).map fun r => (f : Int) :: r, ?_⟩
          show _ = (List.range (most + 1)).flatMap fun f => (fallB n f).map fun r => (f : Int) :: r
          have e1 : List.range (most + 1) = List.range i ++ i :: (List.range (most - i)).map fun d => i + 1 + d := by
            have h1 : most + 1 = i + (1 + (most - i)) := by omega
            rw [h1, List.range_add, Nat.add_comm 1, List.range_succ_eq_map, List.map_cons, List.map_map]
            refine congrArg (List.range i ++ ·) ?_
            rw [Nat.add_zero, show most - i = i + ((most - i) + 1) - (i + 1) by omega]
            refine congrArg (i :: ·) (List.map_congr_left fun d _ => ?_)
            show i + (d + 1) = i + 1 + d
            omega
          rw [e1, List.flatMap_append, List.flatMap_cons, List.append_assoc, ← List.append_assoc (List.map _ _) (List.map _ _), ← List.map_append, List.take_append_drop]
        have nfg : f ≠ g := fun z => by rw [z] at hR1; rw [hR1.1] at ng; cases ng
        refine for_list (xs := qs.map V.ref) (fun j σ' H' => ∃ (y : Option V) (rs : List Addr), σ' = [some (.int ((n + 1 : Nat) : Int)), some (.int most), some (.ref f), some (.int (0 + (i : Int))), y] ∧ Same H H' ∧ (∀ b o, H2 b = some o → b ≠ f → H' b = some o) ∧ (∀ q ∈ rs, H q = none) ∧ RowsOf H' f rs ((List.range i).flatMap (fun f => (fallB n f).map fun r => (f : Int) :: r) ++ ((fallB n i).take j).map fun r => (i : Int) :: r)) ?_ ?_ ?_ ?_
        · exact ⟨y, rs, rfl, hs1.trans s2, fun b o h _ => h, hn1, by rw [List.take_zero, List.map_nil, List.append_nil]; exact hR1.same s2⟩
        · rintro j σ' H' _ ⟨y, rs, rfl, _, hk, _⟩
          exact SqL.of (hk _ _ hG2.1 (Ne.symm nfg))
        · rintro j v σ' H3 hx ⟨y, rs, rfl, hs3, hk3, hn3, hR3⟩
          rw [List.getElem?_map] at hx
          obtain ⟨q, hq, rfl⟩ := Option.map_eq_some_iff.mp hx
          have hj : j < (fallB n i).length := by rw [← hG2.2.1]; exact (List.getElem?_eq_some_iff.mp hq).1
          obtain ⟨u, hu⟩ : ∃ u, (fallB n i)[j]? = some u := ⟨_, List.getElem?_eq_getElem hj⟩
          have nq1 : H1 q = none := nqs q (List.mem_of_getElem? hq)
          have nqf : q ≠ f := fun z => by rw [z, hR1.1] at nq1; cases nq1
          have hq3 : H3 q = some (.lst (u.map V.int)) := hk3 _ _ (hG2.2.2 j q u hq hu) nqf
          have hlu : u.length ≤ 1000 := by
            rw [(fall_of n i (List.mem_of_getElem? hu)).1]
            omega
          obtain ⟨h1, h2, h3⟩ := id hR3
          refine ⟨_, rfl, .inl ⟨rfl, _, SqL.of h1⟩, _, rfl, (by show 1 ≤ sizeLine; decide), fun t nt => ?_⟩
          have s4 : Same H3 (upd H3 t (.lst [.int (0 + (i : Int))])) := same_new nt _
          have ht4 : upd H3 t (.lst [.int (0 + (i : Int))]) t = some (.lst [.int (0 + (i : Int))]) := upd_same
          generalize upd H3 t (.lst [.int (0 + (i : Int))]) = H4 at s4 ht4
          refine ⟨_, rfl, t, q, _, _, rfl, rfl, ht4, s4 _ _ hq3, (by rw [List.length_map]; show 1 + u.length ≤ sizeLine; exact Nat.le_of_lt (Nat.lt_of_le_of_lt (Nat.add_le_add_left hlu 1) (by decide))), fun z nz => ?_⟩
          have s5 : Same H4 (upd H4 z (.lst ([V.int (0 + (i : Int))] ++ u.map V.int))) := same_new nz _
          have hz5 : upd H4 z (.lst ([V.int (0 + (i : Int))] ++ u.map V.int)) z = some (.lst (((i : Int) :: u).map V.int)) := by
            rw [upd_same, Int.zero_add]
            rfl
          generalize upd H4 z (.lst ([V.int (0 + (i : Int))] ++ u.map V.int)) = H5 at s5 hz5
          have nzf : z ≠ f := fun y => by rw [y, s4 _ _ h1] at nz; cases nz
          have s35 := s4.trans s5
          obtain ⟨Z, eZ⟩ := split j
          refine ⟨f, _, _, rfl, rfl, s35 _ _ h1, (by rw [List.length_map, h2]; exact Nat.lt_of_le_of_lt (bound eZ) (by decide)), ?_⟩
          refine ⟨_, rs ++ [z], rfl, same_own (hs3.trans s35) nf, fun b o hb nb => ?_, fun b hb => ?_, ?_⟩
          · rw [upd_ne nb]
            exact s35 _ _ (hk3 b o hb nb)
          · rcases List.mem_append.mp hb with hb | hb
            · exact hn3 b hb
            · rw [List.mem_singleton.mp hb]
              exact (hs3.trans s4).free nz
          · have e : ((fallB n i).take (j + 1)).map (fun r => (i : Int) :: r) = ((fallB n i).take j).map (fun r => (i : Int) :: r) ++ [(i : Int) :: u] := by
              rw [List.take_add_one, hu, List.map_append]
              rfl
            rw [e, ← List.append_assoc]
            exact (hR3.same s35).push hz5 nzf
        · rintro σ' H3 ⟨y, rs, rfl, hs3, _, hn3, hR3⟩
          rw [List.length_map, hG2.2.1, List.take_length] at hR3
          refine ⟨_, _, rs, rfl, hs3, hn3, ?_⟩
          rw [List.range_succ, List.flatMap_append, List.flatMap_singleton]
          exact hR3
      · rintro σ' H3 ⟨x, y, rs, rfl, hs3, hn3, hR3⟩
        exact ⟨_, rfl, k f rs _ nf hn3 hs3 hR3⟩
  intro n
  induction n with
  | zero => exact fun h => step 0 (fun _ _ _ _ => False) h (fun m e => by cases e) ⟨(fun _ _ _ _ h => h.elim), (fun _ _ _ _ _ _ _ _ _ _ _ _ _ h => h.elim)⟩
  | succ n ih => exact fun h => step (n + 1) (sp_falling n) h (fun m e => by rw [Nat.succ.inj e]) (ih (by omega))
def sp_falling_lists : Sp := fun vs H Q E => ∃ n : Nat, n ≤ 5 ∧ sp_falling n vs H Q E
theorem ok_falling_lists {P : Program} {w : World} {K : PySem.W.Frag} {mg : Str → Option Value} {base : Heap} {a : Adr} (T : Txt K mg a) : FnOk P w K mg base CX0 6 a.a_falling_lists a.d_falling_lists ["length", "most"] sp_falling_lists :=
  ⟨fun vs H Q E ⟨n, h5, h⟩ => (ok_falling (P := P) (w := w) (base := base) T n h5).len vs H Q E h, fun A outer s H args us vs Q E hr e0 hb hv ⟨n, h5, h⟩ => (ok_falling (P := P) (w := w) (base := base) T n h5).run A outer s H args us vs Q E (hr.mono (by omega)) e0 hb hv h⟩
/-! ## placed -/
def sp_placed : Sp := fun vs H Q _ => ∃ (lf lo : Addr) (f ord : List Int) (n : Nat), vs = [.ref lf, .ref lo] ∧ H lf = some (.lst (f.map V.int)) ∧ H lo = some (.lst (ord.map V.int)) ∧ ord.Perm (up n) ∧ n ≤ 5 ∧ f.length = n ∧ ∀ r H', H r = none → Same H H' → H' r = some (.lst ((placedB f ord).map V.int)) → Q (.ref r) H'
theorem ok_placed {P : Program} {w : World} {K : PySem.W.Frag} {mg : Str → Option Value} {base : Heap} {a : Adr} (T : Txt K mg a) : FnOk P w K mg base CX0 1 a.a_placed a.d_placed ["falling", "order"] sp_placed := by
  refine T.F_placed.ok sc_placed (fun vs H Q E h => ?_) (fun cdv A outer s H vs Q E hr h => ?_)
  · obtain ⟨lf, lo, f, ord, n, rfl, _⟩ := h; rfl
  obtain ⟨lf, lo, f, ord, n, rfl, hf, ho, hp, n5, hfl, k⟩ := h
  refine ⟨_, (pss_cons (ps_set (i := 2) sc_placed.nd rfl (by first | exact Or.inl rfl | exact Or.inr rfl) (pe_op op_rep (pe_lst (pa_cons pe_int pa_nil)) (pe_callB (call_lenK K) rfl T.z_len PySem.boot_len (pa_cons (pv 1) pa_nil))))
      (pss_cons (ps_for PassesOwn.never rfl (pi_enum rfl T.z_enumerate (pa_cons (pv 1) pa_nil)) (pg_tupK K (n := 2) rfl (pgs_cons (pg_name (i := 3) sc_placed.nd rfl (by first | exact Or.inl rfl | exact Or.inr rfl)) (pgs_cons (pg_name (i := 4) sc_placed.nd rfl (by first | exact Or.inl rfl | exact Or.inr rfl)) pgs_nil))) (pss_one (ps_asg (pe_ix (ix_listK K) (pv 0) (pv 3) (fun _ _ => rfl)) (pg_sub (pv 2) (pv 4) set_list))))
      (pss_one (ps_ret (pv 2))))), ?_⟩
  have hol : ord.length = n := by rw [hp.length_eq, up_length]
  refine ⟨(by show 1 ≤ sizeLine; decide), fun z nz => ?_⟩
  have s1 : Same H (upd H z (.lst [.int 0])) := same_new nz _
  have hz1 : upd H z (.lst [.int 0]) z = some (.lst [.int 0]) := upd_same
  generalize upd H z (.lst [.int 0]) = H1 at s1 hz1
  refine ⟨_, rfl, lo, _, rfl, .inl (SqL.of (s1 _ _ ho)), z, _, _, rfl, rfl, hz1, by omega, by rw [List.length_map]; omega, ?_, fun r nr => ?_⟩
  · rw [List.length_map, Int.toNat_natCast]
    show 1 * _ ≤ sizeLine
    rw [Nat.one_mul]
    exact Nat.le_of_lt (small1000 (by omega))
  have er : (List.replicate (((ord.map V.int).length : Nat) : Int).toNat [V.int 0]).flatten = (plc f ord 0).map V.int := by
    rw [List.length_map, Int.toNat_natCast]
    show _ = (List.replicate ord.length (0 : Int)).map V.int
    rw [List.map_replicate]
    induction ord.length with
    | zero => rfl
    | succ k ih => rw [List.replicate_succ, List.flatten_cons, ih, List.replicate_succ]; rfl
  rw [er]
  have s2 : Same H1 (upd H1 r (.lst ((plc f ord 0).map V.int))) := same_new nr _
  have hr2 : upd H1 r (.lst ((plc f ord 0).map V.int)) r = some (.lst ((plc f ord 0).map V.int)) := upd_same
  generalize upd H1 r (.lst ((plc f ord 0).map V.int)) = H2 at s2 hr2
  have nr0 : H r = none := s1.free nr
  refine ⟨_, rfl, lo, _, rfl, SqL.of (s2 _ _ (s1 _ _ ho)), ?_⟩
  refine for_enum (xs := ord.map V.int) (fun i σ' H' => ∃ x y : Option V, σ' = [some (.ref lf), some (.ref lo), some (.ref r), x, y] ∧ Same H H' ∧ i ≤ ord.length ∧ H' r = some (.lst ((plc f ord i).map V.int))) ?_ ?_ ?_ ?_
  · exact ⟨none, none, rfl, s1.trans s2, Nat.zero_le _, hr2⟩
  · rintro i σ' H' _ ⟨x, y, rfl, hs, _⟩
    exact SqL.of (hs _ _ ho)
  · rintro i v σ' H3 p hx ⟨x, y, rfl, hs3, _, hr3⟩ np
    rw [List.getElem?_map] at hx
    obtain ⟨m, hm, rfl⟩ := Option.map_eq_some_iff.mp hx
    have hi : i < ord.length := (List.getElem?_eq_some_iff.mp hm).1
    have s4 : Same H3 (upd H3 p (.tup [.int (i : Nat), .int m])) := same_new np _
    have hp4 : upd H3 p (.tup [.int (i : Nat), .int m]) p = some (.tup [.int (i : Nat), .int m]) := upd_same
    generalize upd H3 p (.tup [.int (i : Nat), .int m]) = H4 at s4 hp4
    refine ⟨p, _, rfl, SqT.of hp4, rfl, _, _, rfl, _, _, rfl, rfl, ?_⟩
    have hf4 := s4 _ _ (hs3 _ _ hf)
    have hfi : f[i]? = some (f.getD i 0) := by rw [List.getD_eq_getElem?_getD, List.getElem?_eq_getElem (by omega)]; rfl
    have hmi : ord.getD i 0 = m := by rw [List.getD_eq_getElem?_getD, hm]; rfl
    obtain ⟨m0, m1⟩ := mem_up.mp (hp.mem_iff.mp (List.mem_of_getElem? hm))
    refine ⟨_, rfl, _, rfl, lf, _, _, _, rfl, rfl, SqL.of hf4, atI_nat (j := i) (by rw [List.getElem?_map, hfi]; rfl), ?_⟩
    refine ⟨_, rfl, _, rfl, r, _, m, m.toNat, rfl, rfl, s4 _ _ hr3, ?_, ?_⟩
    · rw [List.length_map, plc_len, hol]
      unfold ixN
      rw [if_pos m0, if_pos m1]
    · refine ⟨_, _, rfl, same_own (hs3.trans s4) nr0, hi, ?_⟩
      rw [upd_same, ← List.map_set]
      show _ = some (HO.lst (((plc f ord i).set (ord.getD i 0).toNat (f.getD i 0)).map V.int))
      rw [hmi]
  · rintro σ' H3 ⟨x, y, rfl, hs3, _, hr3⟩
    rw [List.length_map] at hr3
    exact ⟨_, rfl, k r _ nr0 hs3 hr3⟩
end Wv

set_option Elab.async false
set_option linter.all false
set_option maxRecDepth 100000
set_option maxHeartbeats 4000000

namespace Wv
open PySem L2
seal L2.PSs L2.PS L2.PE L2.PA L2.PT L2.PI L2.PW L2.PG L2.PGs L2.PIfs
abbrev lamQ : Str := ("by_strength" : Str) ++ ".<locals>." ++ "<lambda>"
abbrev lamP : Pos := ⟨89, 46, 89, 86⟩
/-- the code table of the def that makes the lambda -/
abbrev LT (p : Addr) (H : Hp) : Prop := LamT p lamP lamQ H
def sp_by_strength (C P : Addr) : Sp := fun vs H Q _ => ∃ (c : Addr) (n : Nat) (tb : List Bool), vs = [.ref c] ∧ CAt C H c n tb ∧ LT P H ∧
  ∀ (ms : List Int) l H', H l = none → ms.Perm (up n) → ms.Pairwise (fun x y => stB n tb y ≤ stB n tb x) → SameT H H' → LT P H' → H' l = some (.lst (ms.map V.int)) → Q (.ref l) H'
theorem ok_by_strength {P : Program} {w : World} {K : PySem.W.Frag} {mg : Str → Option Value} {base : Heap} {a : Adr} (T : Txt K mg a) (B : LamB mg base a.c_lam a.p_lam) : FnOk P w K mg base CX0 8 a.a_by_strength a.d_by_strength ["council"] (sp_by_strength a.C_Council a.p_lam) := by
  refine T.F_by_strength.okL T.lam_code sc_by_strength (fun vs H Q E h => ?_) (fun A outer s H vs Q E hr h => ?_)
  · obtain ⟨c, n, tb, rfl, _⟩ := h; rfl
  obtain ⟨c, n, tb, rfl, cc, hT, k⟩ := h
  refine ⟨_, (pss_one (ps_ret (pe_sortk (k := 4) (iy := 0) B rfl rfl rfl T.z_sorted rfl (pa_cons (pe_callTy call_range1 rfl T.z_range PyProof.Rows.boot_range (pa_cons (pe_fldK K (pv 0) rfl) pa_nil)) pa_nil) rfl rfl ⟨rfl, rfl, rfl, rfl, rfl, by decide +kernel, by decide +kernel⟩ rfl rfl rfl hr (fun _ _ _ _ => rfl) (fun s1 H1 f1 d1 hr1 => (pe_call (ok_strength T) hr1 rfl T.m_strength T.F_strength.kp (b_strength T) .nil pass0 (pa_cons (pv 1) (pa_cons (pv 0) pa_nil))))))), ?_⟩
  obtain ⟨⟨cx, t, e1, e2⟩, n1, n5, hl⟩ := id cc
  refine ⟨_, rfl, c, a.C_Council, cx, _, _, rfl, e1, T.cl_Council, T.n_Council_members, flds_m _ _, _, rfl, fun p np => ?_⟩
  have s1 : Same H (upd H p (.rng 0 (n : Int))) := same_new np _
  have hp1 : upd H p (.rng 0 (n : Int)) p = some (.rng 0 (n : Int)) := upd_same
  generalize upd H p (.rng 0 (n : Int)) = H1 at s1 hp1
  refine ⟨p, n, .ref c, fun i => ((stB n tb (i : Int) : Nat) : Int), rfl, hp1, by omega, hT.same s1, rfl, fun i H2 hi sm => ?_, fun ms l H2 pm pw sm hT2 nl => ?_⟩
  · exact ⟨_, rfl, _, rfl, c, n, tb, _, rfl, (cc.same s1).t sm, by omega, fun H3 s3 => ⟨rfl, s3⟩⟩
  · have s2 := s1.t.trans sm
    have hu : ∀ x ∈ ms, ((x.toNat : Nat) : Int) = x := fun x hx => by
      obtain ⟨x0, _⟩ := mem_up.mp (show x ∈ up n from pm.mem_iff.mp hx)
      omega
    refine k ms l _ (s2.free nl) pm (pw.imp_of_mem fun {x y} hx hy h => ?_) (s2.trans (same_new nl _).t) (hT2.new nl) upd_same
    have h' : ((stB n tb ((y.toNat : Nat) : Int) : Nat) : Int) ≤ ((stB n tb ((x.toNat : Nat) : Int) : Nat) : Int) := h
    rw [hu x hx, hu y hy] at h'
    omega
/-! ## weights_of -/
theorem sum_in {k : Int} : ∀ {l : List Int}, (∀ x ∈ l, 0 ≤ x ∧ x ≤ k) → 0 ≤ l.sum ∧ l.sum ≤ k * l.length
  | [], _ => by simp
  | x :: r, h => by
    have h1 := h x List.mem_cons_self
    have h2 := sum_in fun y hy => h y (List.mem_cons_of_mem _ hy)
    rw [List.sum_cons, List.length_cons]
    have e : k * ((r.length + 1 : Nat) : Int) = k * (r.length : Int) + k := by
      rw [Int.natCast_add, Int.mul_add]; simp
    rw [e]
    omega
theorem wt_in {ws : List Int} (hl : ws.length ≤ 5) (h : ∀ w ∈ ws, 0 ≤ w ∧ w ≤ 5) (g : Int) : 0 ≤ wtOf ws g ∧ wtOf ws g ≤ 25 := by
  unfold wtOf
  have h1 : ∀ x ∈ ((up ws.length).filter (hasB g)).map (fun k => ws.getD k.toNat 0), 0 ≤ x ∧ x ≤ 5 := fun x hx => by
    obtain ⟨m, _, rfl⟩ := List.mem_map.mp hx
    rw [List.getD_eq_getElem?_getD]
    cases e : ws[m.toNat]? with
    | none => exact ⟨Int.le_refl _, by decide⟩
    | some w => exact h w (List.mem_of_getElem? e)
  have h2 := sum_in h1
  have h3 : (((up ws.length).filter (hasB g)).map (fun k => ws.getD k.toNat 0)).length ≤ 5 := by
    rw [List.length_map]
    exact filt_len hl
  omega
theorem isMin_eq {ns : List Int} {d M : Int} (h : ns = [] ∧ M = d ∨ M ∈ ns ∧ ∀ a ∈ ns, M ≤ a) : M = minB ns d := by
  rcases h with ⟨rfl, rfl⟩ | ⟨h1, h2⟩
  · rfl
  · have a := minB_le (d := d) h1
    have b := le_minB (d := d) h2 fun e => by rw [e] at h1; cases h1
    omega
/-- weights that make the council, small ones -/
def GoodW (n : Nat) (tb : List Bool) (ws : List Int) (q : Int) : Prop := ws.length = n ∧ (∀ w ∈ ws, 0 ≤ w ∧ w ≤ 5) ∧ 0 ≤ q ∧ q ≤ 26 ∧ ∀ g ∈ up (2 ^ n), at_ tb g = decide (q ≤ wtOf ws g)
def sp_weights_of (C W P : Addr) : Sp := fun vs H Q _ => ∃ (c : Addr) (n : Nat) (tb : List Bool), vs = [.ref c] ∧ CAt C H c n tb ∧ Mono n tb ∧ LT P H ∧ (∀ cc ∈ pairsB (leastI n tb), ∀ ff ∈ pairsB (greatI n tb), outdB ff cc = false) ∧
  ∀ (r l : Addr) (ws : List Int) (q : Int) H', H r = none → H l = none → SameT H H' → LT P H' → WAt W H' r l ws q → GoodW n tb ws q → Q (.ref r) H'
theorem ok_weights_of {P : Program} {w : World} {K : PySem.W.Frag} {mg : Str → Option Value} {base : Heap} {a : Adr} (T : Txt K mg a) (B : LamB mg base a.c_lam a.p_lam) : FnOk P w K mg base CX0 9 a.a_weights_of a.d_weights_of ["council"] (sp_weights_of a.C_Council a.C_Weights a.p_lam) := by
  refine T.F_weights_of.ok sc_weights_of (fun vs H Q E h => ?_) (fun cdv A outer s H vs Q E hr h => ?_)
  · obtain ⟨c, n, tb, rfl, _⟩ := h; rfl
  obtain ⟨c, n, tb, rfl, cc, hM, hT, hno, k⟩ := h
  refine ⟨_, (pss_cons (ps_set (i := 1) sc_weights_of.nd rfl (by first | exact Or.inl rfl | exact Or.inr rfl) (pe_call (ok_by_strength T B) hr rfl T.m_by_strength T.F_by_strength.kp (b_by_strength T) .nil pass0 (pa_cons (pv 0) pa_nil)))
      (pss_cons (ps_set (i := 2) sc_weights_of.nd rfl (by first | exact Or.inl rfl | exact Or.inr rfl) (pe_meth0 (pv 0) T.cl_Council T.mt_Council_least (ok_Council_least T) (hr.mono (by decide)) (b_Council_least T) .nil pass0))
      (pss_cons (ps_set (i := 3) sc_weights_of.nd rfl (by first | exact Or.inl rfl | exact Or.inr rfl) (pe_meth0 (pv 0) T.cl_Council T.mt_Council_greatest (ok_Council_greatest T) (hr.mono (by decide)) (b_Council_greatest T) .nil pass0))
      (pss_cons (ps_for PassesOwn.never rfl (pi_listK K (pe_call (ok_falling_lists T) (hr.mono (by decide)) rfl T.m_falling_lists T.F_falling_lists.kp (b_falling_lists T) .nil pass0 (pa_cons (pe_fldK K (pv 0) rfl) (pa_cons (pe_glob (v := .int 5) rfl T.g_ENOUGH_WEIGHT ⟨_, rfl⟩) pa_nil)))) (pg_name (i := 4) sc_weights_of.nd rfl (by first | exact Or.inl rfl | exact Or.inr rfl)) (pss_cons (ps_set (i := 5) sc_weights_of.nd rfl (by first | exact Or.inl rfl | exact Or.inr rfl) (pe_call (ok_placed T) (hr.mono (by decide)) rfl T.m_placed T.F_placed.kp (b_placed T) .nil pass0 (pa_cons (pv 4) (pa_cons (pv 1) pa_nil))))
      (pss_cons (ps_set (i := 6) sc_weights_of.nd rfl (by first | exact Or.inl rfl | exact Or.inr rfl) (pe_minD K rfl rfl T.z_min (pa_cons (pe_lc rfl (lcOk_of (S := defScope s_weights_of) (N := ["council", "order", "least", "greatest", "falling", "weights", "quota"]) (M := ["council", "order", "least", "greatest", "falling", "weights", "quota", "group"]) (by decide +kernel)) (pi_listK K (pv 2)) (fun _ _ _ _ => (pg_name (i := 7) (show List.Nodup (["council", "order", "least", "greatest", "falling", "weights", "quota", "group"] : List Str) by decide +kernel) rfl (by first | exact Or.inl rfl | exact Or.inr rfl))) (fun _ _ _ _ => pifs_nil) (fun _ _ _ _ => (pe_call (ok_weight_of T) (hr.mono (by decide)) rfl T.m_weight_of T.F_weight_of.kp (b_weight_of T) .nil pass0 (pa_cons (pv 5) (pa_cons (pv 7) pa_nil))))) pa_nil) (pe_op op_add (pe_callB (call_sumK K rfl) rfl T.z_sum PyProof.Rows.boot_sum (pa_cons (pv 5) pa_nil)) pe_int)))
      (pss_one (ps_if (pt_val (pe_callB (call_allK K rfl) rfl T.z_all PyProof.Rows.boot_all (pa_cons (pe_lc rfl (lcOk_of (S := defScope s_weights_of) (N := ["council", "order", "least", "greatest", "falling", "weights", "quota"]) (M := ["council", "order", "least", "greatest", "falling", "weights", "quota", "group"]) (by decide +kernel)) (pi_listK K (pv 3)) (fun _ _ _ _ => (pg_name (i := 7) (show List.Nodup (["council", "order", "least", "greatest", "falling", "weights", "quota", "group"] : List Str) by decide +kernel) rfl (by first | exact Or.inl rfl | exact Or.inr rfl))) (fun _ _ _ _ => pifs_nil) (fun _ _ _ _ => (pe_cmpR op_lt (pe_call (ok_weight_of T) (hr.mono (by decide)) rfl T.m_weight_of T.F_weight_of.kp (b_weight_of T) .nil pass0 (pa_cons (pv 5) (pa_cons (pv 7) pa_nil))) (pv 6) (nomark _)))) pa_nil))) (pss_one (ps_ret (pe_make T.mk_Weights (ok_Weights_init T) (hr.mono (by decide)) rfl T.m_Weights (b_Weights_init T) .nil pass0 (pa_cons (pv 5) (pa_cons (pv 6) pa_nil))))) pss_nil)))))
      (pss_one (ps_ret pe_non)))))), ?_⟩
  obtain ⟨⟨cx, t, e1, e2⟩, n1, n5, hl⟩ := id cc
  refine ⟨_, rfl, c, n, tb, rfl, cc, hT, fun ord lo H1 nlo hp hpw s1 hT1 ho1 => ?_⟩
  have cc1 := cc.t s1
  have e11 := s1.get e1 (fun _ z => nomatch z)
  refine ⟨_, rfl, c, cx, _, rfl, e11, flds_no _ _ (by decide +kernel) (by decide +kernel), c, n, tb, rfl, cc1, fun L H2 nL s2 hL2 => ?_⟩
  refine ⟨_, rfl, c, cx, _, rfl, s2 _ _ e11, flds_no _ _ (by decide +kernel) (by decide +kernel), c, n, tb, rfl, cc1.same s2, fun G H3 nG s3 hG3 => ?_⟩
  have s13 := s2.trans s3
  refine ⟨_, rfl, c, a.C_Council, cx, _, _, rfl, s13 _ _ e11, T.cl_Council, T.n_Council_members, flds_m _ _, n, n5, 5, rfl, by decide, fun F rs H4 nF _ s4 hF4 => ?_⟩
  have s14 := s13.trans s4
  have s04 := s1.trans s14.t
  have ho4 := s14 _ _ ho1
  have hL4 := (s3.trans s4) _ _ hL2
  have hG4 := s4 _ _ hG3
  have hT4 := hT1.same s14
  have hol : ord.length = n := by rw [hp.length_eq, up_length]
  refine ⟨F, rfl, ⟨_, SqL.of hF4.1⟩, ?_⟩
  refine for_list (xs := rs.map V.ref) (fun i σ' H' => ∃ x y z : Option V, σ' = [some (.ref c), some (.ref lo), some (.ref L), some (.ref G), x, y, z] ∧ Same H4 H' ∧ ∀ f ∈ (fallB n 5).take i, ∃ g ∈ greatI n tb, minB ((leastI n tb).map (wtOf (placedB f ord))) ((placedB f ord).sum + 1) ≤ wtOf (placedB f ord) g) ?_ ?_ ?_ ?_
  · exact ⟨none, none, none, rfl, Same.refl _, fun f h => by rw [List.take_zero] at h; cases h⟩
  · rintro i σ' H' _ ⟨x, y, z, rfl, hs, _⟩
    exact SqL.of (hs _ _ hF4.1)
  · rintro i v σ' H5 hx ⟨x, y, z, rfl, hs5, ha⟩
    rw [List.getElem?_map] at hx
    obtain ⟨q, hq, rfl⟩ := Option.map_eq_some_iff.mp hx
    have hi : i < (fallB n 5).length := by rw [← hF4.2.1]; exact (List.getElem?_eq_some_iff.mp hq).1
    obtain ⟨u, hu⟩ : ∃ u, (fallB n 5)[i]? = some u := ⟨_, List.getElem?_eq_getElem hi⟩
    have hq4 : H4 q = some (.lst (u.map V.int)) := hF4.2.2 i q u hq hu
    obtain ⟨ul, ub⟩ := fall_of n 5 (List.mem_of_getElem? hu)
    refine ⟨_, rfl, _, rfl, q, lo, u, ord, n, rfl, hs5 _ _ hq4, hs5 _ _ ho4, hp, n5, ul, fun r H6 nr s6 hr6 => ?_⟩
    have hs6 := hs5.trans s6
    have wl : (placedB u ord).length = n := by rw [plc_len, hol]
    have wb : ∀ w ∈ placedB u ord, 0 ≤ w ∧ w ≤ 5 := placed_all hp (P := fun w => 0 ≤ w ∧ w ≤ 5) ⟨Int.le_refl _, by decide⟩ (fun x hx => ub x hx) _
    generalize hws : placedB u ord = ws at hr6 wl wb
    -- the quota
    refine ⟨_, rfl, L, rfl, ⟨_, SqL.of (hs6 _ _ hL4)⟩, ?_⟩
    refine lcB_list rfl (SqL.of (hs6 _ _ hL4)) (by rw [List.length_map]; have := least_len (f := fun g m => g - 1 * 2 ^ m.toNat) n5 (tb := tb); omega) (fun _ => true) (fun x => match x with | .int g => .int (wtOf ws g) | _ => .non) (fun x hx H7 s7 R z => z H7 (Same.refl _)) (fun x hx _ H7 s7 R z => ?_) fun H7 D s7 hD => ?_
    · obtain ⟨g, hg, rfl⟩ := List.mem_map.mp hx
      exact ⟨_, rfl, _, rfl, r, ws, g, rfl, s7 _ _ hr6, by omega, fun H8 s8 => z H8 s8⟩
    have eD : ((((leastI n tb).map V.int).filter fun _ => true).map fun x => match x with | .int g => V.int (wtOf ws g) | _ => .non) = ((leastI n tb).map (wtOf ws)).map V.int := by
      rw [List.filter_eq_self.mpr (fun _ _ => rfl), List.map_map, List.map_map]
      rfl
    rw [eD]
    have s8 : Same H6 (upd H7 D (.lst (((leastI n tb).map (wtOf ws)).map V.int))) := s7.trans (same_new hD _)
    have hD8 : upd H7 D (.lst (((leastI n tb).map (wtOf ws)).map V.int)) D = some (.lst (((leastI n tb).map (wtOf ws)).map V.int)) := upd_same
    generalize upd H7 D (.lst (((leastI n tb).map (wtOf ws)).map V.int)) = H8 at s8 hD8
    have hs8 := hs6.trans s8
    refine ⟨_, rfl, r, ws, rfl, SqL.of (s8 _ _ hr6), _, _, rfl, rfl, D, _, _, rfl, rfl, SqL.of hD8, fun M hMin => ?_⟩
    have eM := isMin_eq hMin
    -- the test
    refine ⟨_, rfl, G, rfl, ⟨_, SqL.of (hs8 _ _ hG4)⟩, ?_⟩
    refine lcB_list rfl (SqL.of (hs8 _ _ hG4)) (by rw [List.length_map]; have := great_len (f := fun g m => g + 1 * 2 ^ m.toNat) n5 (tb := tb); omega) (fun _ => true) (fun x => match x with | .int g => .bl (decide (wtOf ws g < M)) | _ => .non) (fun x hx H9 s9 R z => z H9 (Same.refl _)) (fun x hx _ H9 s9 R z => ?_) fun H9 D2 s9 hD2 => ?_
    · obtain ⟨g, hg, rfl⟩ := List.mem_map.mp hx
      exact ⟨_, rfl, _, rfl, r, ws, g, rfl, s9 _ _ (s8 _ _ hr6), by omega, fun H10 s10 => ⟨_, rfl, _, _, rfl, rfl, z H10 s10⟩⟩
    have eB : ((((greatI n tb).map V.int).filter fun _ => true).map fun x => match x with | .int g => V.bl (decide (wtOf ws g < M)) | _ => .non) = ((greatI n tb).map fun g => decide (wtOf ws g < M)).map V.bl := by
      rw [List.filter_eq_self.mpr (fun _ _ => rfl), List.map_map, List.map_map]
      rfl
    rw [eB]
    refine ⟨D2, _, rfl, SqL.of upd_same, _, rfl, ?_⟩
    have s10 : Same H8 (upd H9 D2 (.lst (((greatI n tb).map fun g => decide (wtOf ws g < M)).map V.bl))) := s9.trans (same_new hD2 _)
    generalize upd H9 D2 (.lst (((greatI n tb).map fun g => decide (wtOf ws g < M)).map V.bl)) = H10 at s10
    have hs10 := hs8.trans s10
    have hr10 := s10 _ _ (s8 _ _ hr6)
    cases hall : (greatI n tb).all fun g => decide (wtOf ws g < M) with
    | true =>
      refine ite_t (by rw [List.all_map]; exact hall) ?_
      refine ⟨_, rfl, _, rfl, fun x dx nx ndx nex => ?_⟩
      have s11 : Same H10 (upd (upd H10 dx (.own x)) x (.ins a.C_Weights dx [])) := (same_new ndx _).trans (same_new (by rw [upd_ne (Ne.symm nex)]; exact nx) _)
      refine ⟨x, dx, r, ws, M, rfl, upd_same, s11 _ _ hr10, fun l H12 nl hW keep => ⟨rfl, ?_⟩⟩
      have s411 := hs10.trans s11
      have nx4 : H4 x = none := hs10.free nx
      have s412 : Same H4 H12 := fun b o hb => keep b o (s411 _ _ hb) (ne_of_none hb nx4)
      have h2 : ∀ g ∈ greatI n tb, wtOf ws g < M := fun g hg => of_decide_eq_true (List.all_eq_true.mp hall g hg)
      have h1 : ∀ g ∈ leastI n tb, M ≤ wtOf ws g := fun g hg => by
        rw [eM]
        exact minB_le (List.mem_map.mpr ⟨g, hg, rfl⟩)
      have hw0 : ∀ w ∈ ws, 0 ≤ w := fun w hw => (wb w hw).1
      have hb : 0 ≤ M ∧ M ≤ 26 := by
        rcases hMin with ⟨_, e⟩ | ⟨h, _⟩
        · have := sum_in wb
          rw [wl] at this
          omega
        · obtain ⟨g, _, rfl⟩ := List.mem_map.mp h
          have := wt_in (ws := ws) (by omega) wb g
          omega
      exact k x l ws M H12 (s04.free nx4) (s04.free (s411.free nl)) (s04.trans s412.t) (hT4.same s412) hW ⟨wl, wb, hb.1, hb.2, fun g hg => made_of n5 wl hw0 h1 h2 hg⟩
    | false =>
      refine ite_f (by rw [List.all_map]; exact hall) ⟨_, _, _, rfl, hs10, fun f hf => ?_⟩
      rcases mem_take_succ hu hf with hf | rfl
      · exact ha f hf
      · rw [hws, ← eM]
        obtain ⟨g, hg, hd⟩ := List.all_eq_false.mp hall
        exact ⟨g, hg, by simpa using hd⟩
  · rintro σ' H5 ⟨x, y, z, rfl, hs5, ha⟩
    rw [List.length_map, hF4.2.1, List.take_length] at ha
    obtain ⟨f, hf, hh⟩ := tell_ok n1 n5 hl hM hp hpw hno
    obtain ⟨g, hg, hle⟩ := ha f hf
    have := hh g hg
    omega
/-! ## telling -/
/-- a trade of two against two -/
def GoodT (n : Nat) (tb : List Bool) (cs fs : List Int) : Prop := cs.length = 2 ∧ fs.length = 2 ∧ (∀ g ∈ cs, g ∈ up (2 ^ n) ∧ at_ tb g = true) ∧ (∀ g ∈ fs, g ∈ up (2 ^ n) ∧ at_ tb g = false) ∧ ∀ m ∈ up n, ofB cs m ≤ ofB fs m
theorem has_or_f : ∀ x : Fin 32, ∀ y : Fin 32, ∀ m : Fin 5, hasB (Builtin.bitOr (x.val : Int) (y.val : Int)) (m.val : Int) = (hasB (x.val : Int) (m.val : Int) || hasB (y.val : Int) (m.val : Int)) ∧ hasB (Builtin.bitAnd (x.val : Int) (y.val : Int)) (m.val : Int) = (hasB (x.val : Int) (m.val : Int) && hasB (y.val : Int) (m.val : Int)) ∧
    (Builtin.bitOr (x.val : Int) (y.val : Int) < 32 ∧ 0 ≤ Builtin.bitOr (x.val : Int) (y.val : Int) ∧ Builtin.bitAnd (x.val : Int) (y.val : Int) < 32 ∧ 0 ≤ Builtin.bitAnd (x.val : Int) (y.val : Int)) := by decide +kernel
theorem has_or {n : Nat} (hn : n ≤ 5) {x y m : Int} (hx : x ∈ up (2 ^ n)) (hy : y ∈ up (2 ^ n)) (hm : m ∈ up n) : hasB (Builtin.bitOr x y) m = (hasB x m || hasB y m) ∧ hasB (Builtin.bitAnd x y) m = (hasB x m && hasB y m) ∧ Builtin.bitOr x y ∈ up (2 ^ 5) ∧ Builtin.bitAnd x y ∈ up (2 ^ 5) := by
  have h5 := two_le hn
  obtain ⟨x0, x1⟩ := mem_up.mp hx
  obtain ⟨y0, y1⟩ := mem_up.mp hy
  obtain ⟨m0, m1⟩ := mem_up.mp hm
  have e1 : ((x.toNat : Nat) : Int) = x := by omega
  have e2 : ((y.toNat : Nat) : Int) = y := by omega
  have e3 : ((m.toNat : Nat) : Int) = m := by omega
  have q := has_or_f ⟨x.toNat, by omega⟩ ⟨y.toNat, by omega⟩ ⟨m.toNat, by omega⟩
  simp only [e1, e2, e3] at q
  exact ⟨q.1, q.2.1, mem_up.mpr ⟨q.2.2.2.1, q.2.2.1⟩, mem_up.mpr ⟨q.2.2.2.2.2, q.2.2.2.2.1⟩⟩
theorem good_trade {n : Nat} (hn : n ≤ 5) {tb : List Bool} {cc ff : Int × Int} (hc : cc ∈ pairsB (leastI n tb)) (hf : ff ∈ pairsB (greatI n tb)) (ho : outdB ff cc = true) : GoodT n tb (rowP cc) (rowP ff) := by
  obtain ⟨c1, c2⟩ := pairs_in hc
  obtain ⟨f1, f2⟩ := pairs_in hf
  refine ⟨rfl, rfl, fun g hg => ?_, fun g hg => ?_, fun m hm => ?_⟩
  · rcases List.mem_cons.mp hg with rfl | hg
    · exact leastI_mem c1
    · rw [List.mem_singleton.mp hg]; exact leastI_mem c2
  · rcases List.mem_cons.mp hg with rfl | hg
    · exact greatI_mem f1
    · rw [List.mem_singleton.mp hg]; exact greatI_mem f2
  · unfold outdB at ho
    rw [Bool.and_eq_true] at ho
    obtain ⟨a1, a2, a3, a4⟩ := has_or hn (leastI_mem c1).1 (leastI_mem c2).1 hm
    obtain ⟨b1, b2, b3, b4⟩ := has_or hn (greatI_mem f1).1 (greatI_mem f2).1 hm
    have hm5 : m ∈ up 5 := by
      obtain ⟨m0, m1⟩ := mem_up.mp hm
      exact mem_up.mpr ⟨m0, by omega⟩
    have w1 := within_has (n := 5) (Nat.le_refl _) a3 b3 ho.1 hm5
    have w2 := within_has (n := 5) (Nat.le_refl _) a4 b4 ho.2 hm5
    rw [a1, b1] at w1
    rw [a2, b2] at w2
    unfold ofB rowP
    rw [List.filter_cons, List.filter_cons, List.filter_nil, List.filter_cons, List.filter_cons, List.filter_nil]
    cases h1 : hasB cc.1 m <;> cases h2 : hasB cc.2 m <;> cases h3 : hasB ff.1 m <;> cases h4 : hasB ff.2 m <;> rw [h1, h2, h3, h4] at w1 w2 <;> simp at w1 w2 ⊢
/-- an answer stands at r, new as to H, right for the table -/
def GoodAns (W D : Addr) (H H' : Hp) (r : Addr) (n : Nat) (tb : List Bool) : Prop :=
  (∃ (l : Addr) (ws : List Int) (q : Int), H l = none ∧ WAt W H' r l ws q ∧ GoodW n tb ws q) ∨ ∃ (l m : Addr) (cs fs : List Int), H l = none ∧ H m = none ∧ l ≠ m ∧ TAt D H' r l m cs fs ∧ GoodT n tb cs fs
def sp_telling (C W D P : Addr) : Sp := fun vs H Q _ => ∃ (c : Addr) (n : Nat) (tb : List Bool), vs = [.ref c] ∧ CAt C H c n tb ∧ Mono n tb ∧ LT P H ∧ ∀ r H', H r = none → SameT H H' → LT P H' → GoodAns W D H H' r n tb → Q (.ref r) H'
theorem ok_telling {P : Program} {w : World} {K : PySem.W.Frag} {mg : Str → Option Value} {base : Heap} {a : Adr} (T : Txt K mg a) (B : LamB mg base a.c_lam a.p_lam) : FnOk P w K mg base CX0 10 a.a_telling a.d_telling ["council"] (sp_telling a.C_Council a.C_Weights a.C_Trade a.p_lam) := by
  refine T.F_telling.ok sc_telling (fun vs H Q E h => ?_) (fun cdv A outer s H vs Q E hr h => ?_)
  · obtain ⟨c, n, tb, rfl, _⟩ := h; rfl
  obtain ⟨c, n, tb, rfl, cc, hM, hT, k⟩ := h
  refine ⟨_, (pss_cons (ps_set (i := 1) sc_telling.nd rfl (by first | exact Or.inl rfl | exact Or.inr rfl) (pe_call (ok_trade_of T) (hr.mono (by decide)) rfl T.m_trade_of T.F_trade_of.kp (b_trade_of T) .nil pass0 (pa_cons (pv 0) pa_nil)))
      (pss_cons (ps_if (pt_cmpR op_notN (pv 1) pe_non (nomark _)) (pss_one (ps_ret (pv 1))) pss_nil)
      (pss_one (ps_ret (pe_call (ok_weights_of T B) hr rfl T.m_weights_of T.F_weights_of.kp (b_weights_of T) .nil pass0 (pa_cons (pv 0) pa_nil)))))), ?_⟩
  have n5 := cc.n5
  refine ⟨_, rfl, c, n, tb, rfl, cc, fun r l m ca fa H1 nr nl nm nlm s1 hTA hca hfa ho => ?_, fun hno H1 s1 => ?_⟩
  · refine ⟨_, rfl, rfl, _, rfl, ite_t rfl ?_⟩
    exact ⟨_, rfl, k r H1 nr s1.t (hT.same s1) (.inr ⟨l, m, _, _, nl, nm, nlm, hTA, good_trade n5 hca hfa ho⟩)⟩
  · refine ⟨_, rfl, rfl, _, rfl, ite_f rfl ?_⟩
    refine ⟨_, rfl, c, n, tb, rfl, cc.same s1, hM, hT.same s1, hno, fun r l ws q H2 nr nl s2 hT2 hW hG => ?_⟩
    exact k r H2 (s1.free nr) (s1.t.trans s2) hT2 (.inl ⟨l, ws, q, s1.free nl, hW, hG⟩)
end Wv

set_option Elab.async false
set_option linter.all false
set_option maxRecDepth 100000
set_option maxHeartbeats 4000000

namespace Wv
open PySem L2
theorem shl_v (n : Nat) : [V.int ((1 : Int) * 2 ^ ((n : Int)).toNat)] = [V.int ((2 ^ n : Nat) : Int)] := by rw [pow_n]
/-! ## the law's own defs -/
def ScrOk (K : PySem.W.Frag) (H : Hp) (a : Addr) : Prop := ∃ ns : List Int, SqL K H a (ns.map V.int) ∧ ns.length ≤ 63
theorem ScrOk.same {K : PySem.W.Frag} {H H' : Hp} {a : Addr} (h : ScrOk K H a) (s : Same H H') : ScrOk K H' a := by
  obtain ⟨ns, h1, h2⟩ := h
  exact ⟨ns, s.seq h1, h2⟩
def sp_law_cell_at (K : PySem.W.Frag) : Sp := fun vs H Q _ => ∃ (a : Addr) (k : Int), vs = [.ref a, .int k] ∧ ScrOk K H a ∧ 0 ≤ k ∧ ∀ (r : Int) H', Same H H' → Q (.int r) H'
theorem ok_law_cell_at {P : Program} {w : World} {K : PySem.W.Frag} {mg : Str → Option Value} {base : Heap} {a : Adr} (T : Txt K mg a) : FnOk P w K mg base CX0 1 a.a_law_cell_at a.d_law_cell_at ["_law_script", "_law_k"] (sp_law_cell_at K) := by
  refine T.F_law_cell_at.ok sc_law_cell_at (fun vs H Q E h => ?_) (fun cdv A outer s H vs Q E hr h => ?_)
  · obtain ⟨a, k, rfl, _⟩ := h; rfl
  obtain ⟨a, k, rfl, ⟨ns, hS, hz⟩, k0, q⟩ := h
  refine ⟨_, (pss_cons (ps_if (pt_cmpR op_lt (pv 1) (pe_callB (call_lenK K) rfl T.z_len PySem.boot_len (pa_cons (pv 0) pa_nil)) (nomark _)) (pss_one (ps_ret (pe_ix (ix_listK K) (pv 0) (pv 1) (fun _ _ => rfl)))) pss_nil)
      (pss_one (ps_ret pe_int))), ?_⟩
  refine ⟨_, rfl, _, rfl, a, _, rfl, .inl hS, _, _, rfl, rfl, _, rfl, ?_⟩
  refine ite_b (fun c => ?_) (fun c => ?_)
  · have c' : k < (((ns.map V.int).length : Nat) : Int) := of_decide_eq_true c
    rw [List.length_map] at c'
    have hk : k.toNat < ns.length := by omega
    have ek : ((k.toNat : Nat) : Int) = k := by omega
    have z : atI (ns.map V.int) ((k.toNat : Nat) : Int) = some (.int ns[k.toNat]) := atI_nat (by rw [List.getElem?_map, List.getElem?_eq_getElem hk]; rfl)
    rw [ek] at z
    exact ⟨_, rfl, _, rfl, a, _, _, _, rfl, rfl, hS, z, q _ H (Same.refl _)⟩
  · exact q 0 H (Same.refl _)
def sp_law_draw : Sp := fun vs H Q _ => ∃ c k m : Int, vs = [.int c, .int k, .int m] ∧ 0 < m ∧ ∀ (r : Int) H', 0 ≤ r → r < m → Same H H' → Q (.int r) H'
theorem prime_at (k : Int) : ∃ p : Int, 0 < p ∧ atI [V.int 1000003, .int 1000033, .int 1000037, .int 1000039, .int 1000081, .int 1000099, .int 1000117, .int 1000121] (k % 8) = some (.int p) := by
  have h0 := Int.emod_nonneg k (show (8 : Int) ≠ 0 by decide)
  have h1 := Int.emod_lt_of_pos k (show (0 : Int) < 8 by decide)
  generalize k % 8 = j at h0 h1
  have e : ((j.toNat : Nat) : Int) = j := by omega
  rw [← e]
  have h2 : j.toNat < 8 := by omega
  generalize j.toNat = i at h2
  match i, h2 with
  | 0, _ => exact ⟨_, by decide, atI_nat rfl⟩
  | 1, _ => exact ⟨_, by decide, atI_nat rfl⟩
  | 2, _ => exact ⟨_, by decide, atI_nat rfl⟩
  | 3, _ => exact ⟨_, by decide, atI_nat rfl⟩
  | 4, _ => exact ⟨_, by decide, atI_nat rfl⟩
  | 5, _ => exact ⟨_, by decide, atI_nat rfl⟩
  | 6, _ => exact ⟨_, by decide, atI_nat rfl⟩
  | 7, _ => exact ⟨_, by decide, atI_nat rfl⟩
theorem ok_law_draw {P : Program} {w : World} {K : PySem.W.Frag} {mg : Str → Option Value} {base : Heap} {a : Adr} (T : Txt K mg a) : FnOk P w K mg base CX0 1 a.a_law_draw a.d_law_draw ["_law_cell", "_law_k", "_law_many"] sp_law_draw := by
  refine T.F_law_draw.ok sc_law_draw (fun vs H Q E h => ?_) (fun cdv A outer s H vs Q E hr h => ?_)
  · obtain ⟨c, k, m, rfl, _⟩ := h; rfl
  obtain ⟨c, k, m, rfl, hm, q⟩ := h
  refine ⟨_, (pss_cons (ps_set (i := 3) sc_law_draw.nd rfl (by first | exact Or.inl rfl | exact Or.inr rfl) (pe_tup (pa_cons pe_int (pa_cons pe_int (pa_cons pe_int (pa_cons pe_int (pa_cons pe_int (pa_cons pe_int (pa_cons pe_int (pa_cons pe_int pa_nil))))))))))
      (pss_cons (ps_set (i := 4) sc_law_draw.nd rfl (by first | exact Or.inl rfl | exact Or.inr rfl) (pe_op op_add (pe_op op_add (pe_op op_mul (pv 0) pe_int) (pe_op op_mul (pv 1) pe_int)) (pe_op op_mul (pe_op op_mod (pe_op op_fdiv (pv 0) pe_int) pe_int) pe_int)))
      (pss_one (ps_ret (pe_op op_mod (pe_op op_mod (pv 4) (pe_ix (ix_tupK K) (pv 3) (pe_op op_mod (pv 1) pe_int) (fun _ _ => rfl))) (pv 2)))))), ?_⟩
  refine ⟨(by show 8 ≤ sizeLine; decide), fun t ht => ?_⟩
  refine ⟨_, rfl, _, _, rfl, rfl, .inr ⟨by decide, by decide⟩, _, rfl, _, _, rfl, rfl, .inr ⟨by decide, by decide⟩, _, _, rfl, rfl, ?_⟩
  refine ⟨_, rfl, _, _, rfl, rfl, ⟨by decide, by decide⟩, _, _, rfl, rfl, (by show (0 : Int) < 1000003; decide), _, _, rfl, rfl, .inr ⟨by decide, by decide⟩, _, _, rfl, rfl, ?_⟩
  obtain ⟨p, hp, hx⟩ := prime_at k
  refine ⟨_, rfl, _, rfl, _, rfl, _, _, rfl, rfl, (by show (0 : Int) < 8; decide), t, _, _, _, rfl, rfl, SqT.of upd_same, hx, _, _, rfl, rfl, hp, _, rfl, _, _, rfl, rfl, hm, ?_⟩
  exact q _ _ (Int.emod_nonneg _ (by omega)) (Int.emod_lt_of_pos _ hm) (same_new ht _)

def ToldAt (H : Hp) (t : Addr) (n : Nat) (l : Addr) (gs : List Int) : Prop := H t = some (.tup [.int (n : Int), .ref l]) ∧ H l = some (.lst (gs.map V.int)) ∧ 1 ≤ n ∧ n ≤ 5 ∧ gs.length ≤ 40 ∧ ∀ g ∈ gs, 0 ≤ g ∧ g < ((2 ^ n : Nat) : Int)
def sp_law_told (K : PySem.W.Frag) : Sp := fun vs H Q _ => ∃ (a : Addr) (k : Int), vs = [.ref a, .int k] ∧ ScrOk K H a ∧ 0 ≤ k ∧ ∀ t n l gs H', H t = none → H l = none → Same H H' → ToldAt H' t n l gs → Q (.ref t) H'
theorem memb_at (k : Int) : ∃ n : Nat, 1 ≤ n ∧ n ≤ 5 ∧ atI [V.int 3, .int 4, .int 5, .int 4, .int 2, .int 5, .int 1] (k % 7) = some (.int (n : Int)) := by
  have h0 := Int.emod_nonneg k (show (7 : Int) ≠ 0 by decide)
  have h1 := Int.emod_lt_of_pos k (show (0 : Int) < 7 by decide)
  generalize k % 7 = j at h0 h1
  have e : ((j.toNat : Nat) : Int) = j := by omega
  rw [← e]
  have h2 : j.toNat < 7 := by omega
  generalize j.toNat = i at h2
  match i, h2 with
  | 0, _ => exact ⟨3, by decide, by decide, atI_nat rfl⟩
  | 1, _ => exact ⟨4, by decide, by decide, atI_nat rfl⟩
  | 2, _ => exact ⟨5, by decide, by decide, atI_nat rfl⟩
  | 3, _ => exact ⟨4, by decide, by decide, atI_nat rfl⟩
  | 4, _ => exact ⟨2, by decide, by decide, atI_nat rfl⟩
  | 5, _ => exact ⟨5, by decide, by decide, atI_nat rfl⟩
  | 6, _ => exact ⟨1, by decide, by decide, atI_nat rfl⟩
theorem or_range : ∀ n : Fin 6, ∀ x : Fin 32, ∀ y : Fin 32, ∀ m : Fin 5, x.val < 2 ^ n.val → y.val < 2 ^ n.val → m.val < n.val →
    (0 ≤ Builtin.bitOr (Builtin.bitAnd x.val y.val) (1 * 2 ^ ((m.val : Int)).toNat) ∧ Builtin.bitOr (Builtin.bitAnd x.val y.val) (1 * 2 ^ ((m.val : Int)).toNat) < ((2 ^ n.val : Nat) : Int)) := by decide +kernel
theorem or_ok {n : Nat} (hn : n ≤ 5) {x y m : Int} (x0 : 0 ≤ x) (x1 : x < ((2 ^ n : Nat) : Int)) (y0 : 0 ≤ y) (y1 : y < ((2 ^ n : Nat) : Int)) (m0 : 0 ≤ m) (m1 : m < n) :
    0 ≤ Builtin.bitOr (Builtin.bitAnd x y) (1 * 2 ^ m.toNat) ∧ Builtin.bitOr (Builtin.bitAnd x y) (1 * 2 ^ m.toNat) < ((2 ^ n : Nat) : Int) := by
  have h5 := two_le hn
  have e1 : ((x.toNat : Nat) : Int) = x := by omega
  have e2 : ((y.toNat : Nat) : Int) = y := by omega
  have e3 : ((m.toNat : Nat) : Int) = m := by omega
  have q := or_range ⟨n, by omega⟩ ⟨x.toNat, by omega⟩ ⟨y.toNat, by omega⟩ ⟨m.toNat, by omega⟩ (by show x.toNat < 2 ^ n; omega) (by show y.toNat < 2 ^ n; omega) (by show m.toNat < n; omega)
  simp only [e1, e2, e3] at q
  exact q
theorem sum_nonneg {ws : List Int} {b : Int} (h : ∀ w ∈ ws, 0 ≤ w ∧ w < b) : 0 ≤ ws.sum := by
  induction ws with
  | nil => exact Int.le_refl _
  | cons w r ih =>
    rw [List.sum_cons]
    have := h w List.mem_cons_self
    have := ih fun x hx => h x (List.mem_cons_of_mem _ hx)
    omega
theorem get_ws {ws : List Int} {x : Int} {n : Nat} (hl : ws.length = n) (x0 : 0 ≤ x) (x1 : x < (n : Int)) : atI (ws.map V.int) x = some (.int (ws.getD x.toNat 0)) := by
  have hk : x.toNat < ws.length := by omega
  have ek : ((x.toNat : Nat) : Int) = x := by omega
  have z : atI (ws.map V.int) ((x.toNat : Nat) : Int) = some (.int (ws.getD x.toNat 0)) := atI_nat (by rw [List.getElem?_map, List.getD_eq_getElem?_getD, List.getElem?_eq_getElem hk]; rfl)
  rw [ek] at z
  exact z
theorem ok_law_told {P : Program} {w : World} {K : PySem.W.Frag} {mg : Str → Option Value} {base : Heap} {a : Adr} (T : Txt K mg a) : FnOk P w K mg base CX0 2 a.a_law_told a.d_law_told ["_law_script", "_law_first"] (sp_law_told K) := by
  refine T.F_law_told.ok sc_law_told (fun vs H Q E h => ?_) (fun cdv A outer s H vs Q E hr h => ?_)
  · obtain ⟨a, k, rfl, _⟩ := h; rfl
  obtain ⟨a, f, rfl, hS, f0, kk⟩ := h
  refine ⟨_, (pss_cons (ps_set (i := 2) sc_law_told.nd rfl (by first | exact Or.inl rfl | exact Or.inr rfl) (pe_call (ok_law_cell_at T) hr rfl T.m_law_cell_at T.F_law_cell_at.kp (b_law_cell_at T) .nil pass0 (pa_cons (pv 0) (pa_cons (pv 1) pa_nil))))
      (pss_cons (ps_set (i := 3) sc_law_told.nd rfl (by first | exact Or.inl rfl | exact Or.inr rfl) (pe_call (ok_law_cell_at T) hr rfl T.m_law_cell_at T.F_law_cell_at.kp (b_law_cell_at T) .nil pass0 (pa_cons (pv 0) (pa_cons (pe_op op_add (pv 1) pe_int) pa_nil))))
      (pss_cons (ps_set (i := 4) sc_law_told.nd rfl (by first | exact Or.inl rfl | exact Or.inr rfl) (pe_ix (ix_tupK K) (pe_tup (pa_cons pe_int (pa_cons pe_int (pa_cons pe_int (pa_cons pe_int (pa_cons pe_int (pa_cons pe_int (pa_cons pe_int pa_nil)))))))) (pe_op op_mod (pv 2) pe_int) (fun _ _ => rfl)))
      (pss_cons (ps_set (i := 5) sc_law_told.nd rfl (by first | exact Or.inl rfl | exact Or.inr rfl) (pe_lst pa_nil))
      (pss_cons (ps_if (pt_cmpR op_eq (pe_op op_mod (pe_op op_fdiv (pv 2) pe_int) pe_int) pe_int (nomark _)) (pss_cons (ps_set (i := 6) sc_law_told.nd rfl (by first | exact Or.inl rfl | exact Or.inr rfl) (pe_lc rfl (lcOk_of (S := defScope s_law_told) (N := ["_law_script", "_law_first", "_law_cell", "_law_other", "_law_members", "_law_groups", "_law_weights", "_law_quota", "_law_group", "_law_k"]) (M := ["_law_script", "_law_first", "_law_cell", "_law_other", "_law_members", "_law_groups", "_law_weights", "_law_quota", "_law_group", "9", "_law_k"]) (by decide +kernel)) (pi_range1 rfl T.z_range (pa_cons (pv 4) pa_nil)) (fun _ _ _ _ => (pg_name (i := 10) (show List.Nodup (["_law_script", "_law_first", "_law_cell", "_law_other", "_law_members", "_law_groups", "_law_weights", "_law_quota", "_law_group", "9", "_law_k"] : List Str) by decide +kernel) rfl (by first | exact Or.inl rfl | exact Or.inr rfl))) (fun _ _ _ _ => pifs_nil) (fun _ _ _ _ => (pe_call (ok_law_draw T) hr rfl T.m_law_draw T.F_law_draw.kp (b_law_draw T) .nil pass0 (pa_cons (pv 3) (pa_cons (pv 10) (pa_cons pe_int pa_nil)))))))
      (pss_cons (ps_set (i := 7) sc_law_told.nd rfl (by first | exact Or.inl rfl | exact Or.inr rfl) (pe_call (ok_law_draw T) hr rfl T.m_law_draw T.F_law_draw.kp (b_law_draw T) .nil pass0 (pa_cons (pv 3) (pa_cons pe_int (pa_cons (pe_op op_add (pe_callB (call_sumK K rfl) rfl T.z_sum PyProof.Rows.boot_sum (pa_cons (pv 6) pa_nil)) pe_int) pa_nil)))))
      (pss_one (ps_for PassesOwn.never rfl (pi_range1 rfl T.z_range (pa_cons (pe_op op_shl pe_int (pv 4)) pa_nil)) (pg_name (i := 8) sc_law_told.nd rfl (by first | exact Or.inl rfl | exact Or.inr rfl)) (pss_one (ps_if (pt_cmpR op_ge (pe_callB (call_sumK K rfl) rfl T.z_sum PyProof.Rows.boot_sum (pa_cons (pe_lc rfl (lcOk_of (S := defScope s_law_told) (N := ["_law_script", "_law_first", "_law_cell", "_law_other", "_law_members", "_law_groups", "_law_weights", "_law_quota", "_law_group", "_law_k"]) (M := ["_law_script", "_law_first", "_law_cell", "_law_other", "_law_members", "_law_groups", "_law_weights", "_law_quota", "_law_group", "9", "_law_k"]) (by decide +kernel)) (pi_range1 rfl T.z_range (pa_cons (pv 4) pa_nil)) (fun _ _ _ _ => (pg_name (i := 10) (show List.Nodup (["_law_script", "_law_first", "_law_cell", "_law_other", "_law_members", "_law_groups", "_law_weights", "_law_quota", "_law_group", "9", "_law_k"] : List Str) by decide +kernel) rfl (by first | exact Or.inl rfl | exact Or.inr rfl))) (fun _ _ _ _ => (pifs_one (pt_cmpR op_eq (pe_op op_and (pe_op op_shr (pv 8) (pv 10)) pe_int) pe_int (nomark _)))) (fun _ _ _ _ => (pe_ix (ix_listK K) (pv 6) (pv 10) (fun _ _ => rfl)))) pa_nil)) (pv 7) (nomark _)) (pss_one (ps_expr (pe_bm PySem.F.plainAttrs_list PySem.F.slot_list_append PySem.F.type_list_append mt_append (pv 5) (pa_cons (pv 8) pa_nil)))) pss_nil)))))) (pss_one (ps_for PassesOwn.never rfl (pi_range1 rfl T.z_range (pa_cons (pe_call (ok_law_draw T) hr rfl T.m_law_draw T.F_law_draw.kp (b_law_draw T) .nil pass0 (pa_cons (pv 3) (pa_cons pe_int (pa_cons pe_int pa_nil)))) pa_nil)) (pg_name (i := 9) sc_law_told.nd rfl (by first | exact Or.inl rfl | exact Or.inr rfl)) (pss_cons (ps_set (i := 8) sc_law_told.nd rfl (by first | exact Or.inl rfl | exact Or.inr rfl) (pe_call (ok_law_draw T) hr rfl T.m_law_draw T.F_law_draw.kp (b_law_draw T) .nil pass0 (pa_cons (pv 3) (pa_cons (pe_op op_add (pv 9) pe_int) (pa_cons (pe_op op_shl pe_int (pv 4)) pa_nil)))))
      (pss_cons (ps_if (pt_cmpR op_eq (pe_op op_mod (pe_op op_fdiv (pv 2) pe_int) pe_int) pe_int (nomark _)) (pss_one (ps_set (i := 8) sc_law_told.nd rfl (by first | exact Or.inl rfl | exact Or.inr rfl) (pe_op op_or (pe_op op_and (pv 8) (pe_call (ok_law_draw T) hr rfl T.m_law_draw T.F_law_draw.kp (b_law_draw T) .nil pass0 (pa_cons (pe_op op_add (pe_op op_fdiv (pv 3) pe_int) (pe_op op_mul pe_int (pv 9))) (pa_cons pe_int (pa_cons (pe_op op_shl pe_int (pv 4)) pa_nil))))) (pe_op op_shl pe_int (pe_call (ok_law_draw T) hr rfl T.m_law_draw T.F_law_draw.kp (b_law_draw T) .nil pass0 (pa_cons (pv 3) (pa_cons (pe_op op_add (pv 9) pe_int) (pa_cons (pv 4) pa_nil)))))))) pss_nil)
      (pss_one (ps_expr (pe_bm PySem.F.plainAttrs_list PySem.F.slot_list_append PySem.F.type_list_append mt_append (pv 5) (pa_cons (pv 8) pa_nil)))))))))
      (pss_one (ps_ret (pe_tup (pa_cons (pv 4) (pa_cons (pv 5) pa_nil)))))))))), ?_⟩
  refine ⟨_, rfl, _, rfl, a, f, rfl, hS, f0, fun c H1 h1 => ?_⟩
  refine ⟨_, rfl, _, rfl, _, _, rfl, rfl, a, f + 1, rfl, hS.same h1, by omega, fun o H2 h2 => ?_⟩
  refine ⟨(by show 7 ≤ sizeLine; decide), fun t1 ht1 => ?_⟩
  obtain ⟨n, n1, n5, hx⟩ := memb_at c
  have h5 := two_le n5
  have p0 : (0 : Int) ≤ ((2 ^ n : Nat) : Int) := Int.natCast_nonneg _
  refine ⟨_, rfl, _, _, rfl, rfl, (by show (0 : Int) < 7; decide), t1, _, _, _, rfl, rfl, SqT.of upd_same, hx, ?_⟩
  generalize hHb : upd H2 t1 (.tup [V.int 3, .int 4, .int 5, .int 4, .int 2, .int 5, .int 1]) = Hb
  have sb : Same H Hb := by rw [← hHb]; exact h1.trans (h2.trans (same_new ht1 _))
  refine ⟨(by show 0 ≤ sizeLine; decide), fun g hg => ?_⟩
  have fin : ∀ (H' : Hp) (gs : List Int), Same Hb H' → H' g = some (.lst (gs.map V.int)) → gs.length ≤ 40 → (∀ x ∈ gs, 0 ≤ x ∧ x < ((2 ^ n : Nat) : Int)) → ∀ t, H' t = none → Q (.ref t) (upd H' t (.tup [.int (n : Int), .ref g])) := fun H' gs hs hg' hz hb t ht =>
    kk t n g gs _ ((sb.trans hs).free ht) (sb.free hg) (sb.trans (hs.trans (same_new ht _))) ⟨upd_same, by rw [upd_ne (ne_of_none hg' ht)]; exact hg', n1, n5, hz, hb⟩
  refine ⟨_, rfl, _, _, rfl, rfl, ⟨by decide, by decide⟩, _, _, rfl, rfl, (by show (0 : Int) < 3; decide), rfl, _, rfl, ?_⟩
  refine ite_b (fun _ => ?_) (fun _ => ?_)
  · -- by weights
    refine ⟨_, rfl, n, rfl, by omega, by omega, ?_⟩
    refine lcB_rangeP (k := n) rfl (by omega) (fun v => 0 ≤ v ∧ v < 7) (fun x x0 x1 H3 h3 R q => ?_) fun ws H3 D wl wp h3 hD => ?_
    · exact ⟨_, rfl, _, rfl, _, _, _, rfl, by decide, fun r H4 r0 r1 h4 => q r H4 ⟨r0, r1⟩ h4⟩
    have hsum := sum_nonneg wp
    have s3 : Same (upd Hb g (.lst [])) (upd H3 D (.lst (ws.map V.int))) := h3.trans (same_new hD _)
    refine ⟨_, rfl, _, rfl, D, ws, rfl, SqL.of upd_same, _, _, rfl, rfl, _, _, _, rfl, by omega, fun qu H4 q0 q1 h4 => ?_⟩
    have s4 := s3.trans h4
    refine ⟨_, rfl, _, _, rfl, rfl, shl_ok (by omega), ((2 ^ n : Nat) : Int), shl_v n, by omega, by omega, ?_⟩
    have ngD : g ≠ D := by
      intro e
      have := h3 g _ upd_same
      rw [e, hD] at this
      cases this
    refine for_range (n := 2 ^ n) (fun i σ' H' => ∃ (gs : List Int) (x : Option V), σ' = [some (.ref a), some (.int f), some (.int c), some (.int o), some (.int n), some (.ref g), some (.ref D), some (.int qu), x, none] ∧ Same Hb H' ∧
        H' g = some (.lst (gs.map V.int)) ∧ H' D = some (.lst (ws.map V.int)) ∧ gs.length ≤ i ∧ ∀ x ∈ gs, 0 ≤ x ∧ x < ((2 ^ n : Nat) : Int)) ?_ ?_ ?_
    · exact ⟨[], none, rfl, (same_new hg _).trans s4, s4 _ _ upd_same, h4 _ _ upd_same, Nat.zero_le _, fun x hx => by cases hx⟩
    · rintro i σ' H' hi ⟨gs, x, rfl, hs, hg', hD', hz, hb⟩
      refine ⟨_, rfl, n, rfl, by omega, by omega, ?_⟩
      refine lcB_range (k := n) rfl (by omega) (hasB (0 + (i : Int))) (fun y => .int (ws.getD y.toNat 0)) (fun y y0 y1 H5 h5 R q => ?_) (fun y y0 y1 _ H5 h5 R q => ?_) fun H5 D5 h5 hD5 => ?_
      · refine ⟨_, rfl, _, rfl, _, _, rfl, rfl, y0, _, _, rfl, rfl, rfl, _, rfl, ?_⟩
        have z := q H5 (Same.refl _)
        unfold hasB at z
        rw [show decide (Builtin.bitAnd ((0 + (i : Int)) / 2 ^ y.toNat) 1 = 1) = decide (V.int (Builtin.bitAnd ((0 + (i : Int)) / 2 ^ y.toNat) 1) = V.int 1) by rw [dec_int]; rfl] at z
        exact z
      · exact ⟨_, rfl, _, rfl, D, _, _, _, rfl, rfl, SqL.of (h5 _ _ hD'), get_ws wl y0 y1, q H5 (Same.refl _)⟩
      · refine ⟨D5, ((up n).filter (hasB (0 + (i : Int)))).map fun y => ws.getD y.toNat 0, rfl, SqL.of (by rw [upd_same, List.map_map]; rfl), _, rfl, _, _, rfl, rfl, _, rfl, ?_⟩
        have s5 : Same H' (upd H5 D5 (.lst (((up n).filter (hasB (0 + (i : Int)))).map fun y => .int (ws.getD y.toNat 0)))) := h5.trans (same_new hD5 _)
        refine ite_b (fun _ => ?_) (fun _ => ?_)
        · refine ⟨_, rfl, .inl ⟨rfl, _, SqL.of (s5 _ _ hg')⟩, _, rfl, g, _, _, rfl, rfl, s5 _ _ hg', small1000 (by rw [List.length_map]; omega), ?_⟩
          refine ⟨gs ++ [0 + (i : Int)], _, rfl, same_upd (hs.trans s5) hg, by rw [upd_same, List.map_append]; rfl, by rw [upd_ne ngD.symm]; exact s5 _ _ hD', by rw [List.length_append, List.length_singleton]; omega, fun x hx => ?_⟩
          rcases List.mem_append.mp hx with z | z
          · exact hb x z
          · have z' : x = 0 + (i : Int) := by simpa using z
            omega
        · exact ⟨gs, _, rfl, hs.trans s5, s5 _ _ hg', s5 _ _ hD', by omega, hb⟩
    · rintro σ' H' ⟨gs, x, rfl, hs, hg', hD', hz, hb⟩
      exact ⟨_, rfl, _, rfl, (by show 2 ≤ sizeLine; decide), fin H' gs hs hg' (by omega) hb⟩
  · -- by drawn groups
    refine ⟨_, rfl, _, _, _, rfl, by decide, fun r H3 r0 r1 h3 => ?_⟩
    refine ⟨r, rfl, by omega, by omega, ?_⟩
    have p0 : 0 < 2 ^ n := Nat.pow_pos (by decide)
    refine for_range (n := r.toNat) (fun i σ' H' => ∃ (gs : List Int) (x y : Option V), σ' = [some (.ref a), some (.int f), some (.int c), some (.int o), some (.int n), some (.ref g), none, none, x, y] ∧ Same Hb H' ∧
        H' g = some (.lst (gs.map V.int)) ∧ gs.length ≤ i ∧ ∀ x ∈ gs, 0 ≤ x ∧ x < ((2 ^ n : Nat) : Int)) ?_ ?_ ?_
    · exact ⟨[], none, none, rfl, (same_new hg _).trans h3, h3 _ _ upd_same, Nat.zero_le _, fun x hx => by cases hx⟩
    · rintro i σ' H' hi ⟨gs, x, y, rfl, hs, hg', hz, hb⟩
      refine ⟨_, rfl, _, rfl, _, _, rfl, rfl, _, rfl, _, _, rfl, rfl, shl_ok (by omega), _, _, _, rfl, by rw [pow_n]; omega, fun v H4 v0 v1 h4 => ?_⟩
      rw [pow_n] at v1
      have app : ∀ (w : Int) (z : Option V) (H5 : Hp), Same H' H5 → 0 ≤ w → w < ((2 ^ n : Nat) : Int) → ∃ (gs' : List Int) (x y : Option V), ([some (.ref a), some (.int f), some (.int c), some (.int o), some (.int n), some (.ref g), none, none, some (.int w), z] : St) = [some (.ref a), some (.int f), some (.int c), some (.int o), some (.int n), some (.ref g), none, none, x, y] ∧
          Same Hb (upd H5 g (.lst (gs.map V.int ++ [.int w]))) ∧ upd H5 g (.lst (gs.map V.int ++ [.int w])) g = some (.lst (gs'.map V.int)) ∧ gs'.length ≤ i + 1 ∧ ∀ x ∈ gs', 0 ≤ x ∧ x < ((2 ^ n : Nat) : Int) := fun w z H5 h5 w0 w1 => by
        refine ⟨gs ++ [w], _, _, rfl, same_upd (hs.trans h5) hg, by rw [upd_same, List.map_append]; rfl, by rw [List.length_append, List.length_singleton]; omega, fun x hx => ?_⟩
        rcases List.mem_append.mp hx with z | z
        · exact hb x z
        · have z' : x = w := by simpa using z
          omega
      refine ⟨_, rfl, _, _, rfl, rfl, ⟨by decide, by decide⟩, _, _, rfl, rfl, (by show (0 : Int) < 2; decide), rfl, _, rfl, ?_⟩
      refine ite_b (fun _ => ?_) (fun _ => ?_)
      · refine ⟨_, rfl, _, rfl, _, _, rfl, rfl, ⟨by decide, by decide⟩, _, rfl, _, _, rfl, rfl, .inl ⟨by decide, by decide⟩, _, _, rfl, rfl, _, rfl, _, _, rfl, rfl, shl_ok (by omega), _, _, _, rfl, by rw [pow_n]; omega, fun u H5 u0 u1 h5' => ?_⟩
        rw [pow_n] at u1
        refine ⟨_, _, rfl, rfl, _, rfl, _, rfl, _, _, rfl, rfl, _, rfl, _, _, _, rfl, by omega, fun m H6 m0 m1 h6 => ?_⟩
        refine ⟨_, _, rfl, rfl, ⟨m0, by omega, by decide⟩, _, _, rfl, rfl, ?_⟩
        have ok := or_ok n5 v0 v1 u0 u1 m0 m1
        have s6 := h4.trans (h5'.trans h6)
        exact ⟨_, rfl, .inl ⟨rfl, _, SqL.of (s6 _ _ hg')⟩, _, rfl, g, _, _, rfl, rfl, s6 _ _ hg', small1000 (by rw [List.length_map]; omega), app _ _ _ s6 ok.1 ok.2⟩
      · exact ⟨_, rfl, .inl ⟨rfl, _, SqL.of (h4 _ _ hg')⟩, _, rfl, g, _, _, rfl, rfl, h4 _ _ hg', small1000 (by rw [List.length_map]; omega), app _ _ _ h4 v0 v1⟩
    · rintro σ' H' ⟨gs, x, y, rfl, hs, hg', hz, hb⟩
      exact ⟨_, rfl, _, rfl, (by show 2 ≤ sizeLine; decide), fin H' gs hs hg' (by omega) hb⟩

def sp_law_table : Sp := fun vs H Q _ => ∃ (t : Addr) (n : Nat) (l : Addr) (gs : List Int), vs = [.ref t] ∧ ToldAt H t n l gs ∧ ∀ r H', H r = none → Same H H' → H' r = some (.lst ((tabOf n gs).map V.bl)) → Q (.ref r) H'
theorem ToldAt.same {H H' : Hp} {t : Addr} {n : Nat} {l : Addr} {gs : List Int} (h : ToldAt H t n l gs) (s : Same H H') : ToldAt H' t n l gs := ⟨s _ _ h.1, s _ _ h.2.1, h.2.2⟩
theorem ok_law_table {P : Program} {w : World} {K : PySem.W.Frag} {mg : Str → Option Value} {base : Heap} {a : Adr} (T : Txt K mg a) : FnOk P w K mg base CX0 1 a.a_law_table a.d_law_table ["_law_told_here"] sp_law_table := by
  refine T.F_law_table.ok sc_law_table (fun vs H Q E h => ?_) (fun cdv A outer s H vs Q E hr h => ?_)
  · obtain ⟨t, n, l, gs, rfl, _⟩ := h; rfl
  obtain ⟨t, n, l, gs, rfl, hT, k⟩ := h
  refine ⟨_, (pss_cons (ps_set (i := 1) sc_law_table.nd rfl (by first | exact Or.inl rfl | exact Or.inr rfl) (pe_lst pa_nil))
      (pss_cons (ps_for PassesOwn.never rfl (pi_range1 rfl T.z_range (pa_cons (pe_op op_shl pe_int (pe_ix (ix_tupK K) (pv 0) pe_int (fun _ _ => rfl))) pa_nil)) (pg_name (i := 2) sc_law_table.nd rfl (by first | exact Or.inl rfl | exact Or.inr rfl)) (pss_one (ps_expr (pe_bm PySem.F.plainAttrs_list PySem.F.slot_list_append PySem.F.type_list_append mt_append (pv 1) (pa_cons (pe_callB (call_anyK K rfl) rfl T.z_any PyProof.Rows.boot_any (pa_cons (pe_lc rfl (lcOk_of (S := defScope s_law_table) (N := ["_law_told_here", "_law_found", "_law_group"]) (M := ["_law_told_here", "_law_found", "_law_group", "_law_one"]) (by decide +kernel)) (pi_listK K (pe_ix (ix_tupK K) (pv 0) pe_int (fun _ _ => rfl))) (fun _ _ _ _ => (pg_name (i := 3) (show List.Nodup (["_law_told_here", "_law_found", "_law_group", "_law_one"] : List Str) by decide +kernel) rfl (by first | exact Or.inl rfl | exact Or.inr rfl))) (fun _ _ _ _ => pifs_nil) (fun _ _ _ _ => (pe_cmpR op_eq (pe_op op_and (pv 2) (pv 3)) (pv 3) (nomark _)))) pa_nil)) pa_nil)))))
      (pss_one (ps_ret (pv 1))))), ?_⟩
  obtain ⟨ht, hl, n1, n5, hz, hb⟩ := id hT
  have h5 := two_le n5
  have p0 : (0 : Int) ≤ ((2 ^ n : Nat) : Int) := Int.natCast_nonneg _
  refine ⟨(by show 0 ≤ sizeLine; decide), fun r hr' => ?_⟩
  have s0 := same_new hr' (.lst [])
  refine ⟨_, rfl, t, _, _, _, rfl, rfl, SqT.of (s0 _ _ ht), atI_nat (j := 0) rfl, _, _, rfl, rfl, shl_ok (by omega), ((2 ^ n : Nat) : Int), shl_v n, by omega, by omega, ?_⟩
  refine for_range (n := 2 ^ n) (fun i σ' H' => ∃ x : Option V, σ' = [some (.ref t), some (.ref r), x] ∧ Same H H' ∧ H' r = some (.lst (((up i).map (carrB gs)).map V.bl)) ∧ i ≤ 2 ^ n) ?_ ?_ ?_
  · exact ⟨none, rfl, s0, upd_same, Nat.zero_le _⟩
  · rintro i σ' H' hi ⟨x, rfl, hs, hr2, _⟩
    refine ⟨_, rfl, .inl ⟨rfl, _, SqL.of hr2⟩, ?_⟩
    refine ⟨_, rfl, t, _, _, _, rfl, rfl, SqT.of (hs _ _ ht), atI_nat (j := 1) rfl, l, rfl, ⟨_, SqL.of (hs _ _ hl)⟩, ?_⟩
    refine lcB_list rfl (SqL.of (hs _ _ hl)) (by rw [List.length_map]; omega) (fun _ => true) (fun x => match x with | .int o => .bl (withinB o (0 + (i : Int))) | _ => .non) (fun x hx H1 h1 R q => q H1 (Same.refl _)) (fun x hx _ H1 h1 R q => ?_) fun H1 D h1 hD => ?_
    · obtain ⟨o, _, rfl⟩ := List.mem_map.mp hx
      refine ⟨_, rfl, _, rfl, _, _, rfl, rfl, _, rfl, rfl, ?_⟩
      have z : R (.bl (withinB o (0 + (i : Int)))) H1 := q H1 (Same.refl _)
      unfold withinB at z
      rw [PyProof.Rows.bitAnd_comm, show decide (Builtin.bitAnd (0 + (i : Int)) o = o) = decide (V.int (Builtin.bitAnd (0 + (i : Int)) o) = V.int o) by rw [dec_int]; rfl] at z
      exact z
    · have s1 : Same H' (upd H1 D (.lst (((gs.map V.int).filter fun _ => true).map fun x => match x with | .int o => .bl (withinB o (0 + (i : Int))) | _ => .non))) := h1.trans (same_new hD _)
      refine ⟨D, gs.map fun o => withinB o (0 + (i : Int)), rfl, SqL.of ?_, r, _, _, rfl, rfl, s1 _ _ hr2, small1000 (by rw [List.length_map, List.length_map, up_length]; omega), ?_⟩
      · rw [upd_same, List.filter_eq_self.mpr (fun _ _ => rfl), List.map_map, List.map_map]
        rfl
      · refine ⟨_, rfl, same_upd (hs.trans s1) hr', ?_, hi⟩
        rw [upd_same, up_succ, List.map_append, List.map_append]
        have e : ((gs.map fun o => withinB o (0 + (i : Int))).any id) = carrB gs (i : Int) := by unfold carrB; rw [List.any_map, Int.zero_add]; rfl
        rw [e]
        rfl
  · rintro σ' H' ⟨x, rfl, hs, hr2, _⟩
    exact ⟨_, rfl, k r H' hr' hs hr2⟩
theorem ok_law_has {P : Program} {w : World} {K : PySem.W.Frag} {mg : Str → Option Value} {base : Heap} {a : Adr} (T : Txt K mg a) : FnOk P w K mg base CX0 1 a.a_law_has a.d_law_has ["_law_group", "_law_member"] sp_has := by
  refine T.F_law_has.ok sc_law_has (fun vs H Q E h => ?_) (fun cdv A outer s H vs Q E hr h => ?_)
  · obtain ⟨x, y, rfl, _⟩ := h; rfl
  obtain ⟨g, m, rfl, hm, k⟩ := h
  refine ⟨_, (pss_one (ps_ret (pe_cmpR op_eq (pe_op op_and (pe_op op_shr (pv 0) (pv 1)) pe_int) pe_int (nomark _)))), ?_⟩
  refine ⟨_, rfl, _, rfl, _, _, rfl, rfl, hm, _, _, rfl, rfl, rfl, ?_⟩
  have q : Q (.bl (hasB g m)) H := k H (Same.refl H)
  unfold hasB at q
  rw [show decide (Builtin.bitAnd (g / 2 ^ m.toNat) 1 = 1) = decide (V.int (Builtin.bitAnd (g / 2 ^ m.toNat) 1) = V.int 1) by rw [dec_int]; rfl] at q
  exact q
def sp_law_groups : Sp := fun vs H Q _ => ∃ (p q : Addr) (ns : List Int), vs = [.ref p, .ref q] ∧ H p = some (.lst (ns.map V.int)) ∧ H q = some (.lst (ns.map V.int)) ∧ ns.length ≤ 1000 ∧ ∀ H', Same H H' → Q (.bl true) H'
def sp_law_least : Sp := fun vs H Q _ => ∃ (l : Addr) (n : Nat) (tb : List Bool), vs = [.ref l, .int n] ∧ H l = some (.lst (tb.map V.bl)) ∧ n ≤ 5 ∧ tb.length = 2 ^ n ∧ ∀ r H', H r = none → Same H H' → H' r = some (.lst ((leastBy (fun g m => Builtin.bitXor g (1 * 2 ^ m.toNat)) n tb).map V.int)) → Q (.ref r) H'
def sp_law_greatest : Sp := fun vs H Q _ => ∃ (l : Addr) (n : Nat) (tb : List Bool), vs = [.ref l, .int n] ∧ H l = some (.lst (tb.map V.bl)) ∧ n ≤ 5 ∧ tb.length = 2 ^ n ∧ ∀ r H', H r = none → Same H H' → H' r = some (.lst ((greatBy (fun g m => Builtin.bitOr g (1 * 2 ^ m.toNat)) n tb).map V.int)) → Q (.ref r) H'
def sp_law_is (C : Addr) : Sp := fun vs H Q _ => ∃ (p : Addr) (n : Nat) (l : Addr) (tb : List Bool), vs = [.ref p, .int n, .ref l] ∧ CAt C H p n tb ∧ H l = some (.lst (tb.map V.bl)) ∧ ∀ H', Same H H' → Q (.bl true) H'
def sp_law (K : PySem.W.Frag) : Sp := fun vs H Q _ => ∃ (a : Addr) (ns : List Int), vs = [.ref a] ∧ SqL K H a (ns.map V.int) ∧ ns.length ≤ 63 ∧ ∀ H', Q (.bl true) H'
end Wv
namespace Wv
open PySem L2
def sp_law_built (C : Addr) : Sp := fun vs H Q _ => ∃ (t : Addr) (n : Nat) (l : Addr) (gs : List Int) (c : Int), vs = [.ref t, .int c] ∧ ToldAt H t n l gs ∧
  ∀ q H', H q = none → Same H H' → CAt C H' q n (tabOf n gs) → Q (.ref q) H'
theorem built_tab {n : Nat} (hn : n ≤ 5) {gs : List Int} (hg : ∀ g ∈ gs, 0 ≤ g ∧ g < ((2 ^ n : Nat) : Int)) :
    tabTurned n (tabOf n ((up (2 ^ n)).filter fun g => !at_ (tabOf n gs) (((2 ^ n : Nat) : Int) - 1 - g))) = tabOf n gs ∧ Mono n (tabOf n ((up (2 ^ n)).filter fun g => !at_ (tabOf n gs) (((2 ^ n : Nat) : Int) - 1 - g))) := by
  have hm : Mono n (tabOf n gs) := mono_tab hn fun g h => mem_up.mpr (hg g h)
  rw [tab_turned hn hm]
  exact ⟨turned_twice (tabOf_length n gs), mono_turned hn hm⟩
theorem ok_law_built {P : Program} {w : World} {K : PySem.W.Frag} {mg : Str → Option Value} {base : Heap} {a : Adr} (T : Txt K mg a) : FnOk P w K mg base CX0 7 a.a_law_built a.d_law_built ["_law_told_here", "_law_cell"] (sp_law_built a.C_Council) := by
  refine T.F_law_built.ok sc_law_built (fun vs H Q E h => ?_) (fun cdv A outer s H vs Q E hr h => ?_)
  · obtain ⟨t, n, l, gs, c, rfl, _⟩ := h; rfl
  obtain ⟨t, n, l, gs, c, rfl, hT, k⟩ := h
  refine ⟨_, (pss_cons (ps_if (pt_cmpR op_gt (pe_op op_mod (pv 1) pe_int) pe_int (nomark _)) (pss_one (ps_ret (pe_make T.mk_Council (ok_Council_init T) (hr.mono (by decide)) rfl T.m_Council (b_Council_init T) .nil pass0 (pa_cons (pe_ix (ix_tupK K) (pv 0) pe_int (fun _ _ => rfl)) (pa_cons (pe_ix (ix_tupK K) (pv 0) pe_int (fun _ _ => rfl)) pa_nil))))) pss_nil)
      (pss_cons (ps_set (i := 2) sc_law_built.nd rfl (by first | exact Or.inl rfl | exact Or.inr rfl) (pe_call (ok_law_table T) (hr.mono (by decide)) rfl T.m_law_table T.F_law_table.kp (b_law_table T) .nil pass0 (pa_cons (pv 0) pa_nil)))
      (pss_cons (ps_lc (i := 3) sc_law_built.nd rfl rfl rfl (lcOk_of (S := defScope s_law_built) (N := ["_law_told_here", "_law_cell", "_law_table_here", "_law_groups"]) (M := ["_law_told_here", "_law_cell", "_law_table_here", "_law_groups", "_law_group"]) (by decide +kernel)) (pi_range1 rfl T.z_range (pa_cons (pe_callB (call_lenK K) rfl T.z_len PySem.boot_len (pa_cons (pv 2) pa_nil)) pa_nil)) (fun _ _ _ _ => (pg_name (i := 4) (show List.Nodup (["_law_told_here", "_law_cell", "_law_table_here", "_law_groups", "_law_group"] : List Str) by decide +kernel) rfl (by first | exact Or.inl rfl | exact Or.inr rfl))) (fun _ _ _ _ => (pifs_one (pt_not (pt_val (pe_ix (ix_listK K) (pv 2) (pe_op op_sub (pe_op op_sub (pe_callB (call_lenK K) rfl T.z_len PySem.boot_len (pa_cons (pv 2) pa_nil)) pe_int) (pv 4)) (fun _ _ => rfl)))))) (fun _ _ _ _ => (pv 4)))
      (pss_one (ps_ret (pe_call (ok_turned T) hr rfl T.m_turned T.F_turned.kp (b_turned T) .nil pass0 (pa_cons (pe_make T.mk_Council (ok_Council_init T) (hr.mono (by decide)) rfl T.m_Council (b_Council_init T) .nil pass0 (pa_cons (pe_ix (ix_tupK K) (pv 0) pe_int (fun _ _ => rfl)) (pa_cons (pv 3) pa_nil))) pa_nil))))))), ?_⟩
  obtain ⟨ht, hl, n1, n5, hz, hb⟩ := id hT
  have h5 := two_le n5
  have p0 : (0 : Int) ≤ ((2 ^ n : Nat) : Int) := Int.natCast_nonneg _
  refine ⟨_, rfl, _, _, rfl, rfl, (by show (0 : Int) < 3; decide), _, _, rfl, rfl, _, rfl, ?_⟩
  refine ite_b (fun _ => ?_) (fun _ => ?_)
  · refine ⟨_, rfl, t, _, _, _, rfl, rfl, SqT.of ht, atI_nat (j := 0) rfl, _, rfl, t, _, _, _, rfl, rfl, SqT.of ht, atI_nat (j := 1) rfl, fun x dx nx ndx nex => ?_⟩
    have s4 : Same H (upd (upd H dx (.own x)) x (.ins a.C_Council dx [])) := (same_new ndx _).trans (same_new (by rw [upd_ne (Ne.symm nex)]; exact nx) _)
    refine ⟨x, dx, n, l, gs, rfl, upd_same, n1, n5, s4 _ _ hl, ⟨by omega, hb⟩, fun H4 c0 kp4 => ⟨rfl, ?_⟩⟩
    exact k x H4 nx (fun b o hb' => kp4 b o (s4 b o hb') (ne_of_none hb' nx)) c0
  · refine ⟨_, rfl, t, n, l, gs, rfl, hT, fun f1 H1 nf1 h1 hf1 => ?_⟩
    refine ⟨_, rfl, f1, _, rfl, .inl (SqL.of hf1), ((2 ^ n : Nat) : Int), by rw [List.length_map, tabOf_length], by omega, by omega, ?_⟩
    refine lcB_range (k := 2 ^ n) rfl (by omega) (fun g => !at_ (tabOf n gs) (((2 ^ n : Nat) : Int) - 1 - g)) V.int (fun x x0 x1 H2 h2 R q => ?_) (fun x x0 x1 _ H2 h2 R q => ⟨_, rfl, q H2 (Same.refl _)⟩) fun H2 D h2 hD => ?_
    · obtain ⟨y0, y1⟩ := mem_up.mp (co_mem (n := n) (mem_up.mpr ⟨x0, x1⟩))
      refine ⟨_, rfl, _, rfl, f1, _, rfl, .inl (SqL.of (h2 _ _ hf1)), ?_⟩
      rw [List.length_map, tabOf_length]
      refine ⟨_, _, rfl, rfl, _, rfl, _, _, rfl, rfl, f1, _, _, _, rfl, rfl, SqL.of (h2 _ _ hf1), tup_at y0 (by rw [tabOf_length]; exact y1), _, rfl, q H2 (Same.refl _)⟩
    have s3 : Same H (upd H2 D (.lst (((up (2 ^ n)).filter fun g => !at_ (tabOf n gs) (((2 ^ n : Nat) : Int) - 1 - g)).map V.int))) := h1.trans (h2.trans (same_new hD _))
    have hD3 : upd H2 D (.lst (((up (2 ^ n)).filter fun g => !at_ (tabOf n gs) (((2 ^ n : Nat) : Int) - 1 - g)).map V.int)) D = some (.lst (((up (2 ^ n)).filter fun g => !at_ (tabOf n gs) (((2 ^ n : Nat) : Int) - 1 - g)).map V.int)) := upd_same
    generalize upd H2 D (.lst (((up (2 ^ n)).filter fun g => !at_ (tabOf n gs) (((2 ^ n : Nat) : Int) - 1 - g)).map V.int)) = H3 at s3 hD3
    refine ⟨_, rfl, t, _, _, _, rfl, rfl, SqT.of (s3 _ _ ht), atI_nat (j := 0) rfl, _, rfl, fun x dx nx ndx nex => ?_⟩
    have s4 : Same H3 (upd (upd H3 dx (.own x)) x (.ins a.C_Council dx [])) := (same_new ndx _).trans (same_new (by rw [upd_ne (Ne.symm nex)]; exact nx) _)
    refine ⟨x, dx, n, D, _, rfl, upd_same, n1, n5, s4 _ _ hD3, ⟨?_, fun g hg => ?_⟩, fun H4 c0 kp4 => ⟨rfl, ?_⟩⟩
    · have z := List.length_filter_le (fun g => !at_ (tabOf n gs) (((2 ^ n : Nat) : Int) - 1 - g)) (up (2 ^ n))
      rw [up_length] at z
      omega
    · exact mem_up.mp (List.mem_filter.mp hg).1
    have s34 : Same H3 H4 := fun b o hb' => kp4 b o (s4 b o hb') (ne_of_none hb' nx)
    obtain ⟨e1, e2⟩ := built_tab n5 hb
    refine ⟨x, n, _, rfl, c0, e2, fun q H5 nq h5' c5 => ?_⟩
    rw [e1] at c5
    exact k q H5 ((s3.trans s34).free nq) (s3.trans (s34.trans h5')) c5
end Wv

set_option Elab.async false
set_option linter.all false
set_option maxRecDepth 100000
set_option maxHeartbeats 4000000

namespace Wv
open PySem L2
seal L2.PSs L2.PS L2.PE L2.PA L2.PT L2.PI L2.PW L2.PG L2.PGs L2.PIfs
/-! ## the law's own reckoning -/
def sp_law_whole : Sp := fun vs H Q _ => ∃ (l : Addr) (xs : List Int), vs = [.ref l] ∧ H l = some (.lst (xs.map V.int)) ∧ xs.length ≤ 1000 ∧ (∀ x ∈ xs, 0 ≤ x) ∧ ∀ H', Same H H' → Q (.bl true) H'
theorem ok_law_whole {P : Program} {w : World} {K : PySem.W.Frag} {mg : Str → Option Value} {base : Heap} {a : Adr} (T : Txt K mg a) : FnOk P w K mg base CX0 1 a.a_law_whole a.d_law_whole ["_law_things"] sp_law_whole := by
  refine T.F_law_whole.ok sc_law_whole (fun vs H Q E h => ?_) (fun cdv A outer s H vs Q E hr h => ?_)
  · obtain ⟨l, xs, rfl, _⟩ := h; rfl
  obtain ⟨l, xs, rfl, hl, hz, h0, k⟩ := h
  refine ⟨_, (pss_cons (ps_if (pt_not (pt_val (pe_callB (call_isiK K) rfl T.z_isinstance PyProof.Rows.boot_isinstance (pa_cons (pv 0) (pa_cons (pe_bltn (v := .ty "list") rfl T.z_list PyProof.Rows.boot_list rfl) pa_nil))))) (pss_one (ps_ret pe_bl)) pss_nil)
      (pss_one (ps_ret (pe_callB (call_allK K rfl) rfl T.z_all PyProof.Rows.boot_all (pa_cons (pe_lc rfl (lcOk_of (S := defScope s_law_whole) (N := ["_law_things"]) (M := ["_law_things", "_law_one"]) (by decide +kernel)) (pi_listK K (pv 0)) (fun _ _ _ _ => (pg_name (i := 1) (show List.Nodup (["_law_things", "_law_one"] : List Str) by decide +kernel) rfl (by first | exact Or.inl rfl | exact Or.inr rfl))) (fun _ _ _ _ => pifs_nil) (fun _ _ _ _ => (pe_and (pe_callB (call_isiK K) rfl T.z_isinstance PyProof.Rows.boot_isinstance (pa_cons (pv 1) (pa_cons (pe_bltn (v := .ty "int") rfl T.z_int PyProof.Rows.boot_int rfl) pa_nil))) (pe_and (pe_not (pe_callB (call_isiK K) rfl T.z_isinstance PyProof.Rows.boot_isinstance (pa_cons (pv 1) (pa_cons (pe_bltn (v := .ty "bool") rfl T.z_bool PyProof.Rows.boot_bool rfl) pa_nil)))) (pe_one (pe_cmpR op_ge (pv 1) pe_int (nomark _))))))) pa_nil))))), ?_⟩
  refine ⟨_, rfl, _, "list", "list", true, rfl, .lst hl, .inr (.inr rfl), isi_ll, true, rfl, iteF ?_⟩
  refine ⟨_, rfl, l, rfl, ⟨_, SqL.of hl⟩, ?_⟩
  refine lcB_list rfl (SqL.of hl) (by rw [List.length_map]; exact hz) (fun _ => true) (fun x => match x with | .int o => .bl (decide (0 ≤ o)) | _ => .non) (fun x hx H2 s2 R z => z H2 (Same.refl _)) (fun x hx _ H2 s2 R z => ?_) fun H2 D s2 hD => ?_
  · obtain ⟨o, ho, rfl⟩ := List.mem_map.mp hx
    refine ⟨_, rfl, _, "int", "int", true, rfl, .int o, .inl rfl, isi_ii, true, rfl, iteT ?_⟩
    refine ⟨_, rfl, _, "int", "bool", false, rfl, .int o, .inr (.inl rfl), isi_ib, false, rfl, true, rfl, iteT ?_⟩
    exact ⟨_, rfl, _, _, rfl, rfl, z H2 (Same.refl _)⟩
  · refine ⟨D, xs.map fun o => decide (0 ≤ o), rfl, SqL.of ?_, ?_⟩
    · rw [upd_same, List.filter_eq_self.mpr (fun _ _ => rfl), List.map_map, List.map_map]
      rfl
    · rw [all_true fun o ho => decide_eq_true (h0 o ho)]
      exact k _ (s2.trans (same_new hD _))
theorem pow_inj {a b : Nat} (h : 2 ^ a = 2 ^ b) : a = b := (Nat.pow_right_inj (by decide)).mp h
def sp_law_made : Sp := fun vs H Q _ => ∃ (t l : Addr) (n : Nat) (tb : List Bool) (ws : List Int) (q : Int), vs = [.ref t, .ref l, .int q] ∧ H t = some (.lst (tb.map V.bl)) ∧ tb.length = 2 ^ n ∧ n ≤ 5 ∧ H l = some (.lst (ws.map V.int)) ∧ ws.length ≤ 1000 ∧ ∀ H', Same H H' → Q (.bl (madeB n tb ws q)) H'
theorem ok_law_made {P : Program} {w : World} {K : PySem.W.Frag} {mg : Str → Option Value} {base : Heap} {a : Adr} (T : Txt K mg a) : FnOk P w K mg base CX0 2 a.a_law_made a.d_law_made ["_law_table_here", "_law_weights", "_law_quota"] sp_law_made := by
  refine T.F_law_made.ok sc_law_made (fun vs H Q E h => ?_) (fun cdv A outer s H vs Q E hr h => ?_)
  · obtain ⟨t, l, n, tb, ws, q, rfl, _⟩ := h; rfl
  obtain ⟨t, l, n, tb, ws, q, rfl, ht, hl, n5, hw, hz, k⟩ := h
  refine ⟨_, (pss_cons (ps_if (pt_cmpR op_ne (pe_op op_shl pe_int (pe_callB (call_lenK K) rfl T.z_len PySem.boot_len (pa_cons (pv 1) pa_nil))) (pe_callB (call_lenK K) rfl T.z_len PySem.boot_len (pa_cons (pv 0) pa_nil)) (nomark _)) (pss_one (ps_ret pe_bl)) pss_nil)
      (pss_cons (ps_for PassesOwn.never rfl (pi_range1 rfl T.z_range (pa_cons (pe_callB (call_lenK K) rfl T.z_len PySem.boot_len (pa_cons (pv 0) pa_nil)) pa_nil)) (pg_name (i := 3) sc_law_made.nd rfl (by first | exact Or.inl rfl | exact Or.inr rfl)) (pss_cons (ps_set (i := 4) sc_law_made.nd rfl (by first | exact Or.inl rfl | exact Or.inr rfl) (pe_callB (call_sumK K rfl) rfl T.z_sum PyProof.Rows.boot_sum (pa_cons (pe_lc rfl (lcOk_of (S := defScope s_law_made) (N := ["_law_table_here", "_law_weights", "_law_quota", "_law_group", "_law_total"]) (M := ["_law_table_here", "_law_weights", "_law_quota", "_law_group", "_law_total", "_law_k"]) (by decide +kernel)) (pi_range1 rfl T.z_range (pa_cons (pe_callB (call_lenK K) rfl T.z_len PySem.boot_len (pa_cons (pv 1) pa_nil)) pa_nil)) (fun _ _ _ _ => (pg_name (i := 5) (show List.Nodup (["_law_table_here", "_law_weights", "_law_quota", "_law_group", "_law_total", "_law_k"] : List Str) by decide +kernel) rfl (by first | exact Or.inl rfl | exact Or.inr rfl))) (fun _ _ _ _ => (pifs_one (pt_val (pe_call (ok_law_has T) hr rfl T.m_law_has T.F_law_has.kp (b_law_has T) .nil pass0 (pa_cons (pv 3) (pa_cons (pv 5) pa_nil)))))) (fun _ _ _ _ => (pe_ix (ix_listK K) (pv 1) (pv 5) (fun _ _ => rfl)))) pa_nil)))
      (pss_one (ps_if (pt_cmpR op_ne (pe_ix (ix_listK K) (pv 0) (pv 3) (fun _ _ => rfl)) (pe_cmpR op_ge (pv 4) (pv 2) (nomark _)) (nomark _)) (pss_one (ps_ret pe_bl)) pss_nil))))
      (pss_one (ps_ret pe_bl)))), ?_⟩
  have h5 := two_le n5
  refine ⟨_, rfl, l, _, rfl, .inl (SqL.of hw), _, _, rfl, rfl, shl_ok (by rw [List.length_map]; exact hz), _, rfl, t, _, rfl, .inl (SqL.of ht), rfl, _, rfl, ?_⟩
  rw [dec_int, List.length_map, List.length_map, hl, pow_n]
  by_cases hlen' : ¬ ws.length = n
  · refine ite_t ?_ (qbl ?_ (k _ (Same.refl _)))
    · have h1 : ¬ 2 ^ ws.length = 2 ^ n := fun z => hlen' (pow_inj z)
      have h2 : ¬ ((2 ^ ws.length : Nat) : Int) = ((2 ^ n : Nat) : Int) := fun z => h1 (Int.ofNat.inj z)
      rw [beq_eq_false_iff_ne.mpr h2]
      rfl
    · unfold madeB
      rw [decide_eq_false hlen']
      rfl
  have hlen : ws.length = n := Decidable.not_not.mp hlen'
  refine ite_f (by rw [hlen, beq_self_eq_true]; rfl) ?_
  refine ⟨_, rfl, t, _, rfl, .inl (SqL.of ht), ((2 ^ n : Nat) : Int), by rw [List.length_map, hl], by omega, by omega, ?_⟩
  refine for_range (n := 2 ^ n) (fun i σ' H' => ∃ x y : Option V, σ' = [some (.ref t), some (.ref l), some (.int q), x, y] ∧ Same H H' ∧ i ≤ 2 ^ n ∧ (up i).all (fun g => at_ tb g == decide (q ≤ wtOf ws g)) = true) ?_ ?_ ?_
  · exact ⟨none, none, rfl, Same.refl _, Nat.zero_le _, rfl⟩
  · rintro i σ' H1 hi ⟨x, y, rfl, hs1, _, ha⟩
    refine ⟨_, rfl, l, _, rfl, .inl (SqL.of (hs1 _ _ hw)), (ws.length : Int), by rw [List.length_map], by omega, by omega, ?_⟩
    refine lcB_range (k := ws.length) rfl (by omega) (hasB (i : Int)) (fun k => .int (ws.getD k.toNat 0)) (fun x x0 x1 H2 s2 R z => ?_) (fun x x0 x1 _ H2 s2 R z => ?_) fun H2 D s2 hD => ?_
    · refine ⟨_, rfl, _, rfl, _, _, rfl, x0, fun H3 s3 => ⟨_, rfl, ?_⟩⟩
      rw [Int.zero_add]
      exact z H3 s3
    · have hx : x.toNat < ws.length := by omega
      have ex : x = ((x.toNat : Nat) : Int) := by omega
      refine ⟨_, rfl, _, rfl, l, _, _, _, rfl, rfl, SqL.of (s2 _ _ (hs1 _ _ hw)), ?_, z H2 (Same.refl _)⟩
      rw [ex]
      refine atI_nat (j := x.toNat) ?_
      rw [List.getElem?_map, List.getD_eq_getElem?_getD, Int.toNat_natCast, List.getElem?_eq_getElem hx]
      rfl
    · have eS : upd H2 D (.lst (((up ws.length).filter (hasB (i : Int))).map fun k => V.int (ws.getD k.toNat 0))) D = some (.lst ((((up ws.length).filter (hasB (i : Int))).map fun k => ws.getD k.toNat 0).map V.int)) := by
        rw [upd_same, List.map_map]
        rfl
      have s3 : Same H1 (upd H2 D (.lst (((up ws.length).filter (hasB (i : Int))).map fun k => V.int (ws.getD k.toNat 0)))) := s2.trans (same_new hD _)
      generalize upd H2 D (.lst (((up ws.length).filter (hasB (i : Int))).map fun k => V.int (ws.getD k.toNat 0))) = H3 at eS s3
      refine ⟨D, _, rfl, SqL.of eS, ?_⟩
      have hs3 := hs1.trans s3
      refine ⟨_, rfl, _, rfl, t, _, _, _, rfl, rfl, SqL.of (hs3 _ _ ht), (by rw [Int.zero_add]; exact tup_at (g := (i : Int)) (by omega) (by omega)), ?_⟩
      refine ⟨_, rfl, _, rfl, _, _, rfl, rfl, rfl, _, rfl, ?_⟩
      rw [dec_bl]
      have ew : (((up ws.length).filter (hasB (i : Int))).map fun k => ws.getD k.toNat 0).sum = wtOf ws (i : Int) := rfl
      rw [ew]
      cases hc : at_ tb (i : Int) == decide (q ≤ wtOf ws (i : Int)) with
      | true =>
        refine ite_f rfl ⟨_, _, rfl, hs3, hi, ?_⟩
        · rw [up_succ, List.all_append, ha]
          simpa using hc
      | false =>
        refine ite_t rfl (qbl ?_ (k _ hs3))
        · unfold madeB
          have : (up (2 ^ n)).all (fun g => at_ tb g == decide (q ≤ wtOf ws g)) = false := by
            rw [← Bool.not_eq_true, List.all_eq_true]
            intro z
            have := z (i : Int) (mem_up.mpr ⟨by omega, by omega⟩)
            rw [hc] at this
            cases this
          rw [this, Bool.and_false]
  · rintro σ' H3 ⟨x, y, rfl, hs3, _, ha⟩
    refine qbl ?_ (k _ hs3)
    unfold madeB
    rw [decide_eq_true hlen, ha]
    rfl
def sp_law_traded : Sp := fun vs H Q _ => ∃ (t l m : Addr) (n : Nat) (tb : List Bool) (cs fs : List Int), vs = [.ref t, .ref l, .ref m, .int n] ∧ H t = some (.lst (tb.map V.bl)) ∧ tb.length = 2 ^ n ∧ n ≤ 5 ∧ H l = some (.lst (cs.map V.int)) ∧ H m = some (.lst (fs.map V.int)) ∧ cs.length ≤ 400 ∧ fs.length ≤ 400 ∧ (∀ g ∈ cs, g ∈ up (2 ^ n)) ∧ (∀ g ∈ fs, g ∈ up (2 ^ n)) ∧ ∀ H', Same H H' → Q (.bl (tradedB n tb cs fs)) H'
theorem ok_law_traded {P : Program} {w : World} {K : PySem.W.Frag} {mg : Str → Option Value} {base : Heap} {a : Adr} (T : Txt K mg a) : FnOk P w K mg base CX0 2 a.a_law_traded a.d_law_traded ["_law_table_here", "_law_carry", "_law_fail", "_law_members"] sp_law_traded := by
  refine T.F_law_traded.ok sc_law_traded (fun vs H Q E h => ?_) (fun cdv A outer s H vs Q E hr h => ?_)
  · obtain ⟨t, l, m, n, tb, cs, fs, rfl, _⟩ := h; rfl
  obtain ⟨t, l, m, n, tb, cs, fs, rfl, ht, hl, n5, hc, hf, zc, zf, gc, gf, k⟩ := h
  refine ⟨_, (pss_cons (ps_if (PW.pt (pw_or (pt_cmpR op_ne (pe_callB (call_lenK K) rfl T.z_len PySem.boot_len (pa_cons (pv 1) pa_nil)) (pe_callB (call_lenK K) rfl T.z_len PySem.boot_len (pa_cons (pv 2) pa_nil)) (nomark _)) (pw_or1 (pt_cmpR (op_eqLK K hr.units0) (pv 1) (pe_lst pa_nil) (nomark _))))) (pss_one (ps_ret pe_bl)) pss_nil)
      (pss_cons (ps_if (PW.pt (pw_or (pt_not (pt_val (pe_callB (call_allK K rfl) rfl T.z_all PyProof.Rows.boot_all (pa_cons (pe_lc rfl (lcOk_of (S := defScope s_law_traded) (N := ["_law_table_here", "_law_carry", "_law_fail", "_law_members", "_law_k"]) (M := ["_law_table_here", "_law_carry", "_law_fail", "_law_members", "_law_k", "_law_group"]) (by decide +kernel)) (pi_listK K (pv 1)) (fun _ _ _ _ => (pg_name (i := 5) (show List.Nodup (["_law_table_here", "_law_carry", "_law_fail", "_law_members", "_law_k", "_law_group"] : List Str) by decide +kernel) rfl (by first | exact Or.inl rfl | exact Or.inr rfl))) (fun _ _ _ _ => pifs_nil) (fun _ _ _ _ => (pe_ix (ix_listK K) (pv 0) (pv 5) (fun _ _ => rfl)))) pa_nil)))) (pw_or1 (pt_val (pe_callB (call_anyK K rfl) rfl T.z_any PyProof.Rows.boot_any (pa_cons (pe_lc rfl (lcOk_of (S := defScope s_law_traded) (N := ["_law_table_here", "_law_carry", "_law_fail", "_law_members", "_law_k"]) (M := ["_law_table_here", "_law_carry", "_law_fail", "_law_members", "_law_k", "_law_group"]) (by decide +kernel)) (pi_listK K (pv 2)) (fun _ _ _ _ => (pg_name (i := 5) (show List.Nodup (["_law_table_here", "_law_carry", "_law_fail", "_law_members", "_law_k", "_law_group"] : List Str) by decide +kernel) rfl (by first | exact Or.inl rfl | exact Or.inr rfl))) (fun _ _ _ _ => pifs_nil) (fun _ _ _ _ => (pe_ix (ix_listK K) (pv 0) (pv 5) (fun _ _ => rfl)))) pa_nil)))))) (pss_one (ps_ret pe_bl)) pss_nil)
      (pss_cons (ps_for PassesOwn.never rfl (pi_range1 rfl T.z_range (pa_cons (pv 3) pa_nil)) (pg_name (i := 4) sc_law_traded.nd rfl (by first | exact Or.inl rfl | exact Or.inr rfl)) (pss_one (ps_if (pt_cmpR op_lt (pe_callB (call_lenK K) rfl T.z_len PySem.boot_len (pa_cons (pe_lc rfl (lcOk_of (S := defScope s_law_traded) (N := ["_law_table_here", "_law_carry", "_law_fail", "_law_members", "_law_k"]) (M := ["_law_table_here", "_law_carry", "_law_fail", "_law_members", "_law_k", "_law_group"]) (by decide +kernel)) (pi_listK K (pv 2)) (fun _ _ _ _ => (pg_name (i := 5) (show List.Nodup (["_law_table_here", "_law_carry", "_law_fail", "_law_members", "_law_k", "_law_group"] : List Str) by decide +kernel) rfl (by first | exact Or.inl rfl | exact Or.inr rfl))) (fun _ _ _ _ => (pifs_one (pt_val (pe_call (ok_law_has T) hr rfl T.m_law_has T.F_law_has.kp (b_law_has T) .nil pass0 (pa_cons (pv 5) (pa_cons (pv 4) pa_nil)))))) (fun _ _ _ _ => pe_int)) pa_nil)) (pe_callB (call_lenK K) rfl T.z_len PySem.boot_len (pa_cons (pe_lc rfl (lcOk_of (S := defScope s_law_traded) (N := ["_law_table_here", "_law_carry", "_law_fail", "_law_members", "_law_k"]) (M := ["_law_table_here", "_law_carry", "_law_fail", "_law_members", "_law_k", "_law_group"]) (by decide +kernel)) (pi_listK K (pv 1)) (fun _ _ _ _ => (pg_name (i := 5) (show List.Nodup (["_law_table_here", "_law_carry", "_law_fail", "_law_members", "_law_k", "_law_group"] : List Str) by decide +kernel) rfl (by first | exact Or.inl rfl | exact Or.inr rfl))) (fun _ _ _ _ => (pifs_one (pt_val (pe_call (ok_law_has T) hr rfl T.m_law_has T.F_law_has.kp (b_law_has T) .nil pass0 (pa_cons (pv 5) (pa_cons (pv 4) pa_nil)))))) (fun _ _ _ _ => pe_int)) pa_nil)) (nomark _)) (pss_one (ps_ret pe_bl)) pss_nil)))
      (pss_one (ps_ret pe_bl))))), ?_⟩
  have h5 := two_le n5
  refine ⟨_, rfl, l, _, rfl, .inl (SqL.of hc), _, rfl, m, _, rfl, .inl (SqL.of hf), rfl, _, rfl, ?_⟩
  rw [dec_int, List.length_map, List.length_map]
  by_cases hlen' : ¬ cs.length = fs.length
  · refine ite_t (by simp; omega) (qbl ?_ (k _ (Same.refl _)))
    unfold tradedB
    rw [decide_eq_false hlen']
    simp
  have hlen : cs.length = fs.length := Decidable.not_not.mp hlen'
  refine ite_f (by rw [hlen]; simp) ?_
  refine ⟨_, rfl, (by show 0 ≤ sizeLine; decide), fun e ne => ?_⟩
  have s1 : Same H (upd H e (.lst [])) := same_new ne _
  have he1 : upd H e (.lst []) e = some (.lst (([] : List Int).map V.int)) := upd_same
  generalize upd H e (.lst []) = H1 at s1 he1
  refine ⟨l, e, cs, [], rfl, rfl, SqL.of (s1 _ _ hc), SqL.of he1, _, rfl, ?_⟩
  by_cases hne : cs = []
  · refine ite_t (decide_eq_true hne) (qbl ?_ (k _ s1))
    unfold tradedB
    rw [decide_eq_true hne]
    simp
  refine ite_f (decide_eq_false hne) ?_
  refine ⟨_, rfl, l, rfl, ⟨_, SqL.of (s1 _ _ hc)⟩, ?_⟩
  refine lcB_list rfl (SqL.of (s1 _ _ hc)) (by rw [List.length_map]; omega) (fun _ => true) (fun x => match x with | .int g => .bl (at_ tb g) | _ => .non) (fun x hx H2 s2 R z => z H2 (Same.refl _)) (fun x hx _ H2 s2 R z => ?_) fun H2 D s2 hD => ?_
  · obtain ⟨g, hg, rfl⟩ := List.mem_map.mp hx
    obtain ⟨g0, g1⟩ := mem_up.mp (gc g hg)
    exact ⟨_, rfl, _, rfl, t, _, _, _, rfl, rfl, SqL.of (s2 _ _ (s1 _ _ ht)), tup_at g0 (by rw [hl]; exact g1), z H2 (Same.refl _)⟩
  have eB : (((cs.map V.int).filter fun _ => true).map fun x => match x with | .int g => V.bl (at_ tb g) | _ => .non) = (cs.map (at_ tb)).map V.bl := by
    rw [List.filter_eq_self.mpr (fun _ _ => rfl), List.map_map, List.map_map]
    rfl
  rw [eB]
  refine ⟨D, _, rfl, SqL.of upd_same, _, rfl, ?_⟩
  have s3 : Same H (upd H2 D (.lst ((cs.map (at_ tb)).map V.bl))) := s1.trans (s2.trans (same_new hD _))
  generalize upd H2 D (.lst ((cs.map (at_ tb)).map V.bl)) = H3 at s3
  clear s2 hD
  cases hca : cs.all (at_ tb) with
  | false =>
    refine ite_t (by rw [List.all_map]; show (!cs.all (at_ tb)) = true; rw [hca]; rfl) (qbl ?_ (k _ s3))
    unfold tradedB
    rw [hca]
    simp
  | true =>
  refine ite_f (by rw [List.all_map]; show (!cs.all (at_ tb)) = false; rw [hca]; rfl) ?_
  refine ⟨_, rfl, m, rfl, ⟨_, SqL.of (s3 _ _ hf)⟩, ?_⟩
  refine lcB_list rfl (SqL.of (s3 _ _ hf)) (by rw [List.length_map]; omega) (fun _ => true) (fun x => match x with | .int g => .bl (at_ tb g) | _ => .non) (fun x hx H2 s2 R z => z H2 (Same.refl _)) (fun x hx _ H4 s4 R z => ?_) fun H4 D s4 hD => ?_
  · obtain ⟨g, hg, rfl⟩ := List.mem_map.mp hx
    obtain ⟨g0, g1⟩ := mem_up.mp (gf g hg)
    exact ⟨_, rfl, _, rfl, t, _, _, _, rfl, rfl, SqL.of (s4 _ _ (s3 _ _ ht)), tup_at g0 (by rw [hl]; exact g1), z H4 (Same.refl _)⟩
  have eF : (((fs.map V.int).filter fun _ => true).map fun x => match x with | .int g => V.bl (at_ tb g) | _ => .non) = (fs.map (at_ tb)).map V.bl := by
    rw [List.filter_eq_self.mpr (fun _ _ => rfl), List.map_map, List.map_map]
    rfl
  rw [eF]
  refine ⟨D, _, rfl, SqL.of upd_same, _, rfl, ?_⟩
  have s5 : Same H (upd H4 D (.lst ((fs.map (at_ tb)).map V.bl))) := s3.trans (s4.trans (same_new hD _))
  generalize upd H4 D (.lst ((fs.map (at_ tb)).map V.bl)) = H5 at s5
  clear s4 hD
  cases hfa : fs.any (at_ tb) with
  | true =>
    refine ite_t (by rw [List.any_map]; exact hfa) (qbl ?_ (k _ s5))
    unfold tradedB
    rw [hfa]
    simp
  | false =>
  refine ite_f (by rw [List.any_map]; exact hfa) ?_
  refine ⟨_, rfl, n, rfl, by omega, by omega, ?_⟩
  refine for_range (n := n) (fun i σ' H' => ∃ x : Option V, σ' = [some (.ref t), some (.ref l), some (.ref m), some (.int n), x] ∧ Same H H' ∧ i ≤ n ∧ (up i).all (fun x => decide (ofB cs x ≤ ofB fs x)) = true) ?_ ?_ ?_
  · exact ⟨none, rfl, s5, Nat.zero_le _, rfl⟩
  · rintro i σ' H6 hi ⟨x, rfl, hs6, _, ha⟩
    refine ⟨_, rfl, m, rfl, ⟨_, SqL.of (hs6 _ _ hf)⟩, ?_⟩
    refine lcB_list rfl (SqL.of (hs6 _ _ hf)) (by rw [List.length_map]; omega) (fun x => match x with | .int g => hasB g (i : Int) | _ => false) (fun _ => .int 1) (fun x hx H7 s7 R z => ?_) (fun x hx _ H7 s7 R z => z H7 (Same.refl _)) fun H7 D s7 hD => ?_
    · obtain ⟨g, hg, rfl⟩ := List.mem_map.mp hx
      refine ⟨_, rfl, _, rfl, _, _, rfl, by omega, fun H8 s8 => ⟨_, rfl, ?_⟩⟩
      rw [Int.zero_add]
      exact z H8 s8
    refine ⟨D, _, rfl, .inl (SqL.of upd_same), ?_⟩
    have e1 : (((fs.map V.int).filter fun x => match x with | .int g => hasB g (i : Int) | _ => false).map fun _ => V.int 1).length = ofB fs (i : Int) := by
      rw [List.length_map, List.filter_map, List.length_map]
      rfl
    rw [e1]
    have s8 : Same H (upd H7 D (.lst (((fs.map V.int).filter fun x => match x with | .int g => hasB g (i : Int) | _ => false).map fun _ => V.int 1))) := hs6.trans (s7.trans (same_new hD _))
    generalize upd H7 D (.lst (((fs.map V.int).filter fun x => match x with | .int g => hasB g (i : Int) | _ => false).map fun _ => V.int 1)) = H8 at s8
    clear s7 hD
    refine ⟨_, rfl, l, rfl, ⟨_, SqL.of (s8 _ _ hc)⟩, ?_⟩
    refine lcB_list rfl (SqL.of (s8 _ _ hc)) (by rw [List.length_map]; omega) (fun x => match x with | .int g => hasB g (i : Int) | _ => false) (fun _ => .int 1) (fun x hx H7 s7 R z => ?_) (fun x hx _ H7 s7 R z => z H7 (Same.refl _)) fun H9 D s9 hD => ?_
    · obtain ⟨g, hg, rfl⟩ := List.mem_map.mp hx
      refine ⟨_, rfl, _, rfl, _, _, rfl, by omega, fun H8 s8 => ⟨_, rfl, ?_⟩⟩
      rw [Int.zero_add]
      exact z H8 s8
    refine ⟨D, _, rfl, .inl (SqL.of upd_same), ?_⟩
    have e2 : (((cs.map V.int).filter fun x => match x with | .int g => hasB g (i : Int) | _ => false).map fun _ => V.int 1).length = ofB cs (i : Int) := by
      rw [List.length_map, List.filter_map, List.length_map]
      rfl
    rw [e2]
    have s10 : Same H (upd H9 D (.lst (((cs.map V.int).filter fun x => match x with | .int g => hasB g (i : Int) | _ => false).map fun _ => V.int 1))) := s8.trans (s9.trans (same_new hD _))
    generalize upd H9 D (.lst (((cs.map V.int).filter fun x => match x with | .int g => hasB g (i : Int) | _ => false).map fun _ => V.int 1)) = H10 at s10
    refine ⟨_, _, rfl, rfl, _, rfl, ?_⟩
    by_cases hlt : ofB fs (i : Int) < ofB cs (i : Int)
    · refine ite_t (decide_eq_true (by omega)) (qbl ?_ (k _ s10))
      unfold tradedB
      have : (up n).all (fun x => decide (ofB cs x ≤ ofB fs x)) = false := by
        rw [← Bool.not_eq_true, List.all_eq_true]
        intro z
        have := of_decide_eq_true (z (i : Int) (mem_up.mpr ⟨by omega, by omega⟩))
        omega
      rw [this, Bool.and_false]
    · refine ite_f (decide_eq_false (by omega)) ⟨_, rfl, s10, hi, ?_⟩
      rw [up_succ, List.all_append, ha]
      have : ofB cs (i : Int) ≤ ofB fs (i : Int) := by omega
      simpa using this
  · rintro σ' H6 ⟨x, rfl, hs6, _, ha⟩
    refine qbl ?_ (k _ hs6)
    unfold tradedB
    rw [decide_eq_true hlen, decide_eq_false hne, hca, hfa, ha]
    rfl
end Wv

set_option Elab.async false
set_option linter.all false
set_option maxRecDepth 100000
set_option maxHeartbeats 4000000

namespace Wv
open PySem L2
seal L2.PSs L2.PS L2.PE L2.PA L2.PT L2.PI L2.PW L2.PG L2.PGs L2.PIfs
/-! ## the answer's own word -/
def sp_law_saysW (C W : Addr) : Sp := fun vs H Q _ => ∃ (p l c : Addr) (ws : List Int) (q : Int) (n : Nat) (tb : List Bool) (due : Bool), vs = [.ref p, .ref c, .bl due] ∧ WAt W H p l ws q ∧ ws.length ≤ 1000 ∧ CAt C H c n tb ∧ ∀ H', Same H H' → Q (.bl (madeB n tb ws q == due)) H'
theorem okv_law_says {P : Program} {w : World} {K : PySem.W.Frag} {mg : Str → Option Value} {base : Heap} {a : Adr} (T : Txt K mg a) : FnOk P w K mg base CX0 6 a.a_law_says a.d_law_says ["_law_answer", "_law_council", "_law_due_here"] (sp_law_saysW a.C_Council a.C_Weights) := by
  refine T.F_law_says.ok sc_law_says (fun vs H Q E h => ?_) (fun cdv A outer s H vs Q E hr h => ?_)
  · obtain ⟨p, l, c, ws, q, n, tb, due, rfl, _⟩ := h; rfl
  obtain ⟨p, l, c, ws, q, n, tb, due, rfl, hW, hz, cc, k⟩ := h
  refine ⟨_, (pss_cons (ps_set (i := 3) sc_law_says.nd rfl (by first | exact Or.inl rfl | exact Or.inr rfl) (pe_meth (pv 0) T.cl_Weights T.mt_Weights_holds (ok_Weights_holds T) hr (b_Weights_holds T) .nil pass0 (pa_cons (pv 1) pa_nil)))
      (pss_one (ps_ret (pe_and (pe_callB (call_isiK K) rfl T.z_isinstance PyProof.Rows.boot_isinstance (pa_cons (pv 3) (pa_cons (pe_bltn (v := .ty "bool") rfl T.z_bool PyProof.Rows.boot_bool rfl) pa_nil))) (pe_one (pe_cmpR op_eq (pv 3) (pv 2) (nomark _))))))), ?_⟩
  obtain ⟨⟨dx, h1⟩, h2⟩ := id hW
  refine ⟨_, rfl, p, dx, _, rfl, h1, wflds_no _ _ (by decide +kernel) (by decide +kernel), _, rfl, p, l, c, ws, q, n, tb, rfl, hW, hz, cc, fun H1 s1 => ?_⟩
  refine ⟨_, rfl, _, "bool", "bool", true, rfl, .bl _, .inr (.inl rfl), isi_bb, true, rfl, iteT ?_⟩
  refine ⟨_, rfl, _, rfl, rfl, ?_⟩
  exact qbl L2.dec_bl.symm (k _ s1)
def sp_law_saysT (C D : Addr) : Sp := fun vs H Q _ => ∃ (p l m c : Addr) (cs fs : List Int) (n : Nat) (tb : List Bool) (due : Bool), vs = [.ref p, .ref c, .bl due] ∧ TAt D H p l m cs fs ∧ cs.length ≤ 400 ∧ fs.length ≤ 400 ∧ (∀ g ∈ cs, g ∈ up (2 ^ n)) ∧ (∀ g ∈ fs, g ∈ up (2 ^ n)) ∧ CAt C H c n tb ∧ ∀ H', Same H H' → Q (.bl (tradedB n tb cs fs == due)) H'
theorem oku_law_says {P : Program} {w : World} {K : PySem.W.Frag} {mg : Str → Option Value} {base : Heap} {a : Adr} (T : Txt K mg a) : FnOk P w K mg base CX0 6 a.a_law_says a.d_law_says ["_law_answer", "_law_council", "_law_due_here"] (sp_law_saysT a.C_Council a.C_Trade) := by
  refine T.F_law_says.ok sc_law_says (fun vs H Q E h => ?_) (fun cdv A outer s H vs Q E hr h => ?_)
  · obtain ⟨p, l, m, c, cs, fs, n, tb, due, rfl, _⟩ := h; rfl
  obtain ⟨p, l, m, c, cs, fs, n, tb, due, rfl, hT, zc, zf, gc, gf, cc, k⟩ := h
  refine ⟨_, (pss_cons (ps_set (i := 3) sc_law_says.nd rfl (by first | exact Or.inl rfl | exact Or.inr rfl) (pe_meth (pv 0) T.cl_Trade T.mt_Trade_holds (ok_Trade_holds T) (hr.mono (by decide)) (b_Trade_holds T) .nil pass0 (pa_cons (pv 1) pa_nil)))
      (pss_one (ps_ret (pe_and (pe_callB (call_isiK K) rfl T.z_isinstance PyProof.Rows.boot_isinstance (pa_cons (pv 3) (pa_cons (pe_bltn (v := .ty "bool") rfl T.z_bool PyProof.Rows.boot_bool rfl) pa_nil))) (pe_one (pe_cmpR op_eq (pv 3) (pv 2) (nomark _))))))), ?_⟩
  obtain ⟨⟨dx, h1⟩, h2, h3⟩ := id hT
  refine ⟨_, rfl, p, dx, _, rfl, h1, tflds_no _ _ (by decide +kernel) (by decide +kernel), _, rfl, p, l, m, c, cs, fs, n, tb, rfl, hT, zc, zf, gc, gf, cc, fun H1 s1 => ?_⟩
  refine ⟨_, rfl, _, "bool", "bool", true, rfl, .bl _, .inr (.inl rfl), isi_bb, true, rfl, iteT ?_⟩
  refine ⟨_, rfl, _, rfl, rfl, ?_⟩
  exact qbl L2.dec_bl.symm (k _ s1)
theorem ok_law_says {P : Program} {w : World} {K : PySem.W.Frag} {mg : Str → Option Value} {base : Heap} {a : Adr} (T : Txt K mg a) : FnOk P w K mg base CX0 6 a.a_law_says a.d_law_says ["_law_answer", "_law_council", "_law_due_here"] (fun vs H Q E => sp_law_saysW a.C_Council a.C_Weights vs H Q E ∨ sp_law_saysT a.C_Council a.C_Trade vs H Q E) := FnOk.both (okv_law_says T) (oku_law_says T)
/-! ## what is due of another council -/
def sp_law_due (W D : Addr) : Sp := fun vs H Q _ => ∃ (t : Addr) (n : Nat) (l : Addr) (gs : List Int) (p : Addr), vs = [.ref t, .ref p] ∧ ToldAt H t n l gs ∧
  ((∃ (w : Addr) (ws : List Int) (q : Int), WAt W H p w ws q ∧ ws.length ≤ 1000 ∧ ∀ H', Same H H' → Q (.bl (madeB n (tabOf n gs) ws q)) H') ∨
   ∃ (w m : Addr) (cs fs : List Int), TAt D H p w m cs fs ∧ cs.length ≤ 400 ∧ fs.length ≤ 400 ∧ (∀ g ∈ cs, g ∈ up (2 ^ n)) ∧ (∀ g ∈ fs, g ∈ up (2 ^ n)) ∧ ∀ H', Same H H' → Q (.bl (tradedB n (tabOf n gs) cs fs)) H')
theorem ok_law_due {P : Program} {w : World} {K : PySem.W.Frag} {mg : Str → Option Value} {base : Heap} {a : Adr} (T : Txt K mg a) : FnOk P w K mg base CX0 3 a.a_law_due a.d_law_due ["_law_told_here", "_law_found"] (sp_law_due a.C_Weights a.C_Trade) := by
  refine T.F_law_due.ok sc_law_due (fun vs H Q E h => ?_) (fun cdv A outer s H vs Q E hr h => ?_)
  · obtain ⟨t, n, l, gs, p, rfl, _⟩ := h; rfl
  obtain ⟨t, n, l, gs, p, rfl, hT, hc⟩ := h
  refine ⟨_, (pss_cons (ps_set (i := 2) sc_law_due.nd rfl (by first | exact Or.inl rfl | exact Or.inr rfl) (pe_call (ok_law_table T) (hr.mono (by decide)) rfl T.m_law_table T.F_law_table.kp (b_law_table T) .nil pass0 (pa_cons (pv 0) pa_nil)))
      (pss_cons (ps_if (pt_val (pe_callB (call_isO K) rfl T.z_isinstance PyProof.Rows.boot_isinstance (pa_cons (pv 1) (pa_cons (pe_glob (v := .ref a.C_Weights) rfl T.m_Weights rfl) pa_nil)))) (pss_one (ps_ret (pe_call (ok_law_made T) hr rfl T.m_law_made T.F_law_made.kp (b_law_made T) .nil pass0 (pa_cons (pv 2) (pa_cons (pe_fldK K (pv 1) rfl) (pa_cons (pe_fldK K (pv 1) rfl) pa_nil)))))) pss_nil)
      (pss_one (ps_ret (pe_call (ok_law_traded T) hr rfl T.m_law_traded T.F_law_traded.kp (b_law_traded T) .nil pass0 (pa_cons (pv 2) (pa_cons (pe_fldK K (pv 1) rfl) (pa_cons (pe_fldK K (pv 1) rfl) (pa_cons (pe_ix (ix_tupK K) (pv 0) pe_int (fun _ _ => rfl)) pa_nil))))))))), ?_⟩
  obtain ⟨ht, hl, n1, n5, hz, hb⟩ := id hT
  refine ⟨_, rfl, t, n, l, gs, rfl, hT, fun f H1 nf s1 hf => ?_⟩
  rcases hc with ⟨w, ws, q, hW, zw, k⟩ | ⟨w, m, cs, fs, hD, zc, zf, gc, gf, k⟩
  · obtain ⟨⟨dx, h1⟩, h2⟩ := id (hW.same s1)
    refine ⟨_, rfl, _, _, _, true, rfl, T.ty_Weights h1, T.ki_Weights_Weights, true, rfl, iteT ?_⟩
    exact ⟨_, rfl, _, rfl, p, a.C_Weights, dx, _, _, rfl, h1, T.cl_Weights, T.n_Weights_weights, wflds_w _ _, _, rfl, p, a.C_Weights, dx, _, _, rfl, h1, T.cl_Weights, T.n_Weights_quota, wflds_q _ _, f, w, n, _, ws, q, rfl, hf, tabOf_length _ _, n5, h2, zw, fun H2 s2 => k H2 (s1.trans s2)⟩
  · obtain ⟨⟨dx, h1⟩, h2, h3⟩ := id (hD.same s1)
    refine ⟨_, rfl, _, _, _, false, rfl, T.ty_Trade h1, T.ki_Trade_Weights, false, rfl, iteF ?_⟩
    exact ⟨_, rfl, _, rfl, p, a.C_Trade, dx, _, _, rfl, h1, T.cl_Trade, T.n_Trade_carry, tflds_c _ _, _, rfl, p, a.C_Trade, dx, _, _, rfl, h1, T.cl_Trade, T.n_Trade_fail, tflds_f _ _, _, rfl, t, _, _, _, rfl, rfl, SqT.of (s1 _ _ ht), atI_nat (j := 0) rfl, f, w, m, n, _, cs, fs, rfl, hf, tabOf_length _ _, n5, h2, h3, zc, zf, gc, gf, fun H2 s2 => k H2 (s1.trans s2)⟩
/-! ## an answer is right -/
/-- as GoodAns, but for what is new -/
def RightAns (W D : Addr) (H : Hp) (r : Addr) (n : Nat) (tb : List Bool) : Prop :=
  (∃ (l : Addr) (ws : List Int) (q : Int), WAt W H r l ws q ∧ GoodW n tb ws q) ∨ ∃ (l m : Addr) (cs fs : List Int), TAt D H r l m cs fs ∧ GoodT n tb cs fs
theorem made_good {n : Nat} {tb : List Bool} {ws : List Int} {q : Int} (h : GoodW n tb ws q) : madeB n tb ws q = true := by
  unfold madeB
  rw [decide_eq_true h.1, Bool.true_and, List.all_eq_true]
  intro g hg
  rw [h.2.2.2.2 g hg, beq_self_eq_true]
theorem traded_good {n : Nat} {tb : List Bool} {cs fs : List Int} (h : GoodT n tb cs fs) : tradedB n tb cs fs = true := by
  obtain ⟨h1, h2, h3, h4, h5⟩ := h
  have hne : cs ≠ [] := fun z => by rw [z] at h1; cases h1
  have ha : cs.all (at_ tb) = true := List.all_eq_true.mpr fun g hg => (h3 g hg).2
  have hf : fs.any (at_ tb) = false := List.any_eq_false.mpr fun g hg => by rw [(h4 g hg).2]; exact Bool.false_ne_true
  have hm : (up n).all (fun m => decide (ofB cs m ≤ ofB fs m)) = true := List.all_eq_true.mpr fun m hm => decide_eq_true (h5 m hm)
  unfold tradedB
  rw [decide_eq_true (h1.trans h2.symm), decide_eq_false hne, ha, hf, hm]
  rfl
def sp_law_right (W D : Addr) : Sp := fun vs H Q _ => ∃ (t : Addr) (n : Nat) (tb : List Bool) (p : Addr), vs = [.ref t, .int n, .ref p] ∧ H t = some (.lst (tb.map V.bl)) ∧ tb.length = 2 ^ n ∧ 1 ≤ n ∧ n ≤ 5 ∧ RightAns W D H p n tb ∧ ∀ H', Same H H' → Q (.bl true) H'
theorem ok_law_right {P : Program} {w : World} {K : PySem.W.Frag} {mg : Str → Option Value} {base : Heap} {a : Adr} (T : Txt K mg a) : FnOk P w K mg base CX0 3 a.a_law_right a.d_law_right ["_law_table_here", "_law_members", "_law_found"] (sp_law_right a.C_Weights a.C_Trade) := by
  refine T.F_law_right.ok sc_law_right (fun vs H Q E h => ?_) (fun cdv A outer s H vs Q E hr h => ?_)
  · obtain ⟨t, n, tb, p, rfl, _⟩ := h; rfl
  obtain ⟨t, n, tb, p, rfl, ht, hl, n1, n5, hc, k⟩ := h
  refine ⟨_, (pss_cons (ps_if (PW.pt (pw_or (pt_not (pt_val (pe_callB (call_isO K) rfl T.z_isinstance PyProof.Rows.boot_isinstance (pa_cons (pv 2) (pa_cons (pe_glob (v := .ref a.C_Answer) rfl T.m_Answer rfl) pa_nil))))) (pw_or1 (pt_cmpR op_eq (pe_callB (call_isO K) rfl T.z_isinstance PyProof.Rows.boot_isinstance (pa_cons (pv 2) (pa_cons (pe_glob (v := .ref a.C_Weights) rfl T.m_Weights rfl) pa_nil))) (pe_callB (call_isO K) rfl T.z_isinstance PyProof.Rows.boot_isinstance (pa_cons (pv 2) (pa_cons (pe_glob (v := .ref a.C_Trade) rfl T.m_Trade rfl) pa_nil))) (nomark _))))) (pss_one (ps_ret pe_bl)) pss_nil)
      (pss_cons (ps_if (pt_val (pe_callB (call_isO K) rfl T.z_isinstance PyProof.Rows.boot_isinstance (pa_cons (pv 2) (pa_cons (pe_glob (v := .ref a.C_Weights) rfl T.m_Weights rfl) pa_nil)))) (pss_cons (ps_if (pt_cmpR (op_eqLK K hr.units0) (pe_fldK K (pv 2) rfl) (pe_lst pa_nil) (nomark _)) (pss_one (ps_ret pe_bl)) pss_nil)
      (pss_cons (ps_if (PW.pt (pw_or (pt_not (pt_val (pe_call (ok_law_whole T) (hr.mono (by decide)) rfl T.m_law_whole T.F_law_whole.kp (b_law_whole T) .nil pass0 (pa_cons (pe_op op_cat (pe_fldK K (pv 2) rfl) (pe_lst (pa_cons (pe_fldK K (pv 2) rfl) pa_nil))) pa_nil)))) (pw_or (pt_cmpR op_gt (pe_fldK K (pv 2) rfl) pe_int (nomark _)) (pw_or1 (pt_cmpR op_gt (pe_callB (call_maxL K rfl) rfl T.z_max PyProof.Rows.boot_max (pa_cons (pe_fldK K (pv 2) rfl) pa_nil)) pe_int (nomark _)))))) (pss_one (ps_ret pe_bl)) pss_nil)
      (pss_one (ps_ret (pe_call (ok_law_made T) hr rfl T.m_law_made T.F_law_made.kp (b_law_made T) .nil pass0 (pa_cons (pv 0) (pa_cons (pe_fldK K (pv 2) rfl) (pa_cons (pe_fldK K (pv 2) rfl) pa_nil)))))))) pss_nil)
      (pss_cons (ps_if (PW.pt (pw_or (pt_not (pt_val (pe_call (ok_law_whole T) (hr.mono (by decide)) rfl T.m_law_whole T.F_law_whole.kp (b_law_whole T) .nil pass0 (pa_cons (pe_fldK K (pv 2) rfl) pa_nil)))) (pw_or (pt_not (pt_val (pe_call (ok_law_whole T) (hr.mono (by decide)) rfl T.m_law_whole T.F_law_whole.kp (b_law_whole T) .nil pass0 (pa_cons (pe_fldK K (pv 2) rfl) pa_nil)))) (pw_or1 (pt_cmpR op_ge (pe_callB (call_maxL K rfl) rfl T.z_max PyProof.Rows.boot_max (pa_cons (pe_op op_cat (pe_fldK K (pv 2) rfl) (pe_fldK K (pv 2) rfl)) pa_nil)) (pe_callB (call_lenK K) rfl T.z_len PySem.boot_len (pa_cons (pv 0) pa_nil)) (nomark _)))))) (pss_one (ps_ret pe_bl)) pss_nil)
      (pss_one (ps_ret (pe_call (ok_law_traded T) hr rfl T.m_law_traded T.F_law_traded.kp (b_law_traded T) .nil pass0 (pa_cons (pv 0) (pa_cons (pe_fldK K (pv 2) rfl) (pa_cons (pe_fldK K (pv 2) rfl) (pa_cons (pv 1) pa_nil)))))))))), ?_⟩
  have h5 := two_le n5
  rcases hc with ⟨l, ws, q, hW, hG⟩ | ⟨l, m, cs, fs, hD, hG⟩
  · obtain ⟨⟨dx, h1⟩, h2⟩ := id hW
    have g1 : ws.length = n := hG.1
    have gb := hG.2.1
    have gq0 := hG.2.2.1
    have gq1 := hG.2.2.2.1
    have ty : ∀ {H'}, Same H H' → TyOf K H' (.ref p) (.ref a.C_Weights) := fun s => T.ty_Weights (s _ _ h1)
    have ty0 := ty (Same.refl H)
    refine ⟨_, rfl, _, _, _, true, rfl, ty0, T.ki_Weights_Answer, true, rfl, iteF ?_⟩
    refine ⟨_, rfl, _, _, _, true, rfl, ty0, T.ki_Weights_Weights, _, rfl, _, _, _, false, rfl, ty0, T.ki_Weights_Trade, rfl, _, rfl, ite_f rfl ?_⟩
    refine ⟨_, rfl, _, _, _, true, rfl, ty0, T.ki_Weights_Weights, true, rfl, iteT ?_⟩
    refine ⟨_, rfl, p, a.C_Weights, dx, _, _, rfl, h1, T.cl_Weights, T.n_Weights_weights, wflds_w _ _, (by show 0 ≤ sizeLine; decide), fun e ne => ?_⟩
    have s1 : Same H (upd H e (.lst [])) := same_new ne _
    have he1 : upd H e (.lst []) e = some (.lst (([] : List Int).map V.int)) := upd_same
    generalize upd H e (.lst []) = H1 at s1 he1
    refine ⟨l, e, ws, [], rfl, rfl, SqL.of (s1 _ _ h2), SqL.of he1, _, rfl, ?_⟩
    refine ite_f (decide_eq_false fun z => by rw [z] at g1; simp at g1; omega) ?_
    have h11 := s1 _ _ h1
    refine ⟨_, rfl, p, a.C_Weights, dx, _, _, rfl, h11, T.cl_Weights, T.n_Weights_weights, wflds_w _ _, _, rfl, p, a.C_Weights, dx, _, _, rfl, h11, T.cl_Weights, T.n_Weights_quota, wflds_q _ _, (by show 1 ≤ sizeLine; decide), fun u nu => ?_⟩
    have s2 : Same H1 (upd H1 u (.lst [.int q])) := same_new nu _
    have hu2 : upd H1 u (.lst [.int q]) u = some (.lst [.int q]) := upd_same
    generalize upd H1 u (.lst [.int q]) = H2 at s2 hu2
    have s02 := s1.trans s2
    refine ⟨l, u, _, _, rfl, rfl, s02 _ _ h2, hu2, (by rw [List.length_map, g1]; show n + 1 ≤ sizeLine; exact Nat.le_of_lt (small1000 (by omega))), fun v nv => ?_⟩
    have s3 : Same H2 (upd H2 v (.lst (ws.map V.int ++ [.int q]))) := same_new nv _
    have hv3 : upd H2 v (.lst (ws.map V.int ++ [.int q])) v = some (.lst ((ws ++ [q]).map V.int)) := by
      rw [upd_same, List.map_append]
      rfl
    generalize upd H2 v (.lst (ws.map V.int ++ [.int q])) = H3 at s3 hv3
    have s03 := s02.trans s3
    refine ⟨v, _, rfl, hv3, (by rw [List.length_append, g1]; show n + 1 ≤ 1000; omega), fun x hx => ?_, fun H4 s4 => ⟨_, rfl, iteF ?_⟩⟩
    · rcases List.mem_append.mp hx with hx | hx
      · exact (gb x hx).1
      · rw [List.mem_singleton.mp hx]; exact gq0
    have s04 := s03.trans s4
    have h14 := s04 _ _ h1
    refine ⟨_, rfl, p, a.C_Weights, dx, _, _, rfl, h14, T.cl_Weights, T.n_Weights_quota, wflds_q _ _, _, _, rfl, rfl, _, rfl, ite_f (decide_eq_false (by omega)) ?_⟩
    have hne : ws ≠ [] := fun z => by rw [z] at g1; simp at g1; omega
    refine ⟨_, rfl, p, a.C_Weights, dx, _, _, rfl, h14, T.cl_Weights, T.n_Weights_weights, wflds_w _ _, l, ws, rfl, SqL.of (s04 _ _ h2), hne, fun M hM _ => ?_⟩
    have := (gb M hM).2
    refine ⟨_, _, rfl, rfl, _, rfl, ite_f (decide_eq_false (by omega)) ?_⟩
    refine ⟨_, rfl, _, rfl, p, a.C_Weights, dx, _, _, rfl, h14, T.cl_Weights, T.n_Weights_weights, wflds_w _ _, _, rfl, p, a.C_Weights, dx, _, _, rfl, h14, T.cl_Weights, T.n_Weights_quota, wflds_q _ _, t, l, n, tb, ws, q, rfl, s04 _ _ ht, hl, n5, s04 _ _ h2, by omega, fun H5 s5 => ?_⟩
    exact qbl (made_good hG).symm (k _ (s04.trans s5))
  · obtain ⟨⟨dx, h1⟩, h2, h3⟩ := id hD
    obtain ⟨c2, f2, gc, gf, gm⟩ := id hG
    have ty0 : TyOf K H (.ref p) (.ref a.C_Trade) := T.ty_Trade h1
    have cf := tflds_c l m
    have ff := tflds_f l m
    refine ⟨_, rfl, _, _, _, true, rfl, ty0, T.ki_Trade_Answer, true, rfl, iteF ?_⟩
    refine ⟨_, rfl, _, _, _, false, rfl, ty0, T.ki_Trade_Weights, _, rfl, _, _, _, true, rfl, ty0, T.ki_Trade_Trade, rfl, _, rfl, ite_f rfl ?_⟩
    refine ⟨_, rfl, _, _, _, false, rfl, ty0, T.ki_Trade_Weights, false, rfl, iteF ?_⟩
    refine ⟨_, rfl, p, a.C_Trade, dx, _, _, rfl, h1, T.cl_Trade, T.n_Trade_carry, cf, l, cs, rfl, h2, by omega, fun x hx => (mem_up.mp (gc x hx).1).1, fun H1 s1 => ⟨_, rfl, iteF ?_⟩⟩
    refine ⟨_, rfl, p, a.C_Trade, dx, _, _, rfl, s1 _ _ h1, T.cl_Trade, T.n_Trade_fail, ff, m, fs, rfl, s1 _ _ h3, by omega, fun x hx => (mem_up.mp (gf x hx).1).1, fun H2 s2 => ⟨_, rfl, iteF ?_⟩⟩
    have s02 := s1.trans s2
    have h12 := s02 _ _ h1
    refine ⟨_, rfl, p, a.C_Trade, dx, _, _, rfl, h12, T.cl_Trade, T.n_Trade_carry, cf, _, rfl, p, a.C_Trade, dx, _, _, rfl, h12, T.cl_Trade, T.n_Trade_fail, ff, l, m, _, _, rfl, rfl, s02 _ _ h2, s02 _ _ h3, (by rw [List.length_map, List.length_map, c2, f2]; decide), fun v nv => ?_⟩
    have s3 : Same H2 (upd H2 v (.lst (cs.map V.int ++ fs.map V.int))) := same_new nv _
    have hv3 : upd H2 v (.lst (cs.map V.int ++ fs.map V.int)) v = some (.lst ((cs ++ fs).map V.int)) := by rw [upd_same, List.map_append]
    generalize upd H2 v (.lst (cs.map V.int ++ fs.map V.int)) = H3 at s3 hv3
    have s03 := s02.trans s3
    have hne : cs ++ fs ≠ [] := fun z => by
      have := congrArg List.length z
      rw [List.length_append, c2, f2] at this
      cases this
    refine ⟨v, cs ++ fs, rfl, SqL.of hv3, hne, fun M hM _ => ?_⟩
    have hMu : M ∈ up (2 ^ n) := (List.mem_append.mp hM).elim (fun h => (gc M h).1) fun h => (gf M h).1
    obtain ⟨M0, M1⟩ := mem_up.mp hMu
    refine ⟨_, rfl, t, _, rfl, .inl (SqL.of (s03 _ _ ht)), _, _, rfl, rfl, _, rfl, ite_f (decide_eq_false (by rw [List.length_map, hl]; omega)) ?_⟩
    have h13 := s03 _ _ h1
    refine ⟨_, rfl, _, rfl, p, a.C_Trade, dx, _, _, rfl, h13, T.cl_Trade, T.n_Trade_carry, cf, _, rfl, p, a.C_Trade, dx, _, _, rfl, h13, T.cl_Trade, T.n_Trade_fail, ff, _, rfl, t, l, m, n, tb, cs, fs, rfl, s03 _ _ ht, hl, n5, s03 _ _ h2, s03 _ _ h3, by omega, by omega, fun g hg => (gc g hg).1, fun g hg => (gf g hg).1, fun H5 s5 => ?_⟩
    exact qbl (traded_good hG).symm (k _ (s03.trans s5))
end Wv

set_option Elab.async false
set_option linter.all false
set_option maxRecDepth 100000
set_option maxHeartbeats 4000000

namespace Wv
open PySem L2
seal L2.PSs L2.PS L2.PE L2.PA L2.PT L2.PI L2.PW L2.PG L2.PGs L2.PIfs
/-! ## answers bent -/
theorem at_ints {ws : List Int} {i : Int} (h0 : 0 ≤ i) (h1 : i < (ws.length : Int)) : atI (ws.map V.int) i = some (.int (ws.getD i.toNat 0)) := by
  have hi : i.toNat < ws.length := by omega
  have e : i = ((i.toNat : Nat) : Int) := by omega
  have q : atI (ws.map V.int) ((i.toNat : Nat) : Int) = some (.int (ws.getD i.toNat 0)) := atI_nat (by
    rw [List.getElem?_map, List.getD_eq_getElem?_getD, List.getElem?_eq_getElem hi]
    rfl)
  rw [← e] at q
  exact q
theorem ix_ints {ws : List Int} {i : Int} (h0 : 0 ≤ i) (h1 : i < (ws.length : Int)) : ixN (ws.map V.int).length i = some i.toNat := by
  unfold ixN
  rw [List.length_map, if_pos h0, if_pos h1]
/-- two lists of groups, new as to H -/
structure BT (n : Nat) (H H' : Hp) (l m : Addr) (cs fs : List Int) : Prop where
  same : Same H H'
  nl : H l = none
  nm : H m = none
  ne : l ≠ m
  hl : H' l = some (.lst (cs.map V.int))
  hm : H' m = some (.lst (fs.map V.int))
  gc : ∀ g ∈ cs, g ∈ up (2 ^ n)
  gf : ∀ g ∈ fs, g ∈ up (2 ^ n)
theorem BT.left {n : Nat} {H H' H2 : Hp} {l m : Addr} {cs fs cs' : List Int} (b : BT n H H' l m cs fs) (s : Same H' H2) (h : ∀ g ∈ cs', g ∈ up (2 ^ n)) : BT n H (upd H2 l (.lst (cs'.map V.int))) l m cs' fs :=
  ⟨same_own (b.same.trans s) b.nl, b.nl, b.nm, b.ne, upd_same, by rw [upd_ne (Ne.symm b.ne)]; exact s _ _ b.hm, h, b.gf⟩
theorem BT.right {n : Nat} {H H' H2 : Hp} {l m : Addr} {cs fs fs' : List Int} (b : BT n H H' l m cs fs) (s : Same H' H2) (h : ∀ g ∈ fs', g ∈ up (2 ^ n)) : BT n H (upd H2 m (.lst (fs'.map V.int))) l m cs fs' :=
  ⟨same_own (b.same.trans s) b.nm, b.nl, b.nm, b.ne, by rw [upd_ne b.ne]; exact s _ _ b.hl, upd_same, b.gc, h⟩
theorem BT.on {n : Nat} {H H' H2 : Hp} {l m : Addr} {cs fs : List Int} (b : BT n H H' l m cs fs) (s : Same H' H2) : BT n H H2 l m cs fs :=
  ⟨b.same.trans s, b.nl, b.nm, b.ne, s _ _ b.hl, s _ _ b.hm, b.gc, b.gf⟩
def sp_law_bent (W D : Addr) : Sp := fun vs H Q _ => ∃ (p : Addr) (c : Int) (n : Nat), vs = [.ref p, .int c, .int n] ∧ 1 ≤ n ∧ n ≤ 5 ∧
  ((∃ (l : Addr) (ws : List Int) (q : Int), WAt W H p l ws q ∧ ws.length = n ∧ ∀ (t l' : Addr) (ws' : List Int) (q' : Int) (H' : Hp), H t = none → H l' = none → Same H H' → H' t = some (.tup [.ref l', .int q']) → H' l' = some (.lst (ws'.map V.int)) → ws'.length ≤ 10 → Q (.ref t) H') ∨
   ∃ (l m : Addr) (cs fs : List Int), TAt D H p l m cs fs ∧ cs.length = 2 ∧ fs.length = 2 ∧ (∀ g ∈ cs, g ∈ up (2 ^ n)) ∧ (∀ g ∈ fs, g ∈ up (2 ^ n)) ∧
    ∀ (t l' m' : Addr) (cs' fs' : List Int) (H' : Hp), H t = none → BT n H H' l' m' cs' fs' → H' t = some (.tup [.ref l', .ref m']) → cs'.length ≤ 10 → fs'.length ≤ 10 → Q (.ref t) H')
theorem ok_law_bent {P : Program} {w : World} {K : PySem.W.Frag} {mg : Str → Option Value} {base : Heap} {a : Adr} (T : Txt K mg a) : FnOk P w K mg base CX0 1 a.a_law_bent a.d_law_bent ["_law_found", "_law_cell", "_law_members"] (sp_law_bent a.C_Weights a.C_Trade) := by
  refine T.F_law_bent.ok sc_law_bent (fun vs H Q E h => ?_) (fun cdv A outer s H vs Q E hr h => ?_)
  · obtain ⟨p, c, n, rfl, _⟩ := h; rfl
  obtain ⟨p, c, n, rfl, n1, n5, hc⟩ := h
  refine ⟨_, (pss_cons (ps_if (pt_val (pe_callB (call_isO K) rfl T.z_isinstance PyProof.Rows.boot_isinstance (pa_cons (pv 0) (pa_cons (pe_glob (v := .ref a.C_Weights) rfl T.m_Weights rfl) pa_nil)))) (pss_cons (ps_par (i := 3) (j := 4) rfl sc_law_bent.nd rfl rfl (by decide) rfl rfl (pa_cons (pe_callTy (call_list_ofK K) rfl T.z_list PyProof.Rows.boot_list (pa_cons (pe_fldK K (pv 0) rfl) pa_nil)) (pa_cons (pe_callB (call_max2 rfl) rfl T.z_max PyProof.Rows.boot_max (pa_cons pe_int (pa_cons (pe_op op_sub (pe_op op_add (pe_fldK K (pv 0) rfl) (pe_op op_mod (pv 1) pe_int)) pe_int) pa_nil))) pa_nil)) rfl)
      (pss_cons (ps_asg (pe_callB (call_max2 rfl) rfl T.z_max PyProof.Rows.boot_max (pa_cons pe_int (pa_cons (pe_op op_sub (pe_op op_add (pe_ix (ix_listK K) (pv 3) (pe_op op_mod (pe_op op_fdiv (pv 1) pe_int) (pv 2)) (fun _ _ => rfl)) (pe_op op_mod (pe_op op_fdiv (pv 1) pe_int) pe_int)) pe_int) pa_nil))) (pg_sub (pv 3) (pe_op op_mod (pe_op op_fdiv (pv 1) pe_int) (pv 2)) set_list))
      (pss_cons (ps_join (ps_if (pt_cmpR op_eq (pe_op op_mod (pe_op op_fdiv (pv 1) pe_int) pe_int) pe_int (nomark _)) (pss_one (ps_expr (pe_bm PySem.F.plainAttrs_list PySem.F.slot_list_append PySem.F.type_list_append mt_append (pv 3) (pa_cons (pe_op op_mod (pe_op op_fdiv (pv 1) pe_int) pe_int) pa_nil)))) pss_nil))
      (pss_cons (ps_join (ps_if (pt_cmpR op_eq (pe_op op_mod (pe_op op_fdiv (pv 1) pe_int) pe_int) pe_int (nomark _)) (pss_one (ps_expr (pe_bm0 PySem.F.plainAttrs_list PySem.F.slot_list_pop PySem.F.type_list_pop mt_pop (pv 3)))) pss_nil))
      (pss_one (ps_ret (pe_tup (pa_cons (pv 3) (pa_cons (pv 4) pa_nil))))))))) pss_nil)
      (pss_cons (ps_par (i := 5) (j := 6) rfl sc_law_bent.nd rfl rfl (by decide) rfl rfl (pa_cons (pe_callTy (call_list_ofK K) rfl T.z_list PyProof.Rows.boot_list (pa_cons (pe_fldK K (pv 0) rfl) pa_nil)) (pa_cons (pe_callTy (call_list_ofK K) rfl T.z_list PyProof.Rows.boot_list (pa_cons (pe_fldK K (pv 0) rfl) pa_nil)) pa_nil)) rfl)
      (pss_cons (ps_set (i := 7) sc_law_bent.nd rfl (by first | exact Or.inl rfl | exact Or.inr rfl) (pe_op op_mod (pe_op op_fdiv (pv 1) pe_int) (pe_op op_shl pe_int (pv 2))))
      (pss_cons (ps_join (ps_if (pt_cmpR op_eq (pe_op op_mod (pv 1) pe_int) pe_int (nomark _)) (pss_one (ps_asg (pv 7) (pg_sub (pv 5) (pe_op op_mod (pe_op op_fdiv (pv 1) pe_int) (pe_callB (call_lenK K) rfl T.z_len PySem.boot_len (pa_cons (pv 5) pa_nil))) set_list))) pss_nil))
      (pss_cons (ps_join (ps_if (pt_cmpR op_eq (pe_op op_mod (pv 1) pe_int) pe_int (nomark _)) (pss_one (ps_asg (pv 7) (pg_sub (pv 6) (pe_op op_mod (pe_op op_fdiv (pv 1) pe_int) (pe_callB (call_lenK K) rfl T.z_len PySem.boot_len (pa_cons (pv 6) pa_nil))) set_list))) pss_nil))
      (pss_cons (ps_join (ps_if (pt_cmpR (op_inK K) (pe_op op_mod (pv 1) pe_int) (pe_tup (pa_cons pe_int (pa_cons pe_int pa_nil))) rfl) (pss_one (ps_expr (pe_bm PySem.F.plainAttrs_list PySem.F.slot_list_append PySem.F.type_list_append mt_append (pv 5) (pa_cons (pv 7) pa_nil)))) pss_nil))
      (pss_cons (ps_join (ps_if (pt_cmpR (op_inK K) (pe_op op_mod (pv 1) pe_int) (pe_tup (pa_cons pe_int (pa_cons pe_int pa_nil))) rfl) (pss_one (ps_expr (pe_bm PySem.F.plainAttrs_list PySem.F.slot_list_append PySem.F.type_list_append mt_append (pv 6) (pa_cons (pe_op op_mod (pe_op op_fdiv (pv 1) pe_int) (pe_op op_shl pe_int (pv 2))) pa_nil)))) pss_nil))
      (pss_cons (ps_join (ps_if (pt_cmpR op_eq (pe_op op_mod (pv 1) pe_int) pe_int (nomark _)) (pss_one (ps_par (i := 5) (j := 6) rfl sc_law_bent.nd rfl rfl (by decide) rfl rfl (pa_cons (pe_lst pa_nil) (pa_cons (pe_lst pa_nil) pa_nil)) rfl)) pss_nil))
      (pss_cons (ps_join (ps_if (pt_cmpR op_eq (pe_op op_mod (pv 1) pe_int) pe_int (nomark _)) (pss_one (ps_expr (pe_bm0 PySem.F.plainAttrs_list PySem.F.slot_list_pop PySem.F.type_list_pop mt_pop (pv 5)))) pss_nil))
      (pss_one (ps_ret (pe_tup (pa_cons (pv 5) (pa_cons (pv 6) pa_nil)))))))))))))), ?_⟩
  have h5 := two_le n5
  have p0 : (0 : Int) < ((2 ^ n : Nat) : Int) := by
    have := Nat.two_pow_pos n
    omega
  rcases hc with ⟨l, ws, q, hW, wl, k⟩ | ⟨l, m, cs, fs, hD, c2, f2, gc, gf, k⟩
  · obtain ⟨⟨dx, h1⟩, h2⟩ := id hW
    refine ⟨_, rfl, _, _, _, true, rfl, T.ty_Weights h1, T.ki_Weights_Weights, true, rfl, iteT ?_⟩
    refine ⟨_, rfl, p, a.C_Weights, dx, _, _, rfl, h1, T.cl_Weights, T.n_Weights_weights, wflds_w _ _, l, _, rfl, .inl (SqL.of h2), fun r nr => ?_⟩
    have s1 : Same H (upd H r (.lst (ws.map V.int))) := same_new nr _
    have hr1 : upd H r (.lst (ws.map V.int)) r = some (.lst (ws.map V.int)) := upd_same
    generalize upd H r (.lst (ws.map V.int)) = H1 at s1 hr1
    have i0 := Int.emod_nonneg (c / 3) (show (n : Int) ≠ 0 by omega)
    have i1 := Int.emod_lt_of_pos (c / 3) (show (0 : Int) < n by omega)
    have d3 : (0 : Int) < 3 := by decide
    have d5 : (0 : Int) < 5 := by decide
    have d2 : (0 : Int) < 2 := by decide
    have dn : (0 : Int) < (n : Int) := by omega
    refine ⟨_, rfl, p, a.C_Weights, dx, _, _, rfl, s1 _ _ h1, T.cl_Weights, T.n_Weights_quota, wflds_q _ _, _, rfl, _, _, rfl, rfl, d3, _, _, rfl, rfl, _, _, rfl, rfl, _, _, rfl, _, _, rfl, ?_⟩
    have nr0 : H r = none := nr
    refine ⟨_, rfl, _, rfl, _, _, rfl, rfl, ⟨by decide, by decide⟩, _, rfl, _, _, rfl, rfl, dn, r, _, _, _, rfl, rfl, SqL.of hr1, at_ints i0 (by rw [wl]; exact i1), _, rfl, _, _, rfl, rfl, ⟨by decide, by decide⟩, _, _, rfl, rfl, d3, _, _, rfl, rfl, _, _, rfl, rfl, _, _, rfl, ?_⟩
    refine ⟨_, rfl, _, rfl, _, _, rfl, rfl, ⟨by decide, by decide⟩, _, rfl, _, _, rfl, rfl, dn, r, _, _, _, rfl, rfl, hr1, ix_ints i0 (by rw [wl]; exact i1), ?_⟩
    rw [← List.map_set]
    generalize hw2 : ws.set (c / 3 % (n : Int)).toNat _ = ws2
    have wl2 : ws2.length = n := by rw [← hw2, List.length_set, wl]
    have s2 : Same H (upd H1 r (.lst (ws2.map V.int))) := same_own s1 nr0
    have hr2 : upd H1 r (.lst (ws2.map V.int)) r = some (.lst (ws2.map V.int)) := upd_same
    generalize upd H1 r (.lst (ws2.map V.int)) = H2 at s2 hr2
    refine ⟨fun σ' H' => ∃ (ws3 : List Int) (q2 : Int), σ' = [some (.ref p), some (.int c), some (.int n), some (.ref r), some (.int q2), none, none, none] ∧ Same H H' ∧ H' r = some (.lst (ws3.map V.int)) ∧ n ≤ ws3.length ∧ ws3.length ≤ n + 1, ?_, ?_⟩
    · refine ⟨_, rfl, _, _, rfl, rfl, ⟨by decide, by decide⟩, _, _, rfl, rfl, d5, rfl, _, rfl, ?_⟩
      refine ite_b (fun _ => ?_) (fun _ => ⟨ws2, _, rfl, s2, hr2, by omega, by omega⟩)
      refine ⟨_, rfl, .inl ⟨rfl, _, SqL.of hr2⟩, _, rfl, _, _, rfl, rfl, ⟨by decide, by decide⟩, _, _, rfl, rfl, d2, r, _, _, rfl, rfl, hr2, (by rw [List.length_map]; exact small1000 (by omega)), ?_⟩
      exact ⟨ws2 ++ [c / 225 % 2], _, rfl, same_own s2 nr0, by rw [upd_same, List.map_append]; rfl, by rw [List.length_append]; omega, by rw [List.length_append]; show ws2.length + 1 ≤ n + 1; omega⟩
    rintro σ' H3 ⟨ws3, q2, rfl, s3, hr3, a1, a2⟩
    refine ⟨fun σ' H' => ∃ ws4 : List Int, σ' = [some (.ref p), some (.int c), some (.int n), some (.ref r), some (.int q2), none, none, none] ∧ Same H H' ∧ H' r = some (.lst (ws4.map V.int)) ∧ ws4.length ≤ n + 1, ?_, ?_⟩
    · refine ⟨_, rfl, _, _, rfl, rfl, ⟨by decide, by decide⟩, _, _, rfl, rfl, d5, rfl, _, rfl, ?_⟩
      refine ite_b (fun _ => ?_) (fun _ => ⟨ws3, rfl, s3, hr3, a2⟩)
      have hne : ws3.length - 1 < ws3.length := by omega
      refine ⟨_, rfl, .inl ⟨rfl, _, SqL.of hr3⟩, r, _, _, rfl, rfl, hr3, (by rw [List.length_map, List.getElem?_map, List.getElem?_eq_getElem hne]; rfl), ?_⟩
      exact ⟨ws3.dropLast, rfl, same_own s3 nr0, by rw [upd_same, List.map_dropLast], by rw [List.length_dropLast]; omega⟩
    rintro σ' H4 ⟨ws4, rfl, s4, hr4, a4⟩
    refine ⟨_, rfl, _, rfl, (by show 2 ≤ sizeLine; decide), fun t nt => ?_⟩
    exact k t r ws4 q2 _ (s4.free nt) nr0 (s4.trans (same_new nt _)) upd_same (same_new nt _ _ _ hr4) (by omega)
  · obtain ⟨⟨dx, h1⟩, h2, h3⟩ := id hD
    refine ⟨_, rfl, _, _, _, false, rfl, T.ty_Trade h1, T.ki_Trade_Weights, false, rfl, iteF ?_⟩
    have d8 : (0 : Int) < 8 := by decide
    have ps : (0 : Int) < 1 * 2 ^ ((n : Int)).toNat := by rw [pow_n]; exact p0
    have gIn : ∀ x : Int, x % (1 * 2 ^ ((n : Int)).toNat) ∈ up (2 ^ n) := fun x => by
      rw [pow_n]
      exact mem_up.mpr ⟨Int.emod_nonneg _ (by omega), Int.emod_lt_of_pos _ p0⟩
    refine ⟨_, rfl, p, a.C_Trade, dx, _, _, rfl, h1, T.cl_Trade, T.n_Trade_carry, tflds_c _ _, l, _, rfl, .inl (SqL.of h2), fun r nr => ?_⟩
    have s1 : Same H (upd H r (.lst (cs.map V.int))) := same_new nr _
    have hr1 : upd H r (.lst (cs.map V.int)) r = some (.lst (cs.map V.int)) := upd_same
    generalize upd H r (.lst (cs.map V.int)) = H1 at s1 hr1
    refine ⟨_, rfl, p, a.C_Trade, dx, _, _, rfl, s1 _ _ h1, T.cl_Trade, T.n_Trade_fail, tflds_f _ _, m, _, rfl, .inl (SqL.of (s1 _ _ h3)), fun u nu => ?_⟩
    have B0 : BT n H (upd H1 u (.lst (fs.map V.int))) r u cs fs := ⟨s1.trans (same_new nu _), nr, s1.free nu, ne_of_none hr1 nu, same_new nu _ _ _ hr1, upd_same, gc, gf⟩
    generalize upd H1 u (.lst (fs.map V.int)) = H2 at B0
    clear s1 hr1 nu nr
    refine ⟨_, _, rfl, ?_⟩
    refine ⟨_, rfl, _, _, rfl, rfl, ⟨by decide, by decide⟩, _, rfl, _, _, rfl, rfl, shl_ok (by omega), _, _, rfl, rfl, ps, ?_⟩
    have hg : c / 8 % (1 * 2 ^ ((n : Int)).toNat) ∈ up (2 ^ n) := gIn _
    -- a group put for another in the one list
    refine ⟨fun σ' H' => ∃ (g : Int) (cs' : List Int), σ' = [some (.ref p), some (.int c), some (.int n), none, none, some (.ref r), some (.ref u), some (.int g)] ∧ g ∈ up (2 ^ n) ∧ BT n H H' r u cs' fs ∧ cs'.length = 2, ?_, ?_⟩
    · refine ⟨_, rfl, _, _, rfl, rfl, d8, rfl, _, rfl, ?_⟩
      refine ite_b (fun _ => ?_) (fun _ => ⟨_, cs, rfl, hg, B0, c2⟩)
      have hlen : (((cs.map V.int).length : Nat) : Int) = 2 := by rw [List.length_map, c2]; rfl
      have i0 := Int.emod_nonneg (c / 256) (show (((cs.map V.int).length : Nat) : Int) ≠ 0 by omega)
      have i1 := Int.emod_lt_of_pos (c / 256) (show (0 : Int) < (((cs.map V.int).length : Nat) : Int) by omega)
      refine ⟨_, rfl, _, rfl, _, rfl, _, _, rfl, rfl, ⟨by decide, by decide⟩, _, rfl, r, _, rfl, .inl (SqL.of B0.hl), _, _, rfl, rfl, by omega, r, _, _, _, rfl, rfl, B0.hl, ix_ints i0 (by rw [List.length_map] at i1 ⊢; exact i1), ?_⟩
      rw [← List.map_set]
      exact ⟨_, _, rfl, hg, B0.left (Same.refl _) (fun x hx => (List.mem_or_eq_of_mem_set hx).elim (gc x) fun z => by rw [z]; exact hg), by rw [List.length_set, c2]⟩
    rintro σ' H3 ⟨g, cs1, rfl, hgu, B1, c1⟩
    clear B0 hg
    -- in the other
    refine ⟨fun σ' H' => ∃ fs' : List Int, σ' = [some (.ref p), some (.int c), some (.int n), none, none, some (.ref r), some (.ref u), some (.int g)] ∧ BT n H H' r u cs1 fs' ∧ fs'.length = 2, ?_, ?_⟩
    · refine ⟨_, rfl, _, _, rfl, rfl, d8, rfl, _, rfl, ?_⟩
      refine ite_b (fun _ => ?_) (fun _ => ⟨fs, rfl, B1, f2⟩)
      have hlen : (((fs.map V.int).length : Nat) : Int) = 2 := by rw [List.length_map, f2]; rfl
      have i0 := Int.emod_nonneg (c / 256) (show (((fs.map V.int).length : Nat) : Int) ≠ 0 by omega)
      have i1 := Int.emod_lt_of_pos (c / 256) (show (0 : Int) < (((fs.map V.int).length : Nat) : Int) by omega)
      refine ⟨_, rfl, _, rfl, _, rfl, _, _, rfl, rfl, ⟨by decide, by decide⟩, _, rfl, u, _, rfl, .inl (SqL.of B1.hm), _, _, rfl, rfl, by omega, u, _, _, _, rfl, rfl, B1.hm, ix_ints i0 (by rw [List.length_map] at i1 ⊢; exact i1), ?_⟩
      rw [← List.map_set]
      exact ⟨_, rfl, B1.right (Same.refl _) (fun x hx => (List.mem_or_eq_of_mem_set hx).elim (gf x) fun z => by rw [z]; exact hgu), by rw [List.length_set, f2]⟩
    rintro σ' H4 ⟨fs1, rfl, B2, f1⟩
    -- one more in the one list
    have tup2 : ∀ {H' : Hp} {t : Addr} {x y : V}, H' t = none → Same H' (upd H' t (.tup [x, y])) ∧ upd H' t (.tup [x, y]) t = some (.tup [x, y]) := fun nt => ⟨same_new nt _, upd_same⟩
    refine ⟨fun σ' H' => ∃ cs' : List Int, σ' = [some (.ref p), some (.int c), some (.int n), none, none, some (.ref r), some (.ref u), some (.int g)] ∧ BT n H H' r u cs' fs1 ∧ cs'.length ≤ 3 ∧ cs' ≠ [], ?_, ?_⟩
    · refine ⟨_, rfl, _, _, rfl, rfl, d8, (by show 2 ≤ sizeLine; decide), fun t nt => ?_⟩
      obtain ⟨st, ht⟩ := tup2 (x := .int 3) (y := .int 4) nt
      generalize upd H4 t (.tup [.int 3, .int 4]) = H5 at st ht
      refine ⟨t, _, rfl, .inr (SqT.of ht), rfl, rfl, _, rfl, ?_⟩
      refine ite_b (fun _ => ?_) (fun _ => ⟨cs1, rfl, B2.on st, by omega, fun z => by rw [z] at c1; cases c1⟩)
      refine ⟨_, rfl, .inl ⟨rfl, _, SqL.of (st _ _ B2.hl)⟩, _, rfl, r, _, _, rfl, rfl, st _ _ B2.hl, (by rw [List.length_map]; exact small1000 (by omega)), ?_⟩
      have e : (cs1.map V.int ++ [V.int g]) = (cs1 ++ [g]).map V.int := by rw [List.map_append]; rfl
      rw [e]
      exact ⟨_, rfl, B2.left st (fun x hx => (List.mem_append.mp hx).elim (B2.gc x) fun z => by rw [List.mem_singleton.mp z]; exact hgu), by rw [List.length_append]; show cs1.length + 1 ≤ 3; omega, by simp⟩
    rintro σ' H5 ⟨cs2, rfl, B3, c3, cne⟩
    -- in the other
    refine ⟨fun σ' H' => ∃ fs' : List Int, σ' = [some (.ref p), some (.int c), some (.int n), none, none, some (.ref r), some (.ref u), some (.int g)] ∧ BT n H H' r u cs2 fs' ∧ fs'.length ≤ 3, ?_, ?_⟩
    · refine ⟨_, rfl, _, _, rfl, rfl, d8, (by show 2 ≤ sizeLine; decide), fun t nt => ?_⟩
      obtain ⟨st, ht⟩ := tup2 (x := .int 3) (y := .int 5) nt
      generalize upd H5 t (.tup [.int 3, .int 5]) = H6 at st ht
      refine ⟨t, _, rfl, .inr (SqT.of ht), rfl, rfl, _, rfl, ?_⟩
      refine ite_b (fun _ => ?_) (fun _ => ⟨fs1, rfl, B3.on st, by omega⟩)
      refine ⟨_, rfl, .inl ⟨rfl, _, SqL.of (st _ _ B3.hm)⟩, _, rfl, _, _, rfl, rfl, ⟨by decide, by decide⟩, _, rfl, _, _, rfl, rfl, shl_ok (by omega), _, _, rfl, rfl, ps, u, _, _, rfl, rfl, st _ _ B3.hm, (by rw [List.length_map]; exact small1000 (by omega)), ?_⟩
      have e : (fs1.map V.int ++ [V.int (c / 256 % (1 * 2 ^ ((n : Int)).toNat))]) = (fs1 ++ [c / 256 % (1 * 2 ^ ((n : Int)).toNat)]).map V.int := by rw [List.map_append]; rfl
      rw [e]
      exact ⟨_, rfl, B3.right st (fun x hx => (List.mem_append.mp hx).elim (B3.gf x) fun z => by rw [List.mem_singleton.mp z]; exact gIn _), by rw [List.length_append]; show fs1.length + 1 ≤ 3; omega⟩
    rintro σ' H6 ⟨fs2, rfl, B4, f3⟩
    -- none at all
    refine ⟨fun σ' H' => ∃ (r' u' : Addr) (cs' fs' : List Int), σ' = [some (.ref p), some (.int c), some (.int n), none, none, some (.ref r'), some (.ref u'), some (.int g)] ∧ BT n H H' r' u' cs' fs' ∧ cs'.length ≤ 3 ∧ fs'.length ≤ 3 ∧ (c % 8 = 7 → cs' ≠ []), ?_, ?_⟩
    · refine ⟨_, rfl, _, _, rfl, rfl, d8, rfl, _, rfl, ?_⟩
      rw [dec_int]
      refine ite_b (fun h6 => ?_) (fun _ => ⟨r, u, cs2, fs2, rfl, B4, c3, f3, fun _ => cne⟩)
      have e6 : c % 8 = 6 := by simpa using h6
      refine ⟨(by show 0 ≤ sizeLine; decide), fun r' nr' => ⟨(by show 0 ≤ sizeLine; decide), fun u' nu' => ⟨_, _, rfl, r', u', [], [], rfl, ?_, by simp, by simp, fun z => by omega⟩⟩⟩
      have hr' : upd H6 r' (.lst []) r' = some (.lst (([] : List Int).map V.int)) := upd_same
      have s7 : Same H6 (upd H6 r' (.lst [])) := same_new nr' _
      exact ⟨B4.same.trans (s7.trans (same_new nu' _)), B4.same.free nr', (B4.same.trans s7).free nu', ne_of_none hr' nu', same_new nu' _ _ _ hr', upd_same, (fun _ h => nomatch h), (fun _ h => nomatch h)⟩
    rintro σ' H7 ⟨r', u', cs3, fs3, rfl, B5, c4, f4, cne7⟩
    -- one less
    refine ⟨fun σ' H' => ∃ cs' : List Int, σ' = [some (.ref p), some (.int c), some (.int n), none, none, some (.ref r'), some (.ref u'), some (.int g)] ∧ BT n H H' r' u' cs' fs3 ∧ cs'.length ≤ 3, ?_, ?_⟩
    · refine ⟨_, rfl, _, _, rfl, rfl, d8, rfl, _, rfl, ?_⟩
      rw [dec_int]
      refine ite_b (fun h7 => ?_) (fun _ => ⟨cs3, rfl, B5, c4⟩)
      have hne : cs3 ≠ [] := cne7 (by simpa using h7)
      have hpos : cs3.length - 1 < cs3.length := by
        have : cs3.length ≠ 0 := fun z => hne (List.eq_nil_of_length_eq_zero z)
        omega
      refine ⟨_, rfl, .inl ⟨rfl, _, SqL.of B5.hl⟩, r', _, _, rfl, rfl, B5.hl, (by rw [List.length_map, List.getElem?_map, List.getElem?_eq_getElem hpos]; rfl), ?_⟩
      rw [← List.map_dropLast]
      exact ⟨_, rfl, B5.left (Same.refl _) (fun x hx => B5.gc x ((List.dropLast_sublist _).subset hx)), by rw [List.length_dropLast]; omega⟩
    rintro σ' H8 ⟨cs4, rfl, B6, c5⟩
    refine ⟨_, rfl, _, rfl, (by show 2 ≤ sizeLine; decide), fun t nt => ?_⟩
    exact k t r' u' cs4 fs3 _ (B6.same.free nt) (B6.on (same_new nt _)) upd_same (by omega) (by omega)
end Wv

set_option Elab.async false
set_option linter.all false
set_option maxRecDepth 100000
set_option maxHeartbeats 4000000

namespace Wv
open PySem L2
seal L2.PSs L2.PS L2.PE L2.PA L2.PT L2.PI L2.PW L2.PG L2.PGs L2.PIfs
theorem CAt.put {C : Addr} {H : Hp} {c l : Addr} {n : Nat} {tb : List Bool} {xs : List V} {o : HO} (h : CAt C H c n tb) (hl : H l = some (.lst xs)) : CAt C (upd H l o) c n tb := by
  obtain ⟨⟨dx, t, h1, h2⟩, n1, n5, z⟩ := h
  exact ⟨⟨dx, t, by rw [upd_ne (ne_of h1 hl (by intro z; cases z))]; exact h1, by rw [upd_ne (ne_of h2 hl (by intro z; cases z))]; exact h2⟩, n1, n5, z⟩
theorem WAt.put {C : Addr} {H : Hp} {p w l : Addr} {ws : List Int} {q : Int} {xs : List V} {o : HO} (h : WAt C H p w ws q) (hl : H l = some (.lst xs)) (n : w ≠ l) : WAt C (upd H l o) p w ws q :=
  ⟨let ⟨dx, e⟩ := h.1; ⟨dx, by rw [upd_ne (ne_of e hl (by intro z; cases z))]; exact e⟩, by rw [upd_ne n]; exact h.2⟩
theorem TAt.put {C : Addr} {H : Hp} {p w v l : Addr} {cs fs : List Int} {xs : List V} {o : HO} (h : TAt C H p w v cs fs) (hl : H l = some (.lst xs)) (n1 : w ≠ l) (n2 : v ≠ l) : TAt C (upd H l o) p w v cs fs :=
  ⟨let ⟨dx, e⟩ := h.1; ⟨dx, by rw [upd_ne (ne_of e hl (by intro z; cases z))]; exact e⟩, by rw [upd_ne n1]; exact h.2.1, by rw [upd_ne n2]; exact h.2.2⟩
def sp_law_by_hand (C W D : Addr) : Sp := fun vs H Q _ => ∃ (c t p b : Addr) (n : Nat) (tb : List Bool), vs = [.ref c, .ref t, .ref p, .ref b] ∧ CAt C H c n tb ∧ H t = some (.lst (tb.map V.bl)) ∧
  ((∃ (w l : Addr) (vs ws : List Int) (v q : Int), WAt W H p w vs v ∧ H b = some (.tup [.ref l, .int q]) ∧ H l = some (.lst (ws.map V.int)) ∧ ws.length ≤ 10 ∧ l ≠ t ∧ ∀ H', (∀ x o, H x = some o → x ≠ l → H' x = some o) → Q (.bl true) H') ∨
   ∃ (w u l m : Addr) (xs ys cs fs : List Int), TAt D H p w u xs ys ∧ H b = some (.tup [.ref l, .ref m]) ∧ H l = some (.lst (cs.map V.int)) ∧ H m = some (.lst (fs.map V.int)) ∧ l ≠ m ∧ cs.length ≤ 10 ∧ fs.length ≤ 10 ∧ (∀ g ∈ cs, g ∈ up (2 ^ n)) ∧ (∀ g ∈ fs, g ∈ up (2 ^ n)) ∧ l ≠ t ∧ m ≠ t ∧ ∀ H', (∀ x o, H x = some o → x ≠ l → x ≠ m → H' x = some o) → Q (.bl true) H')
theorem ok_law_by_hand {P : Program} {w : World} {K : PySem.W.Frag} {mg : Str → Option Value} {base : Heap} {a : Adr} (T : Txt K mg a) : FnOk P w K mg base CX0 7 a.a_law_by_hand a.d_law_by_hand ["_law_council", "_law_table_here", "_law_found", "_law_bent_here"] (sp_law_by_hand a.C_Council a.C_Weights a.C_Trade) := by
  refine T.F_law_by_hand.ok sc_law_by_hand (fun vs H Q E h => ?_) (fun cdv A outer s H vs Q E hr h => ?_)
  · obtain ⟨c, t, p, b, n, tb, rfl, _⟩ := h; rfl
  obtain ⟨c, t, p, b, n, tb, rfl, cc, ht, hc⟩ := h
  refine ⟨_, (pss_cons (ps_asg (pv 3) (pg_tupK K (n := 2) rfl (pgs_cons (pg_name (i := 4) sc_law_by_hand.nd rfl (by first | exact Or.inl rfl | exact Or.inr rfl)) (pgs_cons (pg_name (i := 5) sc_law_by_hand.nd rfl (by first | exact Or.inl rfl | exact Or.inr rfl)) pgs_nil))))
      (pss_cons (ps_set (i := 6) sc_law_by_hand.nd rfl (by first | exact Or.inl rfl | exact Or.inr rfl) (pe_callTy (call_list_ofK K) rfl T.z_list PyProof.Rows.boot_list (pa_cons (pv 4) pa_nil)))
      (pss_cons (ps_if (pt_val (pe_callB (call_isO K) rfl T.z_isinstance PyProof.Rows.boot_isinstance (pa_cons (pv 2) (pa_cons (pe_glob (v := .ref a.C_Weights) rfl T.m_Weights rfl) pa_nil)))) (pss_cons (ps_set (i := 7) sc_law_by_hand.nd rfl (by first | exact Or.inl rfl | exact Or.inr rfl) (pe_make T.mk_Weights (ok_Weights_init T) (hr.mono (by decide)) rfl T.m_Weights (b_Weights_init T) .nil pass0 (pa_cons (pv 4) (pa_cons (pv 5) pa_nil))))
      (pss_cons (ps_expr (pe_bm0 PySem.F.plainAttrs_list PySem.F.slot_list_clear PySem.F.type_list_clear mt_clear (pv 4)))
      (pss_cons (ps_set (i := 8) sc_law_by_hand.nd rfl (by first | exact Or.inl rfl | exact Or.inr rfl) (pe_call (ok_law_made T) (hr.mono (by decide)) rfl T.m_law_made T.F_law_made.kp (b_law_made T) .nil pass0 (pa_cons (pv 1) (pa_cons (pv 6) (pa_cons (pv 5) pa_nil)))))
      (pss_one (ps_ret (pe_and (pe_cmpR (op_eqLK K hr.units0) (pe_fldK K (pv 7) rfl) (pv 6) (nomark _)) (pe_and (pe_cmpR op_eq (pe_fldK K (pv 7) rfl) (pv 5) (nomark _)) (pe_one (pe_call (ok_law_says T) hr rfl T.m_law_says T.F_law_says.kp (b_law_says T) .nil pass0 (pa_cons (pv 7) (pa_cons (pv 0) (pa_cons (pv 8) pa_nil)))))))))))) pss_nil)
      (pss_cons (ps_set (i := 9) sc_law_by_hand.nd rfl (by first | exact Or.inl rfl | exact Or.inr rfl) (pe_callTy (call_list_ofK K) rfl T.z_list PyProof.Rows.boot_list (pa_cons (pv 5) pa_nil)))
      (pss_cons (ps_set (i := 7) sc_law_by_hand.nd rfl (by first | exact Or.inl rfl | exact Or.inr rfl) (pe_make T.mk_Trade (ok_Trade_init T) (hr.mono (by decide)) rfl T.m_Trade (b_Trade_init T) .nil pass0 (pa_cons (pv 4) (pa_cons (pv 5) pa_nil))))
      (pss_cons (ps_expr (pe_bm0 PySem.F.plainAttrs_list PySem.F.slot_list_clear PySem.F.type_list_clear mt_clear (pv 4)))
      (pss_cons (ps_expr (pe_bm0 PySem.F.plainAttrs_list PySem.F.slot_list_clear PySem.F.type_list_clear mt_clear (pv 5)))
      (pss_cons (ps_set (i := 8) sc_law_by_hand.nd rfl (by first | exact Or.inl rfl | exact Or.inr rfl) (pe_call (ok_law_traded T) (hr.mono (by decide)) rfl T.m_law_traded T.F_law_traded.kp (b_law_traded T) .nil pass0 (pa_cons (pv 1) (pa_cons (pv 6) (pa_cons (pv 9) (pa_cons (pe_fldK K (pv 0) rfl) pa_nil))))))
      (pss_one (ps_ret (pe_and (pe_cmpR (op_eqLK K hr.units0) (pe_fldK K (pv 7) rfl) (pv 6) (nomark _)) (pe_and (pe_cmpR (op_eqLK K hr.units0) (pe_fldK K (pv 7) rfl) (pv 9) (nomark _)) (pe_one (pe_call (ok_law_says T) hr rfl T.m_law_says T.F_law_says.kp (b_law_says T) .nil pass0 (pa_cons (pv 7) (pa_cons (pv 0) (pa_cons (pv 8) pa_nil))))))))))))))))), ?_⟩
  have n5 := cc.n5
  have tl := cc.len
  rcases hc with ⟨w, l, vs, ws, v, q, hW, hb, hl, zw, nlt, k⟩ | ⟨w, u, l, m, xs, ys, cs, fs, hD, hb, hl, hm, nlm, zc, zf, gc, gf, nlt, nmt, k⟩
  · obtain ⟨⟨dx, h1⟩, h2⟩ := id hW
    refine ⟨_, rfl, b, _, rfl, SqT.of hb, rfl, _, _, rfl, _, _, rfl, rfl, ?_⟩
    refine ⟨_, rfl, l, _, rfl, .inl (SqL.of hl), fun kp nk => ?_⟩
    have s1 : Same H (upd H kp (.lst (ws.map V.int))) := same_new nk _
    have hk1 : upd H kp (.lst (ws.map V.int)) kp = some (.lst (ws.map V.int)) := upd_same
    generalize upd H kp (.lst (ws.map V.int)) = H1 at s1 hk1
    refine ⟨_, rfl, _, _, _, true, rfl, T.ty_Weights (s1 _ _ h1), T.ki_Weights_Weights, true, rfl, iteT ?_⟩
    refine ⟨_, rfl, _, rfl, fun x dx2 nx ndx nex => ?_⟩
    have s2 : Same H1 (upd (upd H1 dx2 (.own x)) x (.ins a.C_Weights dx2 [])) := (same_new ndx _).trans (same_new (by rw [upd_ne (Ne.symm nex)]; exact nx) _)
    have hx2 : upd (upd H1 dx2 (.own x)) x (.ins a.C_Weights dx2 []) x = some (.ins a.C_Weights dx2 []) := upd_same
    generalize upd (upd H1 dx2 (.own x)) x (.ins a.C_Weights dx2 []) = H2 at s2 hx2
    have hl2 := s2 _ _ (s1 _ _ hl)
    refine ⟨x, dx2, l, ws, q, rfl, hx2, hl2, fun wl H3 nwl hX keep => ⟨rfl, ?_⟩⟩
    have s13 : Same H1 H3 := fun y o hy => keep y o (s2 _ _ hy) (ne_of_none hy nx)
    have s03 := s1.trans s13
    have hl3 := s03 _ _ hl
    have nwl' : wl ≠ l := fun z => by rw [z, hl2] at nwl; cases nwl
    have nkl : kp ≠ l := fun z => by rw [z, hl] at nk; cases nk
    refine ⟨_, rfl, .inl ⟨rfl, _, SqL.of hl3⟩, l, _, rfl, rfl, hl3, ?_⟩
    have hX4 := hX.put (o := .lst []) hl3 nwl'
    have cc4 := (cc.same s03).put (o := .lst []) hl3
    have ht4 : upd H3 l (.lst []) t = some (.lst (tb.map V.bl)) := by rw [upd_ne (Ne.symm nlt)]; exact s03 _ _ ht
    have hk4 : upd H3 l (.lst []) kp = some (.lst (ws.map V.int)) := by rw [upd_ne nkl]; exact s13 _ _ hk1
    have keep4 : ∀ y o, H y = some o → y ≠ l → upd H3 l (.lst []) y = some o := fun y o hy ny => by rw [upd_ne ny]; exact s03 _ _ hy
    generalize upd H3 l (.lst []) = H4 at hX4 cc4 ht4 hk4 keep4
    refine ⟨_, rfl, _, rfl, _, rfl, t, kp, n, tb, ws, q, rfl, ht4, tl, n5, hk4, by omega, fun H5 s5 => ?_⟩
    obtain ⟨⟨dx5, x1⟩, x2⟩ := id (hX4.same s5)
    refine ⟨_, rfl, x, a.C_Weights, dx5, _, _, rfl, x1, T.cl_Weights, T.n_Weights_weights, wflds_w _ _, _, rfl, wl, kp, ws, ws, rfl, rfl, SqL.of x2, SqL.of (s5 _ _ hk4), _, rfl, ite_t (decide_eq_true rfl) ?_⟩
    refine ⟨_, rfl, x, a.C_Weights, dx5, _, _, rfl, x1, T.cl_Weights, T.n_Weights_quota, wflds_q _ _, _, rfl, rfl, _, rfl, ite_t (decide_eq_true rfl) ?_⟩
    refine ⟨_, rfl, _, rfl, _, rfl, .inl ⟨x, wl, c, ws, q, n, tb, _, rfl, hX4.same s5, by omega, cc4.same s5, fun H6 s6 => ?_⟩⟩
    exact qbl (beq_self_eq_true _).symm (k _ fun y o hy ny => s6 _ _ (s5 _ _ (keep4 y o hy ny)))
  · obtain ⟨⟨dx, h1⟩, h2, h3⟩ := id hD
    refine ⟨_, rfl, b, _, rfl, SqT.of hb, rfl, _, _, rfl, _, _, rfl, rfl, ?_⟩
    refine ⟨_, rfl, l, _, rfl, .inl (SqL.of hl), fun kp nk => ?_⟩
    have s1 : Same H (upd H kp (.lst (cs.map V.int))) := same_new nk _
    have hk1 : upd H kp (.lst (cs.map V.int)) kp = some (.lst (cs.map V.int)) := upd_same
    generalize upd H kp (.lst (cs.map V.int)) = H1 at s1 hk1
    refine ⟨_, rfl, _, _, _, false, rfl, T.ty_Trade (s1 _ _ h1), T.ki_Trade_Weights, false, rfl, iteF ?_⟩
    refine ⟨_, rfl, m, _, rfl, .inl (SqL.of (s1 _ _ hm)), fun ot no => ?_⟩
    have s2 : Same H1 (upd H1 ot (.lst (fs.map V.int))) := same_new no _
    have ho2 : upd H1 ot (.lst (fs.map V.int)) ot = some (.lst (fs.map V.int)) := upd_same
    generalize upd H1 ot (.lst (fs.map V.int)) = H2 at s2 ho2
    have s02 := s1.trans s2
    refine ⟨_, rfl, _, rfl, fun x dx2 nx ndx nex => ?_⟩
    have s3 : Same H2 (upd (upd H2 dx2 (.own x)) x (.ins a.C_Trade dx2 [])) := (same_new ndx _).trans (same_new (by rw [upd_ne (Ne.symm nex)]; exact nx) _)
    have hx3 : upd (upd H2 dx2 (.own x)) x (.ins a.C_Trade dx2 []) x = some (.ins a.C_Trade dx2 []) := upd_same
    generalize upd (upd H2 dx2 (.own x)) x (.ins a.C_Trade dx2 []) = H3 at s3 hx3
    have s03 := s02.trans s3
    have hl3 := s03 _ _ hl
    have hm3 := s03 _ _ hm
    refine ⟨x, dx2, l, m, cs, fs, rfl, hx3, hl3, hm3, fun wl wm H4 nwl nwm _ hX keep => ⟨rfl, ?_⟩⟩
    have s24 : Same H2 H4 := fun y o hy => keep y o (s3 _ _ hy) (ne_of_none hy nx)
    have s04 := s02.trans s24
    have hl4 := s04 _ _ hl
    have hm4 := s04 _ _ hm
    have a1 : wl ≠ l := fun z => by rw [z, hl3] at nwl; cases nwl
    have a2 : wl ≠ m := fun z => by rw [z, hm3] at nwl; cases nwl
    have a3 : wm ≠ l := fun z => by rw [z, hl3] at nwm; cases nwm
    have a4 : wm ≠ m := fun z => by rw [z, hm3] at nwm; cases nwm
    have b1 : kp ≠ l := fun z => by rw [z, hl] at nk; cases nk
    have b2 : kp ≠ m := fun z => by rw [z, hm] at nk; cases nk
    have b3 : ot ≠ l := fun z => by rw [z, s1 _ _ hl] at no; cases no
    have b4 : ot ≠ m := fun z => by rw [z, s1 _ _ hm] at no; cases no
    refine ⟨_, rfl, .inl ⟨rfl, _, SqL.of hl4⟩, l, _, rfl, rfl, hl4, ?_⟩
    have hm5 : upd H4 l (.lst []) m = some (.lst (fs.map V.int)) := by rw [upd_ne (Ne.symm nlm)]; exact hm4
    refine ⟨_, rfl, .inl ⟨rfl, _, SqL.of hm5⟩, m, _, rfl, rfl, hm5, ?_⟩
    have hX6 := (hX.put (o := .lst []) hl4 a1 a3).put (o := .lst []) hm5 a2 a4
    have cc6 := ((cc.same s04).put (o := .lst []) hl4).put (o := .lst []) hm5
    have ht6 : upd (upd H4 l (.lst [])) m (.lst []) t = some (.lst (tb.map V.bl)) := by rw [upd_ne (Ne.symm nmt), upd_ne (Ne.symm nlt)]; exact s04 _ _ ht
    have hk6 : upd (upd H4 l (.lst [])) m (.lst []) kp = some (.lst (cs.map V.int)) := by rw [upd_ne b2, upd_ne b1]; exact s24 _ _ (s2 _ _ hk1)
    have ho6 : upd (upd H4 l (.lst [])) m (.lst []) ot = some (.lst (fs.map V.int)) := by rw [upd_ne b4, upd_ne b3]; exact s24 _ _ ho2
    have keep6 : ∀ y o, H y = some o → y ≠ l → y ≠ m → upd (upd H4 l (.lst [])) m (.lst []) y = some o := fun y o hy n1 n2 => by rw [upd_ne n2, upd_ne n1]; exact s04 _ _ hy
    generalize upd (upd H4 l (.lst [])) m (.lst []) = H6 at hX6 cc6 ht6 hk6 ho6 keep6
    obtain ⟨⟨cx, ct, e1, e2⟩, _, _, _⟩ := id cc6
    refine ⟨_, rfl, _, rfl, _, rfl, _, rfl, c, a.C_Council, cx, _, _, rfl, e1, T.cl_Council, T.n_Council_members, flds_m _ _, t, kp, ot, n, tb, cs, fs, rfl, ht6, tl, n5, hk6, ho6, by omega, by omega, gc, gf, fun H7 s7 => ?_⟩
    obtain ⟨⟨dx7, x1⟩, x2, x3⟩ := id (hX6.same s7)
    refine ⟨_, rfl, x, a.C_Trade, dx7, _, _, rfl, x1, T.cl_Trade, T.n_Trade_carry, tflds_c _ _, _, rfl, wl, kp, cs, cs, rfl, rfl, SqL.of x2, SqL.of (s7 _ _ hk6), _, rfl, ite_t (decide_eq_true rfl) ?_⟩
    refine ⟨_, rfl, x, a.C_Trade, dx7, _, _, rfl, x1, T.cl_Trade, T.n_Trade_fail, tflds_f _ _, _, rfl, wm, ot, fs, fs, rfl, rfl, SqL.of x3, SqL.of (s7 _ _ ho6), _, rfl, ite_t (decide_eq_true rfl) ?_⟩
    refine ⟨_, rfl, _, rfl, _, rfl, .inr ⟨x, wl, wm, c, cs, fs, n, tb, _, rfl, hX6.same s7, by omega, by omega, gc, gf, cc6.same s7, fun H8 s8 => ?_⟩⟩
    exact qbl (beq_self_eq_true _).symm (k _ fun y o hy n1 n2 => s8 _ _ (s7 _ _ (keep6 y o hy n1 n2)))
end Wv

set_option Elab.async false
set_option linter.all false
set_option maxRecDepth 100000
set_option maxHeartbeats 4000000

namespace Wv
open PySem L2
seal L2.PSs L2.PS L2.PE L2.PA L2.PT L2.PI L2.PW L2.PG L2.PGs L2.PIfs
theorem told4 {H : Hp} {t l : Addr} {n : Nat} {gs : List Int} (ht : H t = some (.tup [.int (n : Int), .ref l])) (hl : H l = some (.lst (gs.map V.int))) (n1 : 1 ≤ n) (n5 : n ≤ 5) (hz : gs.length ≤ 40) (hb : (gs.all fun g => decide (0 ≤ g ∧ g < ((2 ^ n : Nat) : Int))) = true) : ToldAt H t n l gs :=
  ⟨ht, hl, n1, n5, hz, fun g hg => of_decide_eq_true (List.all_eq_true.mp hb g hg)⟩
theorem atI_four {a b c d : V} (i : Int) : ∃ v, atI [a, b, c, d] (i / 4 % 4) = some v ∧ (v = a ∨ v = b ∨ v = c ∨ v = d) := by
  have h0 := Int.emod_nonneg (i / 4) (show (4 : Int) ≠ 0 by decide)
  have h1 := Int.emod_lt_of_pos (i / 4) (show (0 : Int) < 4 by decide)
  obtain ⟨k, ek⟩ : ∃ k : Nat, i / 4 % 4 = (k : Int) := ⟨(i / 4 % 4).toNat, by omega⟩
  rw [ek]
  have hk : k = 0 ∨ k = 1 ∨ k = 2 ∨ k = 3 := by omega
  rcases hk with rfl | rfl | rfl | rfl
  · exact ⟨a, atI_nat (j := 0) rfl, .inl rfl⟩
  · exact ⟨b, atI_nat (j := 1) rfl, .inr (.inl rfl)⟩
  · exact ⟨c, atI_nat (j := 2) rfl, .inr (.inr (.inl rfl))⟩
  · exact ⟨d, atI_nat (j := 3) rfl, .inr (.inr (.inr rfl))⟩
theorem tab_mk {K : PySem.W.Frag} {x : Str} {f c p : Addr} {oc oc2 : Value} {od od2 : Option Addr} {fd : FuncData} {sl sl2 : Array (Option Value)} {vs : Array Value} (h1 : PySem.W.nsIn K mainGlobals x = some (some (.ref f))) (h2 : K.lookup f = some ⟨oc, od, .func fd, sl⟩) (h3 : fd.code = .ref c) (h4 : K.lookup c = some ⟨oc2, od2, .fields vs, sl2⟩) (h5 : vs[11]? = some (.ref p)) :
    PySem.W.tabIn K x = some (c, p) := by
  unfold PySem.W.tabIn
  simp only [h1, h2, h3, h4, h5]
theorem ScrOk.t {K : PySem.W.Frag} {H H' : Hp} {a : Addr} (h : ScrOk K H a) (s : SameT H H') : ScrOk K H' a := by
  obtain ⟨ns, hq, hz⟩ := h
  refine ⟨ns, ?_, hz⟩
  rcases hq with (h | ⟨o, h⟩) | h
  · exact .inl (.inl (s.get h (fun _ z => nomatch z)))
  · exact .inl (.inr ⟨o, s.get h (fun _ z => nomatch z)⟩)
  · exact .inr h
theorem ToldAt.t {H H' : Hp} {t l : Addr} {n : Nat} {gs : List Int} (h : ToldAt H t n l gs) (s : SameT H H') : ToldAt H' t n l gs := by
  obtain ⟨h1, h2, r⟩ := h
  exact ⟨s.get h1 (fun _ z => nomatch z), s.get h2 (fun _ z => nomatch z), r⟩
theorem sameT_own {H H' : Hp} {f : Addr} {o : HO} (h : SameT H H') (nf : H f = none) : SameT H (upd H' f o) := fun b u e => by rw [upd_ne (ne_of_none e nf)]; exact h b u e
theorem sameT_but {H H' H2 : Hp} {l : Addr} (h : SameT H H') (k : ∀ x o, H' x = some o → x ≠ l → H2 x = some o) (nf : H l = none) : SameT H H2 := fun b u e => by
  have nb := ne_of_none e nf
  rcases h b u e with z | ⟨ps, ps', z1, z2⟩
  · exact .inl (k _ _ z nb)
  · exact .inr ⟨ps, ps', z1, k _ _ z2 nb⟩
theorem sameT_but2 {H H' H2 : Hp} {l m : Addr} (h : SameT H H') (k : ∀ x o, H' x = some o → x ≠ l → x ≠ m → H2 x = some o) (n1 : H l = none) (n2 : H m = none) : SameT H H2 := fun b u e => by
  have a := ne_of_none e n1
  have c := ne_of_none e n2
  rcases h b u e with z | ⟨ps, ps', z1, z2⟩
  · exact .inl (k _ _ z a c)
  · exact .inr ⟨ps, ps', z1, k _ _ z2 a c⟩
theorem lt_but2 {P l m : Addr} {H H' : Hp} {xs ys : List V} (h : LT P H) (k : ∀ x o, H x = some o → x ≠ l → x ≠ m → H' x = some o) (hl : H l = some (.lst xs)) (hm : H m = some (.lst ys)) : LT P H' := by
  have n1 : ∀ {x : Addr} {qs : Array Value}, H x = some (.tbl qs) → x ≠ l ∧ x ≠ m := fun e => ⟨ne_of e hl (by intro z; cases z), ne_of e hm (by intro z; cases z)⟩
  have n2 : ∀ {x d : Addr} {q : Str}, H x = some (CodeO d q) → x ≠ l ∧ x ≠ m := fun e => ⟨ne_of e hl (by intro z; cases z), ne_of e hm (by intro z; cases z)⟩
  rcases h with e | ⟨d, e, ec⟩
  · exact .inl (k _ _ e (n1 e).1 (n1 e).2)
  · exact .inr ⟨d, k _ _ e (n1 e).1 (n1 e).2, k _ _ ec (n2 ec).1 (n2 ec).2⟩
theorem lt_but {P l : Addr} {H H' : Hp} {xs : List V} (h : LT P H) (k : ∀ x o, H x = some o → x ≠ l → H' x = some o) (hl : H l = some (.lst xs)) : LT P H' := lt_but2 h (fun x o e n _ => k x o e n) hl hl
theorem lt_put {P l : Addr} {H : Hp} {xs ys : List V} (h : LT P H) (hl : H l = some (.lst xs)) : LT P (upd H l (.lst ys)) := h.write hl (fun _ z => nomatch z) (fun _ z => nomatch z)
theorem tab_map {n : Nat} {tb : List Bool} (hl : tb.length = 2 ^ n) : tb = (up (2 ^ n)).map (at_ tb) := by
  refine List.ext_getElem? fun i => ?_
  rw [List.getElem?_map]
  by_cases hi : i < 2 ^ n
  · rw [up_get hi, List.getElem?_eq_getElem (by omega)]
    unfold at_
    rw [Option.map_some, Int.toNat_natCast, List.getD_eq_getElem?_getD, List.getElem?_eq_getElem (by omega)]
    rfl
  · rw [List.getElem?_eq_none (by omega), List.getElem?_eq_none (by rw [up_length]; omega)]
    rfl
theorem made_nil {n : Nat} {tb : List Bool} {q : Int} (n1 : 1 ≤ n) : madeB n tb [] q = false := by
  unfold madeB
  rw [decide_eq_false (by show ¬ (0 = n); omega)]
  rfl
theorem traded_nil {n : Nat} {tb : List Bool} : tradedB n tb [] [] = false := by
  unfold tradedB
  simp
def sp_lawT (K : PySem.W.Frag) (P : Addr) : Sp := fun vs H Q _ => ∃ (a : Addr) (ns : List Int), vs = [.ref a] ∧ SqL K H a (ns.map V.int) ∧ ns.length ≤ 63 ∧ LT P H ∧ ∀ H', Q (.bl true) H'
theorem ok_law {P : Program} {w : World} {K : PySem.W.Frag} {mg : Str → Option Value} {base : Heap} {a : Adr} (T : Txt K mg a) (B : LamB mg base a.c_lam a.p_lam) : FnOk P w K mg base CX0 11 a.a_law a.d_law ["_law_script"] (sp_lawT K a.p_lam) := by
  refine T.F_law.ok sc_law (fun vs H Q E h => ?_) (fun cdv A outer s H vs Q E hr h => ?_)
  · obtain ⟨a, ns, rfl, _⟩ := h; rfl
  obtain ⟨sc, ns, rfl, hS0, hz0, hL0, kend⟩ := h
  have hS : ScrOk K H sc := ⟨ns, hS0, hz0⟩
  refine ⟨_, (pss_cons (ps_set (i := 1) sc_law.nd rfl (by first | exact Or.inl rfl | exact Or.inr rfl) (pe_call (ok_law_told T) (hr.mono (by decide)) rfl T.m_law_told T.F_law_told.kp (b_law_told T) .nil pass0 (pa_cons (pv 0) (pa_cons pe_int pa_nil))))
      (pss_cons (ps_join (ps_if (pt_cmpR op_eq (pe_op op_mod (pe_call (ok_law_cell_at T) (hr.mono (by decide)) rfl T.m_law_cell_at T.F_law_cell_at.kp (b_law_cell_at T) .nil pass0 (pa_cons (pv 0) (pa_cons pe_int pa_nil))) pe_int) pe_int (nomark _)) (pss_one (ps_set (i := 1) sc_law.nd rfl (by first | exact Or.inl rfl | exact Or.inr rfl) (pe_ix (ix_listK K) (pe_lst (pa_cons (pe_tup (pa_cons pe_int (pa_cons (pe_lst (pa_cons pe_int (pa_cons pe_int pa_nil))) pa_nil))) (pa_cons (pe_tup (pa_cons pe_int (pa_cons (pe_lst (pa_cons pe_int (pa_cons pe_int pa_nil))) pa_nil))) (pa_cons (pe_tup (pa_cons pe_int (pa_cons (pe_lst (pa_cons pe_int (pa_cons pe_int pa_nil))) pa_nil))) (pa_cons (pe_tup (pa_cons pe_int (pa_cons (pe_lst (pa_cons pe_int (pa_cons pe_int (pa_cons pe_int pa_nil)))) pa_nil))) pa_nil))))) (pe_op op_mod (pe_op op_fdiv (pe_call (ok_law_cell_at T) (hr.mono (by decide)) rfl T.m_law_cell_at T.F_law_cell_at.kp (b_law_cell_at T) .nil pass0 (pa_cons (pv 0) (pa_cons pe_int pa_nil))) pe_int) pe_int) (fun _ _ => rfl)))) pss_nil))
      (pss_cons (ps_set (i := 2) sc_law.nd rfl (by first | exact Or.inl rfl | exact Or.inr rfl) (pe_call (ok_law_built T) (hr.mono (by decide)) rfl T.m_law_built T.F_law_built.kp (b_law_built T) .nil pass0 (pa_cons (pv 1) (pa_cons (pe_call (ok_law_cell_at T) (hr.mono (by decide)) rfl T.m_law_cell_at T.F_law_cell_at.kp (b_law_cell_at T) .nil pass0 (pa_cons (pv 0) (pa_cons pe_int pa_nil))) pa_nil))))
      (pss_cons (ps_set (i := 3) sc_law.nd rfl (by first | exact Or.inl rfl | exact Or.inr rfl) (pe_call (ok_law_table T) (hr.mono (by decide)) rfl T.m_law_table T.F_law_table.kp (b_law_table T) .nil pass0 (pa_cons (pv 1) pa_nil)))
      (pss_cons (ps_set (i := 4) sc_law.nd rfl (by first | exact Or.inl rfl | exact Or.inr rfl) (pe_call (ok_law_told T) (hr.mono (by decide)) rfl T.m_law_told T.F_law_told.kp (b_law_told T) .nil pass0 (pa_cons (pv 0) (pa_cons pe_int pa_nil))))
      (pss_cons (ps_for PassesOwn.never rfl (pi_range1 rfl T.z_range (pa_cons pe_int pa_nil)) (pg_name (i := 5) sc_law.nd rfl (by first | exact Or.inl rfl | exact Or.inr rfl)) (pss_cons (ps_set (i := 6) sc_law.nd rfl (by first | exact Or.inl rfl | exact Or.inr rfl) (pe_call (ok_telling T B) hr rfl T.m_telling T.F_telling.kp (b_telling T) .nil pass0 (pa_cons (pv 2) pa_nil)))
      (pss_cons (ps_if (PW.pt (pw_or (pt_not (pt_val (pe_call (ok_law_right T) (hr.mono (by decide)) rfl T.m_law_right T.F_law_right.kp (b_law_right T) .nil pass0 (pa_cons (pv 3) (pa_cons (pe_ix (ix_tupK K) (pv 1) pe_int (fun _ _ => rfl)) (pa_cons (pv 6) pa_nil)))))) (pw_or1 (pt_cmpR op_isnotB (pe_two (pe_meth (pv 6) T.cl_Weights T.mt_Weights_holds (ok_Weights_holds T) (hr.mono (by decide)) (b_Weights_holds T) .nil pass0 (pa_cons (pv 2) pa_nil)) (pe_meth (pv 6) T.cl_Trade T.mt_Trade_holds (ok_Trade_holds T) (hr.mono (by decide)) (b_Trade_holds T) .nil pass0 (pa_cons (pv 2) pa_nil))) pe_bl (nomark _))))) (pss_one (ps_ret pe_bl)) pss_nil)
      (pss_cons (ps_join (ps_if (PW.pt (pw_or (pt_val (pe_callB (call_isO K) rfl T.z_isinstance PyProof.Rows.boot_isinstance (pa_cons (pv 6) (pa_cons (pe_glob (v := .ref a.C_Weights) rfl T.m_Weights rfl) pa_nil)))) (pw_or1 (pt_cmpR op_eq (pe_ix (ix_tupK K) (pv 4) pe_int (fun _ _ => rfl)) (pe_ix (ix_tupK K) (pv 1) pe_int (fun _ _ => rfl)) (nomark _))))) (pss_one (ps_if (pt_not (pt_val (pe_call (ok_law_says T) (hr.mono (by decide)) rfl T.m_law_says T.F_law_says.kp (b_law_says T) .nil pass0 (pa_cons (pv 6) (pa_cons (pe_make T.mk_Council (ok_Council_init T) (hr.mono (by decide)) rfl T.m_Council (b_Council_init T) .nil pass0 (pa_cons (pe_ix (ix_tupK K) (pv 4) pe_int (fun _ _ => rfl)) (pa_cons (pe_ix (ix_tupK K) (pv 4) pe_int (fun _ _ => rfl)) pa_nil))) (pa_cons (pe_call (ok_law_due T) (hr.mono (by decide)) rfl T.m_law_due T.F_law_due.kp (b_law_due T) .nil pass0 (pa_cons (pv 4) (pa_cons (pv 6) pa_nil))) pa_nil)))))) (pss_one (ps_ret pe_bl)) pss_nil)) pss_nil))
      (pss_cons (ps_if (pt_val (pe_callB (call_isO K) rfl T.z_isinstance PyProof.Rows.boot_isinstance (pa_cons (pv 6) (pa_cons (pe_glob (v := .ref a.C_Weights) rfl T.m_Weights rfl) pa_nil)))) (pss_cons (ps_set (i := 7) sc_law.nd rfl (by first | exact Or.inl rfl | exact Or.inr rfl) (pe_call (ok_telling T B) hr rfl T.m_telling T.F_telling.kp (b_telling T) .nil pass0 (pa_cons (pe_call (ok_weighted T) (hr.mono (by decide)) rfl T.m_weighted T.F_weighted.kp (b_weighted T) .nil pass0 (pa_cons (pe_fldK K (pv 6) rfl) (pa_cons (pe_fldK K (pv 6) rfl) pa_nil))) pa_nil)))
      (pss_one (ps_if (pt_not (pt_val (pe_call (ok_law_right T) (hr.mono (by decide)) rfl T.m_law_right T.F_law_right.kp (b_law_right T) .nil pass0 (pa_cons (pv 3) (pa_cons (pe_ix (ix_tupK K) (pv 1) pe_int (fun _ _ => rfl)) (pa_cons (pv 7) pa_nil)))))) (pss_one (ps_ret pe_bl)) pss_nil))) pss_nil)
      (pss_cons (ps_if (pt_not (pt_val (pe_call (ok_law_by_hand T) (hr.mono (by decide)) rfl T.m_law_by_hand T.F_law_by_hand.kp (b_law_by_hand T) .nil pass0 (pa_cons (pv 2) (pa_cons (pv 3) (pa_cons (pv 6) (pa_cons (pe_call (ok_law_bent T) (hr.mono (by decide)) rfl T.m_law_bent T.F_law_bent.kp (b_law_bent T) .nil pass0 (pa_cons (pv 6) (pa_cons (pe_call (ok_law_cell_at T) (hr.mono (by decide)) rfl T.m_law_cell_at T.F_law_cell_at.kp (b_law_cell_at T) .nil pass0 (pa_cons (pv 0) (pa_cons pe_int pa_nil))) (pa_cons (pe_ix (ix_tupK K) (pv 1) pe_int (fun _ _ => rfl)) pa_nil)))) pa_nil))))))) (pss_one (ps_ret pe_bl)) pss_nil)
      (pss_cons (ps_if (pt_val (pe_callB (call_isO K) rfl T.z_isinstance PyProof.Rows.boot_isinstance (pa_cons (pv 6) (pa_cons (pe_glob (v := .ref a.C_Weights) rfl T.m_Weights rfl) pa_nil)))) (pss_one (ps_expr (pe_bm0 PySem.F.plainAttrs_list PySem.F.slot_list_clear PySem.F.type_list_clear mt_clear (pe_fldK K (pv 6) rfl)))) (pss_cons (ps_expr (pe_bm0 PySem.F.plainAttrs_list PySem.F.slot_list_clear PySem.F.type_list_clear mt_clear (pe_fldK K (pv 6) rfl)))
      (pss_one (ps_expr (pe_bm0 PySem.F.plainAttrs_list PySem.F.slot_list_clear PySem.F.type_list_clear mt_clear (pe_fldK K (pv 6) rfl))))))
      (pss_one (ps_if (pt_cmpR op_isnotB (pe_two (pe_meth (pv 6) T.cl_Weights T.mt_Weights_holds (ok_Weights_holds T) (hr.mono (by decide)) (b_Weights_holds T) .nil pass0 (pa_cons (pv 2) pa_nil)) (pe_meth (pv 6) T.cl_Trade T.mt_Trade_holds (ok_Trade_holds T) (hr.mono (by decide)) (b_Trade_holds T) .nil pass0 (pa_cons (pv 2) pa_nil))) pe_bl (nomark _)) (pss_one (ps_ret pe_bl)) pss_nil)))))))))
      (pss_one (ps_ret pe_bl)))))))), ?_⟩
  have e4 : (0 : Int) < 4 := by decide
  have two : 2 ≤ sizeLine := by decide
  refine ⟨_, rfl, sc, 0, rfl, hS, Int.le_refl 0, fun t n l gs H1 nt nl h1 hT => ?_⟩
  refine ⟨fun σ' H' => ∃ (t : Addr) (n : Nat) (l : Addr) (gs : List Int), σ' = [some (.ref sc), some (.ref t), none, none, none, none, none, none] ∧ Same H H' ∧ ToldAt H' t n l gs, ?_, ?_⟩
  · refine ⟨_, rfl, sc, 5, rfl, hS.same h1, by decide, fun c H2 h2 => ?_⟩
    refine ⟨_, _, rfl, rfl, e4, rfl, _, rfl, ?_⟩
    have h02 := h1.trans h2
    refine ite_b (fun _ => ?_) (fun _ => ⟨t, n, l, gs, rfl, h02, hT.same h2⟩)
    refine ⟨two, fun l1 n1 => ⟨two, fun t1 m1 => ?_⟩⟩
    have s1 : Same H2 (upd (upd H2 l1 (.lst [.int 3, .int 12])) t1 (.tup [.int 4, .ref l1])) := (same_new n1 _).trans (same_new m1 _)
    have a1 : upd (upd H2 l1 (.lst [.int 3, .int 12])) t1 (.tup [.int 4, .ref l1]) t1 = some (.tup [.int 4, .ref l1]) := upd_same
    have b1 : upd (upd H2 l1 (.lst [.int 3, .int 12])) t1 (.tup [.int 4, .ref l1]) l1 = some (.lst [.int 3, .int 12]) := same_new m1 _ _ _ upd_same
    generalize upd (upd H2 l1 (.lst [.int 3, .int 12])) t1 (.tup [.int 4, .ref l1]) = H3 at s1 a1 b1
    refine ⟨two, fun l2 n2 => ⟨two, fun t2 m2 => ?_⟩⟩
    have s2 : Same H3 (upd (upd H3 l2 (.lst [.int 3, .int 12])) t2 (.tup [.int 5, .ref l2])) := (same_new n2 _).trans (same_new m2 _)
    have a2 : upd (upd H3 l2 (.lst [.int 3, .int 12])) t2 (.tup [.int 5, .ref l2]) t2 = some (.tup [.int 5, .ref l2]) := upd_same
    have b2 : upd (upd H3 l2 (.lst [.int 3, .int 12])) t2 (.tup [.int 5, .ref l2]) l2 = some (.lst [.int 3, .int 12]) := same_new m2 _ _ _ upd_same
    generalize upd (upd H3 l2 (.lst [.int 3, .int 12])) t2 (.tup [.int 5, .ref l2]) = H4 at s2 a2 b2
    refine ⟨two, fun l3 n3 => ⟨two, fun t3 m3 => ?_⟩⟩
    have s3 : Same H4 (upd (upd H4 l3 (.lst [.int 3, .int 28])) t3 (.tup [.int 5, .ref l3])) := (same_new n3 _).trans (same_new m3 _)
    have a3 : upd (upd H4 l3 (.lst [.int 3, .int 28])) t3 (.tup [.int 5, .ref l3]) t3 = some (.tup [.int 5, .ref l3]) := upd_same
    have b3 : upd (upd H4 l3 (.lst [.int 3, .int 28])) t3 (.tup [.int 5, .ref l3]) l3 = some (.lst [.int 3, .int 28]) := same_new m3 _ _ _ upd_same
    generalize upd (upd H4 l3 (.lst [.int 3, .int 28])) t3 (.tup [.int 5, .ref l3]) = H5 at s3 a3 b3
    refine ⟨(by show 3 ≤ sizeLine; decide), fun l4 n4 => ⟨two, fun t4 m4 => ?_⟩⟩
    have s4 : Same H5 (upd (upd H5 l4 (.lst [.int 7, .int 24, .int 10])) t4 (.tup [.int 5, .ref l4])) := (same_new n4 _).trans (same_new m4 _)
    have a4 : upd (upd H5 l4 (.lst [.int 7, .int 24, .int 10])) t4 (.tup [.int 5, .ref l4]) t4 = some (.tup [.int 5, .ref l4]) := upd_same
    have b4 : upd (upd H5 l4 (.lst [.int 7, .int 24, .int 10])) t4 (.tup [.int 5, .ref l4]) l4 = some (.lst [.int 7, .int 24, .int 10]) := same_new m4 _ _ _ upd_same
    generalize upd (upd H5 l4 (.lst [.int 7, .int 24, .int 10])) t4 (.tup [.int 5, .ref l4]) = H6 at s4 a4 b4
    refine ⟨(by show 4 ≤ sizeLine; decide), fun w nw => ?_⟩
    have s5 : Same H6 (upd H6 w (.lst [.ref t1, .ref t2, .ref t3, .ref t4])) := same_new nw _
    have hw : upd H6 w (.lst [.ref t1, .ref t2, .ref t3, .ref t4]) w = some (.lst [.ref t1, .ref t2, .ref t3, .ref t4]) := upd_same
    generalize upd H6 w (.lst [.ref t1, .ref t2, .ref t3, .ref t4]) = H7 at s5 hw
    have s25 : Same H2 H7 := s1.trans (s2.trans (s3.trans (s4.trans s5)))
    refine ⟨_, rfl, sc, 5, rfl, hS.same (h02.trans s25), by decide, fun c2 H8 h8 => ?_⟩
    obtain ⟨v, hv, hvs⟩ := atI_four (a := .ref t1) (b := .ref t2) (c := .ref t3) (d := .ref t4) c2
    refine ⟨_, _, rfl, rfl, ⟨by decide, by decide⟩, _, _, rfl, rfl, e4, w, _, _, v, rfl, rfl, SqL.of (h8 _ _ hw), hv, ?_⟩
    have s28 := s25.trans h8
    rcases hvs with rfl | rfl | rfl | rfl
    · have z := s2.trans (s3.trans (s4.trans (s5.trans h8)))
      exact ⟨t1, 4, l1, [3, 12], rfl, h02.trans s28, told4 (z _ _ a1) (z _ _ b1) (by decide) (by decide) (by decide) (by decide +kernel)⟩
    · have z := s3.trans (s4.trans (s5.trans h8))
      exact ⟨t2, 5, l2, [3, 12], rfl, h02.trans s28, told4 (z _ _ a2) (z _ _ b2) (by decide) (by decide) (by decide) (by decide +kernel)⟩
    · have z := s4.trans (s5.trans h8)
      exact ⟨t3, 5, l3, [3, 28], rfl, h02.trans s28, told4 (z _ _ a3) (z _ _ b3) (by decide) (by decide) (by decide) (by decide +kernel)⟩
    · have z := s5.trans h8
      exact ⟨t4, 5, l4, [7, 24, 10], rfl, h02.trans s28, told4 (z _ _ a4) (z _ _ b4) (by decide) (by decide) (by decide) (by decide +kernel)⟩
  clear hT nt nl h1
  rintro σ' H1 ⟨t, n, l, gs, rfl, h1, hT⟩
  refine ⟨_, rfl, _, rfl, sc, 6, rfl, hS.same h1, by decide, fun c6 H2 h2 => ?_⟩
  refine ⟨t, n, l, gs, c6, rfl, hT.same h2, fun c H3 nc h3 cc3 => ?_⟩
  refine ⟨_, rfl, t, n, l, gs, rfl, (hT.same h2).same h3, fun f H4 nf h4 hf4 => ?_⟩
  have s04 := h1.trans (h2.trans (h3.trans h4))
  refine ⟨_, rfl, sc, 2, rfl, hS.same s04, by decide, fun oth no lo go H5 _ _ h5 hO5 => ?_⟩
  have s05 := s04.trans h5
  have hT5 := ((hT.same h2).same (h3.trans h4)).same h5
  have cc5 := cc3.same (h4.trans h5)
  have hf5 := h5 _ _ hf4
  have hS5 : ScrOk K H5 sc := hS.same s05
  have hL5 : LT a.p_lam H5 := hL0.same s05
  obtain ⟨_, _, n1, n5, _, hb⟩ := id hT5
  have htl : (tabOf n gs).length = 2 ^ n := tabOf_length n gs
  have hM : Mono n (tabOf n gs) := mono_tab n5 fun g hg => mem_up.mpr (hb g hg)
  clear hT cc3 hf4 h1 h2 h3 h4 h5 nc nf hb
  generalize tabOf n gs = tb at hf5 cc5 htl hM
  have p2 := two_le n5
  refine ⟨2, rfl, by decide, by decide, ?_⟩
  refine for_range (n := 2) (fun i σ' H' => ∃ x y z : Option V, σ' = [some (.ref sc), some (.ref t), some (.ref c), some (.ref f), some (.ref oth), x, y, z] ∧ SameT H5 H' ∧ LT a.p_lam H') ?_ ?_ ?_
  · exact ⟨none, none, none, rfl, (Same.refl _).t, hL5⟩
  · rintro i σ' H' hi ⟨x, y, z, rfl, hs, hL⟩
    refine ⟨_, rfl, c, n, tb, rfl, cc5.t hs, hM, hL, fun r H6 nr s6 hL6 hG => ?_⟩
    have hs6 := hs.trans s6
    have cc6 := cc5.t hs6
    have hT6 := hT5.t hs6
    have hf6 := hs6.get hf5 (fun _ z => nomatch z)
    have at0 : SqT K H6 t [.int (n : Int), .ref l] := SqT.of hT6.1
    have hR : RightAns a.C_Weights a.C_Trade H6 r n tb := hG.elim (fun ⟨l, ws, q, _, hW, g⟩ => .inl ⟨l, ws, q, hW, g⟩) fun ⟨l, m, cs, fs, _, _, _, hD, g⟩ => .inr ⟨l, m, cs, fs, hD, g⟩
    refine ⟨_, rfl, _, rfl, t, _, _, _, rfl, rfl, at0, atI_nat (j := 0) rfl, _, rfl, f, n, tb, r, rfl, hf6, htl, n1, n5, hR, fun H7 s7 => ⟨_, rfl, iteF ?_⟩⟩
    have hs7 := hs6.trans s7.t
    have cc7 := cc6.same s7
    have hL7 := hL6.same s7
    rcases hG with ⟨wl, ws, q, nwl, hW, g⟩ | ⟨wl, wm, cs, fs, nwl, nwm, nlm, hD, g⟩
    · have hW7 := hW.same s7
      obtain ⟨⟨dx, w1⟩, w2⟩ := id hW7
      obtain ⟨g1, gb, gq0, gq1, gm⟩ := id g
      refine .inl ⟨_, rfl, r, dx, _, rfl, w1, wflds_no _ _ (by decide +kernel) (by decide +kernel), _, rfl, r, wl, c, ws, q, n, tb, rfl, hW7, by omega, cc7, fun H8 s8 => ?_⟩
      refine ⟨_, _, rfl, rfl, _, rfl, ite_f (by rw [made_good g]; rfl) ?_⟩
      have hs8 := hs7.trans s8.t
      have hW8 := hW7.same s8
      have hO8 := hO5.t hs8
      obtain ⟨o1, o2, on1, on5, ol, ob⟩ := id hO8
      have ty : ∀ {Hx : Hp}, Same H8 Hx → TyOf K Hx (.ref r) (.ref a.C_Weights) := fun sx => T.ty_Weights (sx _ _ (s8 _ _ w1))
      -- the word of another council
      refine ⟨fun σ' Hx => σ' = [some (.ref sc), some (.ref t), some (.ref c), some (.ref f), some (.ref oth), some (.int (0 + (i : Int))), some (.ref r), z] ∧ Same H8 Hx, ?_, ?_⟩
      · refine ⟨_, rfl, _, _, _, true, rfl, ty (Same.refl _), T.ki_Weights_Weights, true, rfl, iteT ?_⟩
        refine ⟨_, rfl, _, rfl, oth, _, _, _, rfl, rfl, SqT.of o1, atI_nat (j := 0) rfl, _, rfl, oth, _, _, _, rfl, rfl, SqT.of o1, atI_nat (j := 1) rfl, fun x dx2 nx ndx nex => ?_⟩
        have s9 : Same H8 (upd (upd H8 dx2 (.own x)) x (.ins a.C_Council dx2 [])) := (same_new ndx _).trans (same_new (by rw [upd_ne (Ne.symm nex)]; exact nx) _)
        refine ⟨x, dx2, no, lo, go, rfl, upd_same, on1, on5, s9 _ _ o2, ⟨by omega, ob⟩, fun H10 c10 kp => ⟨rfl, ?_⟩⟩
        have s10 : Same H8 H10 := fun y o hy => kp y o (s9 _ _ hy) (ne_of_none hy nx)
        refine ⟨_, rfl, _, rfl, oth, no, lo, go, r, rfl, hO8.same s10, .inl ⟨wl, ws, q, hW8.same s10, by omega, fun H11 s11 => ?_⟩⟩
        have s811 := s10.trans s11
        refine .inl ⟨r, wl, x, ws, q, no, _, _, rfl, hW8.same s811, by omega, c10.same s11, fun H12 s12 => ⟨_, rfl, ite_f (by rw [beq_self_eq_true]; rfl) ⟨rfl, s811.trans s12⟩⟩⟩
      rintro σ' H9 ⟨rfl, s9⟩
      have hs9 := hs8.trans s9.t
      have hW9 := hW8.same s9
      have hL9 := (hL7.same s8).same s9
      obtain ⟨⟨dx9, x1⟩, x2⟩ := id hW9
      -- the council that these weights make
      refine ⟨_, rfl, _, _, _, true, rfl, ty s9, T.ki_Weights_Weights, true, rfl, iteT ?_⟩
      refine ⟨_, rfl, r, a.C_Weights, dx9, _, _, rfl, x1, T.cl_Weights, T.n_Weights_weights, wflds_w _ _, _, rfl, r, a.C_Weights, dx9, _, _, rfl, x1, T.cl_Weights, T.n_Weights_quota, wflds_q _ _, wl, ws, q, rfl, x2, ⟨by omega, by omega, fun w hw => ⟨(gb w hw).1, by have := (gb w hw).2; omega⟩⟩, gq0, by omega, fun p H10 np s10 c10 => ?_⟩
      rw [g1] at c10
      have etb : ((up (2 ^ n)).map fun g => decide (q ≤ wtOf ws g)) = tb := by
        conv => rhs; rw [tab_map htl]
        exact List.map_congr_left fun g hg => (gm g hg).symm
      rw [etb] at c10
      refine ⟨p, n, tb, rfl, c10, hM, hL9.same s10, fun r2 H11 nr2 s11 hL11 hG2 => ?_⟩
      have hR2 : RightAns a.C_Weights a.C_Trade H11 r2 n tb := hG2.elim (fun ⟨l, ws, q, _, hW, g⟩ => .inl ⟨l, ws, q, hW, g⟩) fun ⟨l, m, cs, fs, _, _, _, hD, g⟩ => .inr ⟨l, m, cs, fs, hD, g⟩
      have s911 := s10.t.trans s11
      have hs11 := hs9.trans s911
      have hW11 := hW9.t s911
      refine ⟨_, rfl, _, rfl, t, _, _, _, rfl, rfl, SqT.of (hT5.t hs11).1, atI_nat (j := 0) rfl, _, rfl, f, n, tb, r2, rfl, hs11.get hf5 (fun _ z => nomatch z), htl, n1, n5, hR2, fun H12 s12 => ⟨_, rfl, iteF ?_⟩⟩
      have hs12 := hs11.trans s12.t
      have hW12 := hW11.same s12
      have hL12 := hL11.same s12
      -- by hand
      refine ⟨_, rfl, _, rfl, _, rfl, _, rfl, _, rfl, sc, 4, rfl, hS5.t hs12, by decide, fun c4 H13 s13 => ?_⟩
      have hs13 := hs12.trans s13.t
      have hW13 := hW12.same s13
      refine ⟨_, rfl, t, _, _, _, rfl, rfl, SqT.of (hT5.t hs13).1, atI_nat (j := 0) rfl, r, c4, n, rfl, n1, n5, .inl ⟨wl, ws, q, hW13, g1, fun bt l2 ws2 q2 H14 nbt nl2 s14 hbt hl2 z2 => ?_⟩⟩
      have hs14 := hs13.trans s14.t
      have hW14 := hW13.same s14
      have hf13 := hs13.get hf5 (fun _ z => nomatch z)
      have hf14 := s14 _ _ hf13
      have nl2f : l2 ≠ f := fun z => by rw [z, hf13] at nl2; cases nl2
      have nl2w : wl ≠ l2 := fun z => by rw [← z, hW13.2] at nl2; cases nl2
      refine ⟨c, f, r, bt, n, tb, rfl, cc5.t hs14, hf14, .inl ⟨wl, l2, ws, ws2, q, q2, hW14, hbt, hl2, z2, nl2f, fun H15 keep => ⟨_, rfl, iteF ?_⟩⟩⟩
      have nl20 : H5 l2 = none := hs13.free nl2
      have hs15 := sameT_but hs14 keep nl20
      have hL15 := lt_but ((hL12.same s13).same s14) keep hl2
      obtain ⟨⟨dx14, y1⟩, y2⟩ := id hW14
      have y1' := keep _ _ y1 (ne_of y1 hl2 (by intro z; cases z))
      have y2' := keep _ _ y2 nl2w
      -- emptied
      refine ⟨_, rfl, _, _, _, true, rfl, T.ty_Weights y1', T.ki_Weights_Weights, true, rfl, iteT ?_⟩
      refine ⟨_, rfl, r, a.C_Weights, dx14, _, _, rfl, y1', T.cl_Weights, T.n_Weights_weights, wflds_w _ _, .inl ⟨rfl, _, SqL.of y2'⟩, wl, _, rfl, rfl, y2', ?_⟩
      have nwl0 : H5 wl = none := hs.free nwl
      have hs16 := sameT_own (o := .lst []) hs15 nwl0
      have hL16 : LT a.p_lam (upd H15 wl (.lst [])) := lt_put hL15 y2'
      have hW16 : WAt a.C_Weights (upd H15 wl (.lst [])) r wl [] q := ⟨⟨dx14, by rw [upd_ne (ne_of y1' y2' (by intro z; cases z))]; exact y1'⟩, upd_same⟩
      generalize upd H15 wl (.lst []) = H16 at hs16 hL16 hW16
      obtain ⟨⟨dx16, z1⟩, z2'⟩ := id hW16
      refine .inl ⟨_, rfl, r, dx16, _, rfl, z1, wflds_no _ _ (by decide +kernel) (by decide +kernel), _, rfl, r, wl, c, [], q, n, tb, rfl, hW16, (by show 0 ≤ 1000; decide), cc5.t hs16, fun H17 s17 => ?_⟩
      exact ⟨_, _, rfl, rfl, _, rfl, ite_f (by rw [made_nil n1]; rfl) ⟨_, _, _, rfl, hs16.trans s17.t, hL16.same s17⟩⟩
    · have hD7 := hD.same s7
      obtain ⟨⟨dx, w1⟩, w2, w3⟩ := id hD7
      obtain ⟨c2, f2, gc, gf, gm⟩ := id g
      have gcu : ∀ x ∈ cs, x ∈ up (2 ^ n) := fun x hx => (gc x hx).1
      have gfu : ∀ x ∈ fs, x ∈ up (2 ^ n) := fun x hx => (gf x hx).1
      refine .inr ⟨_, rfl, r, dx, _, rfl, w1, tflds_no _ _ (by decide +kernel) (by decide +kernel), _, rfl, r, wl, wm, c, cs, fs, n, tb, rfl, hD7, by omega, by omega, gcu, gfu, cc7, fun H8 s8 => ?_⟩
      refine ⟨_, _, rfl, rfl, _, rfl, ite_f (by rw [traded_good g]; rfl) ?_⟩
      have hs8 := hs7.trans s8.t
      have hD8 := hD7.same s8
      have hO8 := hO5.t hs8
      have hT8 := hT5.t hs8
      obtain ⟨o1, o2, on1, on5, ol, ob⟩ := id hO8
      have ty : ∀ {Hx : Hp}, Same H8 Hx → TyOf K Hx (.ref r) (.ref a.C_Trade) := fun sx => T.ty_Trade (sx _ _ (s8 _ _ w1))
      -- the word of another council
      refine ⟨fun σ' Hx => σ' = [some (.ref sc), some (.ref t), some (.ref c), some (.ref f), some (.ref oth), some (.int (0 + (i : Int))), some (.ref r), z] ∧ Same H8 Hx, ?_, ?_⟩
      · refine ⟨_, rfl, _, _, _, false, rfl, ty (Same.refl _), T.ki_Trade_Weights, false, rfl, iteF ?_⟩
        refine ⟨_, rfl, oth, _, _, _, rfl, rfl, SqT.of o1, atI_nat (j := 0) rfl, _, rfl, t, _, _, _, rfl, rfl, SqT.of hT8.1, atI_nat (j := 0) rfl, rfl, _, rfl, ?_⟩
        rw [dec_int]
        refine ite_b (fun he => ?_) (fun _ => ⟨rfl, Same.refl _⟩)
        have en : no = n := by
          have : (no : Int) = (n : Int) := by simpa using he
          omega
        subst en
        refine ⟨_, rfl, _, rfl, oth, _, _, _, rfl, rfl, SqT.of o1, atI_nat (j := 0) rfl, _, rfl, oth, _, _, _, rfl, rfl, SqT.of o1, atI_nat (j := 1) rfl, fun x dx2 nx ndx nex => ?_⟩
        have s9 : Same H8 (upd (upd H8 dx2 (.own x)) x (.ins a.C_Council dx2 [])) := (same_new ndx _).trans (same_new (by rw [upd_ne (Ne.symm nex)]; exact nx) _)
        refine ⟨x, dx2, no, lo, go, rfl, upd_same, on1, on5, s9 _ _ o2, ⟨by omega, ob⟩, fun H10 c10 kp => ⟨rfl, ?_⟩⟩
        have s10 : Same H8 H10 := fun y o hy => kp y o (s9 _ _ hy) (ne_of_none hy nx)
        refine ⟨_, rfl, _, rfl, oth, no, lo, go, r, rfl, hO8.same s10, .inr ⟨wl, wm, cs, fs, hD8.same s10, by omega, by omega, gcu, gfu, fun H11 s11 => ?_⟩⟩
        have s811 := s10.trans s11
        refine .inr ⟨r, wl, wm, x, cs, fs, no, _, _, rfl, hD8.same s811, by omega, by omega, gcu, gfu, c10.same s11, fun H12 s12 => ⟨_, rfl, ite_f (by rw [beq_self_eq_true]; rfl) ⟨rfl, s811.trans s12⟩⟩⟩
      rintro σ' H9 ⟨rfl, s9⟩
      have hs9 := hs8.trans s9.t
      have hD9 := hD8.same s9
      have hL9 := (hL7.same s8).same s9
      refine ⟨_, rfl, _, _, _, false, rfl, ty s9, T.ki_Trade_Weights, false, rfl, iteF ?_⟩
      -- by hand
      refine ⟨_, rfl, _, rfl, _, rfl, _, rfl, _, rfl, sc, 4, rfl, hS5.t hs9, by decide, fun c4 H13 s13 => ?_⟩
      have hs13 := hs9.trans s13.t
      have hD13 := hD9.same s13
      refine ⟨_, rfl, t, _, _, _, rfl, rfl, SqT.of (hT5.t hs13).1, atI_nat (j := 0) rfl, r, c4, n, rfl, n1, n5, .inr ⟨wl, wm, cs, fs, hD13, c2, f2, gcu, gfu, fun bt l2 m2 cs2 fs2 H14 nbt B hbt z1 z2 => ?_⟩⟩
      have s14 := B.same
      have hs14 := hs13.trans s14.t
      have hD14 := hD13.same s14
      have hf13 := hs13.get hf5 (fun _ z => nomatch z)
      have hf14 := s14 _ _ hf13
      have nf1 : l2 ≠ f := fun z => by have := B.nl; rw [z, hf13] at this; cases this
      have nf2 : m2 ≠ f := fun z => by have := B.nm; rw [z, hf13] at this; cases this
      have a1 : wl ≠ l2 := fun z => by have := B.nl; rw [← z, hD13.2.1] at this; cases this
      have a2 : wl ≠ m2 := fun z => by have := B.nm; rw [← z, hD13.2.1] at this; cases this
      have a3 : wm ≠ l2 := fun z => by have := B.nl; rw [← z, hD13.2.2] at this; cases this
      have a4 : wm ≠ m2 := fun z => by have := B.nm; rw [← z, hD13.2.2] at this; cases this
      refine ⟨c, f, r, bt, n, tb, rfl, cc5.t hs14, hf14, .inr ⟨wl, wm, l2, m2, cs, fs, cs2, fs2, hD14, hbt, B.hl, B.hm, B.ne, z1, z2, B.gc, B.gf, nf1, nf2, fun H15 keep => ⟨_, rfl, iteF ?_⟩⟩⟩
      have hs15 := sameT_but2 hs14 keep (hs13.free B.nl) (hs13.free B.nm)
      have hL15 := lt_but2 ((hL9.same s13).same s14) keep B.hl B.hm
      obtain ⟨⟨dx14, y1⟩, y2, y3⟩ := id hD14
      have y1' := keep _ _ y1 (ne_of y1 B.hl (by intro z; cases z)) (ne_of y1 B.hm (by intro z; cases z))
      have y2' := keep _ _ y2 a1 a2
      have y3' := keep _ _ y3 a3 a4
      -- emptied
      refine ⟨_, rfl, _, _, _, false, rfl, T.ty_Trade y1', T.ki_Trade_Weights, false, rfl, iteF ?_⟩
      refine ⟨_, rfl, r, a.C_Trade, dx14, _, _, rfl, y1', T.cl_Trade, T.n_Trade_carry, tflds_c _ _, .inl ⟨rfl, _, SqL.of y2'⟩, wl, _, rfl, rfl, y2', ?_⟩
      have hs16 := sameT_own (o := .lst []) hs15 (hs.free nwl)
      have hL16 : LT a.p_lam (upd H15 wl (.lst [])) := lt_put hL15 y2'
      have y1'' : upd H15 wl (.lst []) r = some (.ins a.C_Trade dx14 (tflds wl wm)) := by rw [upd_ne (ne_of y1' y2' (by intro z; cases z))]; exact y1'
      have y2'' : upd H15 wl (.lst []) wl = some (.lst (([] : List Int).map V.int)) := upd_same
      have y3'' : upd H15 wl (.lst []) wm = some (.lst (fs.map V.int)) := by rw [upd_ne (Ne.symm nlm)]; exact y3'
      generalize upd H15 wl (.lst []) = H16 at hs16 hL16 y1'' y2'' y3''
      refine ⟨_, rfl, r, a.C_Trade, dx14, _, _, rfl, y1'', T.cl_Trade, T.n_Trade_fail, tflds_f _ _, .inl ⟨rfl, _, SqL.of y3''⟩, wm, _, rfl, rfl, y3'', ?_⟩
      have hs17 := sameT_own (o := .lst []) hs16 (hs.free nwm)
      have hL17 : LT a.p_lam (upd H16 wm (.lst [])) := lt_put hL16 y3''
      have hD17 : TAt a.C_Trade (upd H16 wm (.lst [])) r wl wm [] [] := ⟨⟨dx14, by rw [upd_ne (ne_of y1'' y3'' (by intro z; cases z))]; exact y1''⟩, by rw [upd_ne nlm]; exact y2'', upd_same⟩
      generalize upd H16 wm (.lst []) = H17 at hs17 hL17 hD17
      obtain ⟨⟨dx17, z1'⟩, z2', z3'⟩ := id hD17
      refine .inr ⟨_, rfl, r, dx17, _, rfl, z1', tflds_no _ _ (by decide +kernel) (by decide +kernel), _, rfl, r, wl, wm, c, [], [], n, tb, rfl, hD17, (by show 0 ≤ 400; decide), (by show 0 ≤ 400; decide), (fun _ h => nomatch h), (fun _ h => nomatch h), cc5.t hs17, fun H18 s18 => ?_⟩
      exact ⟨_, _, rfl, rfl, _, rfl, ite_f (by rw [traded_nil]; rfl) ⟨_, _, _, rfl, hs17.trans s18.t, hL17.same s18⟩⟩
  · rintro σ' H' ⟨x, y, z, rfl, hs, hL⟩
    exact kend _
end Wv

set_option Elab.async false
set_option linter.all false
set_option maxRecDepth 100000
set_option maxHeartbeats 4000000

namespace Wv
open PySem L2
theorem txt_mk {K : PySem.W.Frag} {h : Heap} {mg : Str → Option Value} (X : K.In h) (G : h.Ns mainGlobals mg)
    {C_Council C_Trade C_Weights C_Answer : Addr}
    {c_lam p_lam : Addr} {oc_lam : Value} {od_lam : Option Addr} {vs_lam : Array Value} {sl_lam : Array (Option Value)}
    {f_is_whole f_everybody f_is_group f_groups_of f_has f_members_of f_with_member f_within f_weight_of f_Weights_init f_Weights_holds f_Weights_agrees f_Trade_init f_Trade_holds f_how_often f_telling f_trade_of f_pairs f_outdoes f_weights_of f_by_strength f_strength f_falling_lists f_placed f_Council_init f_Council_carries f_Council_least f_Council_greatest f_Council_is_least f_Council_is_greatest f_refuse_bad_council f_has_one_within f_turned f_weighted f_refuse_bad_weights f_law_cell_at f_law_draw f_law_told f_law_table f_law_has f_law_whole f_law_made f_law_traded f_law_right f_law_bent f_law_says f_law_by_hand f_law_due f_law_built f_law : Addr}
    {od_is_whole an_is_whole od_everybody an_everybody od_is_group an_is_group od_groups_of an_groups_of od_has an_has od_members_of an_members_of od_with_member an_with_member od_within an_within od_weight_of an_weight_of od_Weights_init an_Weights_init od_Weights_holds an_Weights_holds od_Weights_agrees an_Weights_agrees od_Trade_init an_Trade_init od_Trade_holds an_Trade_holds od_how_often an_how_often od_telling an_telling od_trade_of an_trade_of od_pairs an_pairs od_outdoes an_outdoes od_weights_of an_weights_of od_by_strength an_by_strength od_strength an_strength od_falling_lists an_falling_lists od_placed an_placed od_Council_init an_Council_init od_Council_carries an_Council_carries od_Council_least an_Council_least od_Council_greatest an_Council_greatest od_Council_is_least an_Council_is_least od_Council_is_greatest an_Council_is_greatest od_refuse_bad_council an_refuse_bad_council od_has_one_within an_has_one_within od_turned an_turned od_weighted an_weighted od_refuse_bad_weights an_refuse_bad_weights od_law_cell_at an_law_cell_at od_law_draw an_law_draw od_law_told an_law_told od_law_table an_law_table od_law_has an_law_has od_law_whole an_law_whole od_law_made an_law_made od_law_traded an_law_traded od_law_right an_law_right od_law_bent an_law_bent od_law_says an_law_says od_law_by_hand an_law_by_hand od_law_due an_law_due od_law_built an_law_built od_law an_law : Option Addr} {sl_is_whole sl_everybody sl_is_group sl_groups_of sl_has sl_members_of sl_with_member sl_within sl_weight_of sl_Weights_init sl_Weights_holds sl_Weights_agrees sl_Trade_init sl_Trade_holds sl_how_often sl_telling sl_trade_of sl_pairs sl_outdoes sl_weights_of sl_by_strength sl_strength sl_falling_lists sl_placed sl_Council_init sl_Council_carries sl_Council_least sl_Council_greatest sl_Council_is_least sl_Council_is_greatest sl_refuse_bad_council sl_has_one_within sl_turned sl_weighted sl_refuse_bad_weights sl_law_cell_at sl_law_draw sl_law_told sl_law_table sl_law_has sl_law_whole sl_law_made sl_law_traded sl_law_right sl_law_bent sl_law_says sl_law_by_hand sl_law_due sl_law_built sl_law : Array (Option Value)}
    {oc_is_whole kV_is_whole dc_is_whole pm_is_whole cd_is_whole ct_is_whole oc_everybody kV_everybody dc_everybody pm_everybody cd_everybody ct_everybody oc_is_group kV_is_group dc_is_group pm_is_group cd_is_group ct_is_group oc_groups_of kV_groups_of dc_groups_of pm_groups_of cd_groups_of ct_groups_of oc_has kV_has dc_has pm_has cd_has ct_has oc_members_of kV_members_of dc_members_of pm_members_of cd_members_of ct_members_of oc_with_member kV_with_member dc_with_member pm_with_member cd_with_member ct_with_member oc_within kV_within dc_within pm_within cd_within ct_within oc_weight_of kV_weight_of dc_weight_of pm_weight_of cd_weight_of ct_weight_of oc_Weights_init kV_Weights_init dc_Weights_init pm_Weights_init cd_Weights_init ct_Weights_init oc_Weights_holds kV_Weights_holds dc_Weights_holds pm_Weights_holds cd_Weights_holds ct_Weights_holds oc_Weights_agrees kV_Weights_agrees dc_Weights_agrees pm_Weights_agrees cd_Weights_agrees ct_Weights_agrees oc_Trade_init kV_Trade_init dc_Trade_init pm_Trade_init cd_Trade_init ct_Trade_init oc_Trade_holds kV_Trade_holds dc_Trade_holds pm_Trade_holds cd_Trade_holds ct_Trade_holds oc_how_often kV_how_often dc_how_often pm_how_often cd_how_often ct_how_often oc_telling kV_telling dc_telling pm_telling cd_telling ct_telling oc_trade_of kV_trade_of dc_trade_of pm_trade_of cd_trade_of ct_trade_of oc_pairs kV_pairs dc_pairs pm_pairs cd_pairs ct_pairs oc_outdoes kV_outdoes dc_outdoes pm_outdoes cd_outdoes ct_outdoes oc_weights_of kV_weights_of dc_weights_of pm_weights_of cd_weights_of ct_weights_of oc_by_strength kV_by_strength dc_by_strength pm_by_strength cd_by_strength ct_by_strength oc_strength kV_strength dc_strength pm_strength cd_strength ct_strength oc_falling_lists kV_falling_lists dc_falling_lists pm_falling_lists cd_falling_lists ct_falling_lists oc_placed kV_placed dc_placed pm_placed cd_placed ct_placed oc_Council_init kV_Council_init dc_Council_init pm_Council_init cd_Council_init ct_Council_init oc_Council_carries kV_Council_carries dc_Council_carries pm_Council_carries cd_Council_carries ct_Council_carries oc_Council_least kV_Council_least dc_Council_least pm_Council_least cd_Council_least ct_Council_least oc_Council_greatest kV_Council_greatest dc_Council_greatest pm_Council_greatest cd_Council_greatest ct_Council_greatest oc_Council_is_least kV_Council_is_least dc_Council_is_least pm_Council_is_least cd_Council_is_least ct_Council_is_least oc_Council_is_greatest kV_Council_is_greatest dc_Council_is_greatest pm_Council_is_greatest cd_Council_is_greatest ct_Council_is_greatest oc_refuse_bad_council kV_refuse_bad_council dc_refuse_bad_council pm_refuse_bad_council cd_refuse_bad_council ct_refuse_bad_council oc_has_one_within kV_has_one_within dc_has_one_within pm_has_one_within cd_has_one_within ct_has_one_within oc_turned kV_turned dc_turned pm_turned cd_turned ct_turned oc_weighted kV_weighted dc_weighted pm_weighted cd_weighted ct_weighted oc_refuse_bad_weights kV_refuse_bad_weights dc_refuse_bad_weights pm_refuse_bad_weights cd_refuse_bad_weights ct_refuse_bad_weights oc_law_cell_at kV_law_cell_at dc_law_cell_at pm_law_cell_at cd_law_cell_at ct_law_cell_at oc_law_draw kV_law_draw dc_law_draw pm_law_draw cd_law_draw ct_law_draw oc_law_told kV_law_told dc_law_told pm_law_told cd_law_told ct_law_told oc_law_table kV_law_table dc_law_table pm_law_table cd_law_table ct_law_table oc_law_has kV_law_has dc_law_has pm_law_has cd_law_has ct_law_has oc_law_whole kV_law_whole dc_law_whole pm_law_whole cd_law_whole ct_law_whole oc_law_made kV_law_made dc_law_made pm_law_made cd_law_made ct_law_made oc_law_traded kV_law_traded dc_law_traded pm_law_traded cd_law_traded ct_law_traded oc_law_right kV_law_right dc_law_right pm_law_right cd_law_right ct_law_right oc_law_bent kV_law_bent dc_law_bent pm_law_bent cd_law_bent ct_law_bent oc_law_says kV_law_says dc_law_says pm_law_says cd_law_says ct_law_says oc_law_by_hand kV_law_by_hand dc_law_by_hand pm_law_by_hand cd_law_by_hand ct_law_by_hand oc_law_due kV_law_due dc_law_due pm_law_due cd_law_due ct_law_due oc_law_built kV_law_built dc_law_built pm_law_built cd_law_built ct_law_built oc_law kV_law dc_law pm_law cd_law ct_law : Value}
    {t_MOST_MEMBERS t_ENOUGH_WEIGHT t_MOST_WEIGHT t_MOST_QUOTA : Tok}
    (aC_Council : PySem.W.nsIn K mainGlobals "Council" = some (some (.ref C_Council)))
    (aC_Trade : PySem.W.nsIn K mainGlobals "Trade" = some (some (.ref C_Trade)))
    (aC_Weights : PySem.W.nsIn K mainGlobals "Weights" = some (some (.ref C_Weights)))
    (aC_Answer : PySem.W.nsIn K mainGlobals "Answer" = some (some (.ref C_Answer)))
    (a_is_whole : PySem.W.nsIn K mainGlobals "is_whole" = some (some (.ref f_is_whole)))
    (l_is_whole : K.lookup f_is_whole = some ⟨oc_is_whole, od_is_whole, .func (PySem.W.fnOf "is_whole" "is_whole" (defArgs s_is_whole) (defBody s_is_whole) (defScope s_is_whole) .none kV_is_whole dc_is_whole pm_is_whole an_is_whole cd_is_whole ct_is_whole), sl_is_whole⟩)
    (c_is_whole : PySem.W.codeIn K cd_is_whole "is_whole" = true)
    (k_is_whole : PySem.W.keepIn K (.ref f_is_whole) = true)
    (a_everybody : PySem.W.nsIn K mainGlobals "everybody" = some (some (.ref f_everybody)))
    (l_everybody : K.lookup f_everybody = some ⟨oc_everybody, od_everybody, .func (PySem.W.fnOf "everybody" "everybody" (defArgs s_everybody) (defBody s_everybody) (defScope s_everybody) .none kV_everybody dc_everybody pm_everybody an_everybody cd_everybody ct_everybody), sl_everybody⟩)
    (c_everybody : PySem.W.codeIn K cd_everybody "everybody" = true)
    (k_everybody : PySem.W.keepIn K (.ref f_everybody) = true)
    (a_is_group : PySem.W.nsIn K mainGlobals "is_group" = some (some (.ref f_is_group)))
    (l_is_group : K.lookup f_is_group = some ⟨oc_is_group, od_is_group, .func (PySem.W.fnOf "is_group" "is_group" (defArgs s_is_group) (defBody s_is_group) (defScope s_is_group) .none kV_is_group dc_is_group pm_is_group an_is_group cd_is_group ct_is_group), sl_is_group⟩)
    (c_is_group : PySem.W.codeIn K cd_is_group "is_group" = true)
    (k_is_group : PySem.W.keepIn K (.ref f_is_group) = true)
    (a_groups_of : PySem.W.nsIn K mainGlobals "groups_of" = some (some (.ref f_groups_of)))
    (l_groups_of : K.lookup f_groups_of = some ⟨oc_groups_of, od_groups_of, .func (PySem.W.fnOf "groups_of" "groups_of" (defArgs s_groups_of) (defBody s_groups_of) (defScope s_groups_of) .none kV_groups_of dc_groups_of pm_groups_of an_groups_of cd_groups_of ct_groups_of), sl_groups_of⟩)
    (c_groups_of : PySem.W.codeIn K cd_groups_of "groups_of" = true)
    (k_groups_of : PySem.W.keepIn K (.ref f_groups_of) = true)
    (a_has : PySem.W.nsIn K mainGlobals "has" = some (some (.ref f_has)))
    (l_has : K.lookup f_has = some ⟨oc_has, od_has, .func (PySem.W.fnOf "has" "has" (defArgs s_has) (defBody s_has) (defScope s_has) .none kV_has dc_has pm_has an_has cd_has ct_has), sl_has⟩)
    (c_has : PySem.W.codeIn K cd_has "has" = true)
    (k_has : PySem.W.keepIn K (.ref f_has) = true)
    (a_members_of : PySem.W.nsIn K mainGlobals "members_of" = some (some (.ref f_members_of)))
    (l_members_of : K.lookup f_members_of = some ⟨oc_members_of, od_members_of, .func (PySem.W.fnOf "members_of" "members_of" (defArgs s_members_of) (defBody s_members_of) (defScope s_members_of) .none kV_members_of dc_members_of pm_members_of an_members_of cd_members_of ct_members_of), sl_members_of⟩)
    (c_members_of : PySem.W.codeIn K cd_members_of "members_of" = true)
    (k_members_of : PySem.W.keepIn K (.ref f_members_of) = true)
    (a_with_member : PySem.W.nsIn K mainGlobals "with_member" = some (some (.ref f_with_member)))
    (l_with_member : K.lookup f_with_member = some ⟨oc_with_member, od_with_member, .func (PySem.W.fnOf "with_member" "with_member" (defArgs s_with_member) (defBody s_with_member) (defScope s_with_member) .none kV_with_member dc_with_member pm_with_member an_with_member cd_with_member ct_with_member), sl_with_member⟩)
    (c_with_member : PySem.W.codeIn K cd_with_member "with_member" = true)
    (k_with_member : PySem.W.keepIn K (.ref f_with_member) = true)
    (a_within : PySem.W.nsIn K mainGlobals "within" = some (some (.ref f_within)))
    (l_within : K.lookup f_within = some ⟨oc_within, od_within, .func (PySem.W.fnOf "within" "within" (defArgs s_within) (defBody s_within) (defScope s_within) .none kV_within dc_within pm_within an_within cd_within ct_within), sl_within⟩)
    (c_within : PySem.W.codeIn K cd_within "within" = true)
    (k_within : PySem.W.keepIn K (.ref f_within) = true)
    (a_weight_of : PySem.W.nsIn K mainGlobals "weight_of" = some (some (.ref f_weight_of)))
    (l_weight_of : K.lookup f_weight_of = some ⟨oc_weight_of, od_weight_of, .func (PySem.W.fnOf "weight_of" "weight_of" (defArgs s_weight_of) (defBody s_weight_of) (defScope s_weight_of) .none kV_weight_of dc_weight_of pm_weight_of an_weight_of cd_weight_of ct_weight_of), sl_weight_of⟩)
    (c_weight_of : PySem.W.codeIn K cd_weight_of "weight_of" = true)
    (k_weight_of : PySem.W.keepIn K (.ref f_weight_of) = true)
    (a_Weights_init : PySem.W.findIn K (.ref C_Weights) "__init__" = some (some (.ref f_Weights_init)))
    (i_Weights_init : PySem.W.isFn K (.ref f_Weights_init) = true)
    (l_Weights_init : K.lookup f_Weights_init = some ⟨oc_Weights_init, od_Weights_init, .func (PySem.W.fnOf "__init__" "Weights.__init__" (defArgs s_Weights_init) (defBody s_Weights_init) (defScope s_Weights_init) .none kV_Weights_init dc_Weights_init pm_Weights_init an_Weights_init cd_Weights_init ct_Weights_init), sl_Weights_init⟩)
    (c_Weights_init : PySem.W.codeIn K cd_Weights_init "Weights.__init__" = true)
    (k_Weights_init : PySem.W.keepIn K (.ref f_Weights_init) = true)
    (a_Weights_holds : PySem.W.findIn K (.ref C_Weights) "holds" = some (some (.ref f_Weights_holds)))
    (i_Weights_holds : PySem.W.isFn K (.ref f_Weights_holds) = true)
    (l_Weights_holds : K.lookup f_Weights_holds = some ⟨oc_Weights_holds, od_Weights_holds, .func (PySem.W.fnOf "holds" "Weights.holds" (defArgs s_Weights_holds) (defBody s_Weights_holds) (defScope s_Weights_holds) .none kV_Weights_holds dc_Weights_holds pm_Weights_holds an_Weights_holds cd_Weights_holds ct_Weights_holds), sl_Weights_holds⟩)
    (c_Weights_holds : PySem.W.codeIn K cd_Weights_holds "Weights.holds" = true)
    (k_Weights_holds : PySem.W.keepIn K (.ref f_Weights_holds) = true)
    (a_Weights_agrees : PySem.W.findIn K (.ref C_Weights) "agrees" = some (some (.ref f_Weights_agrees)))
    (i_Weights_agrees : PySem.W.isFn K (.ref f_Weights_agrees) = true)
    (l_Weights_agrees : K.lookup f_Weights_agrees = some ⟨oc_Weights_agrees, od_Weights_agrees, .func (PySem.W.fnOf "agrees" "Weights.agrees" (defArgs s_Weights_agrees) (defBody s_Weights_agrees) (defScope s_Weights_agrees) .none kV_Weights_agrees dc_Weights_agrees pm_Weights_agrees an_Weights_agrees cd_Weights_agrees ct_Weights_agrees), sl_Weights_agrees⟩)
    (c_Weights_agrees : PySem.W.codeIn K cd_Weights_agrees "Weights.agrees" = true)
    (k_Weights_agrees : PySem.W.keepIn K (.ref f_Weights_agrees) = true)
    (a_Trade_init : PySem.W.findIn K (.ref C_Trade) "__init__" = some (some (.ref f_Trade_init)))
    (i_Trade_init : PySem.W.isFn K (.ref f_Trade_init) = true)
    (l_Trade_init : K.lookup f_Trade_init = some ⟨oc_Trade_init, od_Trade_init, .func (PySem.W.fnOf "__init__" "Trade.__init__" (defArgs s_Trade_init) (defBody s_Trade_init) (defScope s_Trade_init) .none kV_Trade_init dc_Trade_init pm_Trade_init an_Trade_init cd_Trade_init ct_Trade_init), sl_Trade_init⟩)
    (c_Trade_init : PySem.W.codeIn K cd_Trade_init "Trade.__init__" = true)
    (k_Trade_init : PySem.W.keepIn K (.ref f_Trade_init) = true)
    (a_Trade_holds : PySem.W.findIn K (.ref C_Trade) "holds" = some (some (.ref f_Trade_holds)))
    (i_Trade_holds : PySem.W.isFn K (.ref f_Trade_holds) = true)
    (l_Trade_holds : K.lookup f_Trade_holds = some ⟨oc_Trade_holds, od_Trade_holds, .func (PySem.W.fnOf "holds" "Trade.holds" (defArgs s_Trade_holds) (defBody s_Trade_holds) (defScope s_Trade_holds) .none kV_Trade_holds dc_Trade_holds pm_Trade_holds an_Trade_holds cd_Trade_holds ct_Trade_holds), sl_Trade_holds⟩)
    (c_Trade_holds : PySem.W.codeIn K cd_Trade_holds "Trade.holds" = true)
    (k_Trade_holds : PySem.W.keepIn K (.ref f_Trade_holds) = true)
    (a_how_often : PySem.W.nsIn K mainGlobals "how_often" = some (some (.ref f_how_often)))
    (l_how_often : K.lookup f_how_often = some ⟨oc_how_often, od_how_often, .func (PySem.W.fnOf "how_often" "how_often" (defArgs s_how_often) (defBody s_how_often) (defScope s_how_often) .none kV_how_often dc_how_often pm_how_often an_how_often cd_how_often ct_how_often), sl_how_often⟩)
    (c_how_often : PySem.W.codeIn K cd_how_often "how_often" = true)
    (k_how_often : PySem.W.keepIn K (.ref f_how_often) = true)
    (a_telling : PySem.W.nsIn K mainGlobals "telling" = some (some (.ref f_telling)))
    (l_telling : K.lookup f_telling = some ⟨oc_telling, od_telling, .func (PySem.W.fnOf "telling" "telling" (defArgs s_telling) (defBody s_telling) (defScope s_telling) .none kV_telling dc_telling pm_telling an_telling cd_telling ct_telling), sl_telling⟩)
    (c_telling : PySem.W.codeIn K cd_telling "telling" = true)
    (k_telling : PySem.W.keepIn K (.ref f_telling) = true)
    (a_trade_of : PySem.W.nsIn K mainGlobals "trade_of" = some (some (.ref f_trade_of)))
    (l_trade_of : K.lookup f_trade_of = some ⟨oc_trade_of, od_trade_of, .func (PySem.W.fnOf "trade_of" "trade_of" (defArgs s_trade_of) (defBody s_trade_of) (defScope s_trade_of) .none kV_trade_of dc_trade_of pm_trade_of an_trade_of cd_trade_of ct_trade_of), sl_trade_of⟩)
    (c_trade_of : PySem.W.codeIn K cd_trade_of "trade_of" = true)
    (k_trade_of : PySem.W.keepIn K (.ref f_trade_of) = true)
    (a_pairs : PySem.W.nsIn K mainGlobals "pairs" = some (some (.ref f_pairs)))
    (l_pairs : K.lookup f_pairs = some ⟨oc_pairs, od_pairs, .func (PySem.W.fnOf "pairs" "pairs" (defArgs s_pairs) (defBody s_pairs) (defScope s_pairs) .none kV_pairs dc_pairs pm_pairs an_pairs cd_pairs ct_pairs), sl_pairs⟩)
    (c_pairs : PySem.W.codeIn K cd_pairs "pairs" = true)
    (k_pairs : PySem.W.keepIn K (.ref f_pairs) = true)
    (a_outdoes : PySem.W.nsIn K mainGlobals "outdoes" = some (some (.ref f_outdoes)))
    (l_outdoes : K.lookup f_outdoes = some ⟨oc_outdoes, od_outdoes, .func (PySem.W.fnOf "outdoes" "outdoes" (defArgs s_outdoes) (defBody s_outdoes) (defScope s_outdoes) .none kV_outdoes dc_outdoes pm_outdoes an_outdoes cd_outdoes ct_outdoes), sl_outdoes⟩)
    (c_outdoes : PySem.W.codeIn K cd_outdoes "outdoes" = true)
    (k_outdoes : PySem.W.keepIn K (.ref f_outdoes) = true)
    (a_weights_of : PySem.W.nsIn K mainGlobals "weights_of" = some (some (.ref f_weights_of)))
    (l_weights_of : K.lookup f_weights_of = some ⟨oc_weights_of, od_weights_of, .func (PySem.W.fnOf "weights_of" "weights_of" (defArgs s_weights_of) (defBody s_weights_of) (defScope s_weights_of) .none kV_weights_of dc_weights_of pm_weights_of an_weights_of cd_weights_of ct_weights_of), sl_weights_of⟩)
    (c_weights_of : PySem.W.codeIn K cd_weights_of "weights_of" = true)
    (k_weights_of : PySem.W.keepIn K (.ref f_weights_of) = true)
    (a_by_strength : PySem.W.nsIn K mainGlobals "by_strength" = some (some (.ref f_by_strength)))
    (l_by_strength : K.lookup f_by_strength = some ⟨oc_by_strength, od_by_strength, .func (PySem.W.fnOf "by_strength" "by_strength" (defArgs s_by_strength) (defBody s_by_strength) (defScope s_by_strength) .none kV_by_strength dc_by_strength pm_by_strength an_by_strength cd_by_strength ct_by_strength), sl_by_strength⟩)
    (c_by_strength : PySem.W.codeIn K cd_by_strength "by_strength" = true)
    (k_by_strength : PySem.W.keepIn K (.ref f_by_strength) = true)
    (a_strength : PySem.W.nsIn K mainGlobals "strength" = some (some (.ref f_strength)))
    (l_strength : K.lookup f_strength = some ⟨oc_strength, od_strength, .func (PySem.W.fnOf "strength" "strength" (defArgs s_strength) (defBody s_strength) (defScope s_strength) .none kV_strength dc_strength pm_strength an_strength cd_strength ct_strength), sl_strength⟩)
    (c_strength : PySem.W.codeIn K cd_strength "strength" = true)
    (k_strength : PySem.W.keepIn K (.ref f_strength) = true)
    (a_falling_lists : PySem.W.nsIn K mainGlobals "falling_lists" = some (some (.ref f_falling_lists)))
    (l_falling_lists : K.lookup f_falling_lists = some ⟨oc_falling_lists, od_falling_lists, .func (PySem.W.fnOf "falling_lists" "falling_lists" (defArgs s_falling_lists) (defBody s_falling_lists) (defScope s_falling_lists) .none kV_falling_lists dc_falling_lists pm_falling_lists an_falling_lists cd_falling_lists ct_falling_lists), sl_falling_lists⟩)
    (c_falling_lists : PySem.W.codeIn K cd_falling_lists "falling_lists" = true)
    (k_falling_lists : PySem.W.keepIn K (.ref f_falling_lists) = true)
    (a_placed : PySem.W.nsIn K mainGlobals "placed" = some (some (.ref f_placed)))
    (l_placed : K.lookup f_placed = some ⟨oc_placed, od_placed, .func (PySem.W.fnOf "placed" "placed" (defArgs s_placed) (defBody s_placed) (defScope s_placed) .none kV_placed dc_placed pm_placed an_placed cd_placed ct_placed), sl_placed⟩)
    (c_placed : PySem.W.codeIn K cd_placed "placed" = true)
    (k_placed : PySem.W.keepIn K (.ref f_placed) = true)
    (a_Council_init : PySem.W.findIn K (.ref C_Council) "__init__" = some (some (.ref f_Council_init)))
    (i_Council_init : PySem.W.isFn K (.ref f_Council_init) = true)
    (l_Council_init : K.lookup f_Council_init = some ⟨oc_Council_init, od_Council_init, .func (PySem.W.fnOf "__init__" "Council.__init__" (defArgs s_Council_init) (defBody s_Council_init) (defScope s_Council_init) .none kV_Council_init dc_Council_init pm_Council_init an_Council_init cd_Council_init ct_Council_init), sl_Council_init⟩)
    (c_Council_init : PySem.W.codeIn K cd_Council_init "Council.__init__" = true)
    (k_Council_init : PySem.W.keepIn K (.ref f_Council_init) = true)
    (a_Council_carries : PySem.W.findIn K (.ref C_Council) "carries" = some (some (.ref f_Council_carries)))
    (i_Council_carries : PySem.W.isFn K (.ref f_Council_carries) = true)
    (l_Council_carries : K.lookup f_Council_carries = some ⟨oc_Council_carries, od_Council_carries, .func (PySem.W.fnOf "carries" "Council.carries" (defArgs s_Council_carries) (defBody s_Council_carries) (defScope s_Council_carries) .none kV_Council_carries dc_Council_carries pm_Council_carries an_Council_carries cd_Council_carries ct_Council_carries), sl_Council_carries⟩)
    (c_Council_carries : PySem.W.codeIn K cd_Council_carries "Council.carries" = true)
    (k_Council_carries : PySem.W.keepIn K (.ref f_Council_carries) = true)
    (a_Council_least : PySem.W.findIn K (.ref C_Council) "least" = some (some (.ref f_Council_least)))
    (i_Council_least : PySem.W.isFn K (.ref f_Council_least) = true)
    (l_Council_least : K.lookup f_Council_least = some ⟨oc_Council_least, od_Council_least, .func (PySem.W.fnOf "least" "Council.least" (defArgs s_Council_least) (defBody s_Council_least) (defScope s_Council_least) .none kV_Council_least dc_Council_least pm_Council_least an_Council_least cd_Council_least ct_Council_least), sl_Council_least⟩)
    (c_Council_least : PySem.W.codeIn K cd_Council_least "Council.least" = true)
    (k_Council_least : PySem.W.keepIn K (.ref f_Council_least) = true)
    (a_Council_greatest : PySem.W.findIn K (.ref C_Council) "greatest" = some (some (.ref f_Council_greatest)))
    (i_Council_greatest : PySem.W.isFn K (.ref f_Council_greatest) = true)
    (l_Council_greatest : K.lookup f_Council_greatest = some ⟨oc_Council_greatest, od_Council_greatest, .func (PySem.W.fnOf "greatest" "Council.greatest" (defArgs s_Council_greatest) (defBody s_Council_greatest) (defScope s_Council_greatest) .none kV_Council_greatest dc_Council_greatest pm_Council_greatest an_Council_greatest cd_Council_greatest ct_Council_greatest), sl_Council_greatest⟩)
    (c_Council_greatest : PySem.W.codeIn K cd_Council_greatest "Council.greatest" = true)
    (k_Council_greatest : PySem.W.keepIn K (.ref f_Council_greatest) = true)
    (a_Council_is_least : PySem.W.findIn K (.ref C_Council) "is_least" = some (some (.ref f_Council_is_least)))
    (i_Council_is_least : PySem.W.isFn K (.ref f_Council_is_least) = true)
    (l_Council_is_least : K.lookup f_Council_is_least = some ⟨oc_Council_is_least, od_Council_is_least, .func (PySem.W.fnOf "is_least" "Council.is_least" (defArgs s_Council_is_least) (defBody s_Council_is_least) (defScope s_Council_is_least) .none kV_Council_is_least dc_Council_is_least pm_Council_is_least an_Council_is_least cd_Council_is_least ct_Council_is_least), sl_Council_is_least⟩)
    (c_Council_is_least : PySem.W.codeIn K cd_Council_is_least "Council.is_least" = true)
    (k_Council_is_least : PySem.W.keepIn K (.ref f_Council_is_least) = true)
    (a_Council_is_greatest : PySem.W.findIn K (.ref C_Council) "is_greatest" = some (some (.ref f_Council_is_greatest)))
    (i_Council_is_greatest : PySem.W.isFn K (.ref f_Council_is_greatest) = true)
    (l_Council_is_greatest : K.lookup f_Council_is_greatest = some ⟨oc_Council_is_greatest, od_Council_is_greatest, .func (PySem.W.fnOf "is_greatest" "Council.is_greatest" (defArgs s_Council_is_greatest) (defBody s_Council_is_greatest) (defScope s_Council_is_greatest) .none kV_Council_is_greatest dc_Council_is_greatest pm_Council_is_greatest an_Council_is_greatest cd_Council_is_greatest ct_Council_is_greatest), sl_Council_is_greatest⟩)
    (c_Council_is_greatest : PySem.W.codeIn K cd_Council_is_greatest "Council.is_greatest" = true)
    (k_Council_is_greatest : PySem.W.keepIn K (.ref f_Council_is_greatest) = true)
    (a_refuse_bad_council : PySem.W.nsIn K mainGlobals "refuse_bad_council" = some (some (.ref f_refuse_bad_council)))
    (l_refuse_bad_council : K.lookup f_refuse_bad_council = some ⟨oc_refuse_bad_council, od_refuse_bad_council, .func (PySem.W.fnOf "refuse_bad_council" "refuse_bad_council" (defArgs s_refuse_bad_council) (defBody s_refuse_bad_council) (defScope s_refuse_bad_council) .none kV_refuse_bad_council dc_refuse_bad_council pm_refuse_bad_council an_refuse_bad_council cd_refuse_bad_council ct_refuse_bad_council), sl_refuse_bad_council⟩)
    (c_refuse_bad_council : PySem.W.codeIn K cd_refuse_bad_council "refuse_bad_council" = true)
    (k_refuse_bad_council : PySem.W.keepIn K (.ref f_refuse_bad_council) = true)
    (a_has_one_within : PySem.W.nsIn K mainGlobals "has_one_within" = some (some (.ref f_has_one_within)))
    (l_has_one_within : K.lookup f_has_one_within = some ⟨oc_has_one_within, od_has_one_within, .func (PySem.W.fnOf "has_one_within" "has_one_within" (defArgs s_has_one_within) (defBody s_has_one_within) (defScope s_has_one_within) .none kV_has_one_within dc_has_one_within pm_has_one_within an_has_one_within cd_has_one_within ct_has_one_within), sl_has_one_within⟩)
    (c_has_one_within : PySem.W.codeIn K cd_has_one_within "has_one_within" = true)
    (k_has_one_within : PySem.W.keepIn K (.ref f_has_one_within) = true)
    (a_turned : PySem.W.nsIn K mainGlobals "turned" = some (some (.ref f_turned)))
    (l_turned : K.lookup f_turned = some ⟨oc_turned, od_turned, .func (PySem.W.fnOf "turned" "turned" (defArgs s_turned) (defBody s_turned) (defScope s_turned) .none kV_turned dc_turned pm_turned an_turned cd_turned ct_turned), sl_turned⟩)
    (c_turned : PySem.W.codeIn K cd_turned "turned" = true)
    (k_turned : PySem.W.keepIn K (.ref f_turned) = true)
    (a_weighted : PySem.W.nsIn K mainGlobals "weighted" = some (some (.ref f_weighted)))
    (l_weighted : K.lookup f_weighted = some ⟨oc_weighted, od_weighted, .func (PySem.W.fnOf "weighted" "weighted" (defArgs s_weighted) (defBody s_weighted) (defScope s_weighted) .none kV_weighted dc_weighted pm_weighted an_weighted cd_weighted ct_weighted), sl_weighted⟩)
    (c_weighted : PySem.W.codeIn K cd_weighted "weighted" = true)
    (k_weighted : PySem.W.keepIn K (.ref f_weighted) = true)
    (a_refuse_bad_weights : PySem.W.nsIn K mainGlobals "refuse_bad_weights" = some (some (.ref f_refuse_bad_weights)))
    (l_refuse_bad_weights : K.lookup f_refuse_bad_weights = some ⟨oc_refuse_bad_weights, od_refuse_bad_weights, .func (PySem.W.fnOf "refuse_bad_weights" "refuse_bad_weights" (defArgs s_refuse_bad_weights) (defBody s_refuse_bad_weights) (defScope s_refuse_bad_weights) .none kV_refuse_bad_weights dc_refuse_bad_weights pm_refuse_bad_weights an_refuse_bad_weights cd_refuse_bad_weights ct_refuse_bad_weights), sl_refuse_bad_weights⟩)
    (c_refuse_bad_weights : PySem.W.codeIn K cd_refuse_bad_weights "refuse_bad_weights" = true)
    (k_refuse_bad_weights : PySem.W.keepIn K (.ref f_refuse_bad_weights) = true)
    (a_law_cell_at : PySem.W.nsIn K mainGlobals "_law_cell_at" = some (some (.ref f_law_cell_at)))
    (l_law_cell_at : K.lookup f_law_cell_at = some ⟨oc_law_cell_at, od_law_cell_at, .func (PySem.W.fnOf "_law_cell_at" "_law_cell_at" (defArgs s_law_cell_at) (defBody s_law_cell_at) (defScope s_law_cell_at) .none kV_law_cell_at dc_law_cell_at pm_law_cell_at an_law_cell_at cd_law_cell_at ct_law_cell_at), sl_law_cell_at⟩)
    (c_law_cell_at : PySem.W.codeIn K cd_law_cell_at "_law_cell_at" = true)
    (k_law_cell_at : PySem.W.keepIn K (.ref f_law_cell_at) = true)
    (a_law_draw : PySem.W.nsIn K mainGlobals "_law_draw" = some (some (.ref f_law_draw)))
    (l_law_draw : K.lookup f_law_draw = some ⟨oc_law_draw, od_law_draw, .func (PySem.W.fnOf "_law_draw" "_law_draw" (defArgs s_law_draw) (defBody s_law_draw) (defScope s_law_draw) .none kV_law_draw dc_law_draw pm_law_draw an_law_draw cd_law_draw ct_law_draw), sl_law_draw⟩)
    (c_law_draw : PySem.W.codeIn K cd_law_draw "_law_draw" = true)
    (k_law_draw : PySem.W.keepIn K (.ref f_law_draw) = true)
    (a_law_told : PySem.W.nsIn K mainGlobals "_law_told" = some (some (.ref f_law_told)))
    (l_law_told : K.lookup f_law_told = some ⟨oc_law_told, od_law_told, .func (PySem.W.fnOf "_law_told" "_law_told" (defArgs s_law_told) (defBody s_law_told) (defScope s_law_told) .none kV_law_told dc_law_told pm_law_told an_law_told cd_law_told ct_law_told), sl_law_told⟩)
    (c_law_told : PySem.W.codeIn K cd_law_told "_law_told" = true)
    (k_law_told : PySem.W.keepIn K (.ref f_law_told) = true)
    (a_law_table : PySem.W.nsIn K mainGlobals "_law_table" = some (some (.ref f_law_table)))
    (l_law_table : K.lookup f_law_table = some ⟨oc_law_table, od_law_table, .func (PySem.W.fnOf "_law_table" "_law_table" (defArgs s_law_table) (defBody s_law_table) (defScope s_law_table) .none kV_law_table dc_law_table pm_law_table an_law_table cd_law_table ct_law_table), sl_law_table⟩)
    (c_law_table : PySem.W.codeIn K cd_law_table "_law_table" = true)
    (k_law_table : PySem.W.keepIn K (.ref f_law_table) = true)
    (a_law_has : PySem.W.nsIn K mainGlobals "_law_has" = some (some (.ref f_law_has)))
    (l_law_has : K.lookup f_law_has = some ⟨oc_law_has, od_law_has, .func (PySem.W.fnOf "_law_has" "_law_has" (defArgs s_law_has) (defBody s_law_has) (defScope s_law_has) .none kV_law_has dc_law_has pm_law_has an_law_has cd_law_has ct_law_has), sl_law_has⟩)
    (c_law_has : PySem.W.codeIn K cd_law_has "_law_has" = true)
    (k_law_has : PySem.W.keepIn K (.ref f_law_has) = true)
    (a_law_whole : PySem.W.nsIn K mainGlobals "_law_whole" = some (some (.ref f_law_whole)))
    (l_law_whole : K.lookup f_law_whole = some ⟨oc_law_whole, od_law_whole, .func (PySem.W.fnOf "_law_whole" "_law_whole" (defArgs s_law_whole) (defBody s_law_whole) (defScope s_law_whole) .none kV_law_whole dc_law_whole pm_law_whole an_law_whole cd_law_whole ct_law_whole), sl_law_whole⟩)
    (c_law_whole : PySem.W.codeIn K cd_law_whole "_law_whole" = true)
    (k_law_whole : PySem.W.keepIn K (.ref f_law_whole) = true)
    (a_law_made : PySem.W.nsIn K mainGlobals "_law_made" = some (some (.ref f_law_made)))
    (l_law_made : K.lookup f_law_made = some ⟨oc_law_made, od_law_made, .func (PySem.W.fnOf "_law_made" "_law_made" (defArgs s_law_made) (defBody s_law_made) (defScope s_law_made) .none kV_law_made dc_law_made pm_law_made an_law_made cd_law_made ct_law_made), sl_law_made⟩)
    (c_law_made : PySem.W.codeIn K cd_law_made "_law_made" = true)
    (k_law_made : PySem.W.keepIn K (.ref f_law_made) = true)
    (a_law_traded : PySem.W.nsIn K mainGlobals "_law_traded" = some (some (.ref f_law_traded)))
    (l_law_traded : K.lookup f_law_traded = some ⟨oc_law_traded, od_law_traded, .func (PySem.W.fnOf "_law_traded" "_law_traded" (defArgs s_law_traded) (defBody s_law_traded) (defScope s_law_traded) .none kV_law_traded dc_law_traded pm_law_traded an_law_traded cd_law_traded ct_law_traded), sl_law_traded⟩)
    (c_law_traded : PySem.W.codeIn K cd_law_traded "_law_traded" = true)
    (k_law_traded : PySem.W.keepIn K (.ref f_law_traded) = true)
    (a_law_right : PySem.W.nsIn K mainGlobals "_law_right" = some (some (.ref f_law_right)))
    (l_law_right : K.lookup f_law_right = some ⟨oc_law_right, od_law_right, .func (PySem.W.fnOf "_law_right" "_law_right" (defArgs s_law_right) (defBody s_law_right) (defScope s_law_right) .none kV_law_right dc_law_right pm_law_right an_law_right cd_law_right ct_law_right), sl_law_right⟩)
    (c_law_right : PySem.W.codeIn K cd_law_right "_law_right" = true)
    (k_law_right : PySem.W.keepIn K (.ref f_law_right) = true)
    (a_law_bent : PySem.W.nsIn K mainGlobals "_law_bent" = some (some (.ref f_law_bent)))
    (l_law_bent : K.lookup f_law_bent = some ⟨oc_law_bent, od_law_bent, .func (PySem.W.fnOf "_law_bent" "_law_bent" (defArgs s_law_bent) (defBody s_law_bent) (defScope s_law_bent) .none kV_law_bent dc_law_bent pm_law_bent an_law_bent cd_law_bent ct_law_bent), sl_law_bent⟩)
    (c_law_bent : PySem.W.codeIn K cd_law_bent "_law_bent" = true)
    (k_law_bent : PySem.W.keepIn K (.ref f_law_bent) = true)
    (a_law_says : PySem.W.nsIn K mainGlobals "_law_says" = some (some (.ref f_law_says)))
    (l_law_says : K.lookup f_law_says = some ⟨oc_law_says, od_law_says, .func (PySem.W.fnOf "_law_says" "_law_says" (defArgs s_law_says) (defBody s_law_says) (defScope s_law_says) .none kV_law_says dc_law_says pm_law_says an_law_says cd_law_says ct_law_says), sl_law_says⟩)
    (c_law_says : PySem.W.codeIn K cd_law_says "_law_says" = true)
    (k_law_says : PySem.W.keepIn K (.ref f_law_says) = true)
    (a_law_by_hand : PySem.W.nsIn K mainGlobals "_law_by_hand" = some (some (.ref f_law_by_hand)))
    (l_law_by_hand : K.lookup f_law_by_hand = some ⟨oc_law_by_hand, od_law_by_hand, .func (PySem.W.fnOf "_law_by_hand" "_law_by_hand" (defArgs s_law_by_hand) (defBody s_law_by_hand) (defScope s_law_by_hand) .none kV_law_by_hand dc_law_by_hand pm_law_by_hand an_law_by_hand cd_law_by_hand ct_law_by_hand), sl_law_by_hand⟩)
    (c_law_by_hand : PySem.W.codeIn K cd_law_by_hand "_law_by_hand" = true)
    (k_law_by_hand : PySem.W.keepIn K (.ref f_law_by_hand) = true)
    (a_law_due : PySem.W.nsIn K mainGlobals "_law_due" = some (some (.ref f_law_due)))
    (l_law_due : K.lookup f_law_due = some ⟨oc_law_due, od_law_due, .func (PySem.W.fnOf "_law_due" "_law_due" (defArgs s_law_due) (defBody s_law_due) (defScope s_law_due) .none kV_law_due dc_law_due pm_law_due an_law_due cd_law_due ct_law_due), sl_law_due⟩)
    (c_law_due : PySem.W.codeIn K cd_law_due "_law_due" = true)
    (k_law_due : PySem.W.keepIn K (.ref f_law_due) = true)
    (a_law_built : PySem.W.nsIn K mainGlobals "_law_built" = some (some (.ref f_law_built)))
    (l_law_built : K.lookup f_law_built = some ⟨oc_law_built, od_law_built, .func (PySem.W.fnOf "_law_built" "_law_built" (defArgs s_law_built) (defBody s_law_built) (defScope s_law_built) .none kV_law_built dc_law_built pm_law_built an_law_built cd_law_built ct_law_built), sl_law_built⟩)
    (c_law_built : PySem.W.codeIn K cd_law_built "_law_built" = true)
    (k_law_built : PySem.W.keepIn K (.ref f_law_built) = true)
    (a_law : PySem.W.nsIn K mainGlobals "law" = some (some (.ref f_law)))
    (l_law : K.lookup f_law = some ⟨oc_law, od_law, .func (PySem.W.fnOf "law" "law" (defArgs s_law) (defBody s_law) (defScope s_law) .none kV_law dc_law pm_law an_law cd_law ct_law), sl_law⟩)
    (c_law : PySem.W.codeIn K cd_law "law" = true)
    (k_law : PySem.W.keepIn K (.ref f_law) = true)
    (pg_Council : PySem.W.plainGet K C_Council Str.empty = true)
    (hd_Council : PySem.W.hasDictIn K C_Council = true)
    (po_Council : PySem.W.plainOver K C_Council = true)
    (sa_Council : PySem.W.findIn K (.ref C_Council) "__setattr__" = some (some (.builtin "object.__setattr__")))
    (mk_Council : PySem.W.makesIn K C_Council = true)
    (kc_Council : PySem.W.keepIn K (.ref C_Council) = true)
    (pg_Trade : PySem.W.plainGet K C_Trade Str.empty = true)
    (hd_Trade : PySem.W.hasDictIn K C_Trade = true)
    (po_Trade : PySem.W.plainOver K C_Trade = true)
    (sa_Trade : PySem.W.findIn K (.ref C_Trade) "__setattr__" = some (some (.builtin "object.__setattr__")))
    (mk_Trade : PySem.W.makesIn K C_Trade = true)
    (kc_Trade : PySem.W.keepIn K (.ref C_Trade) = true)
    (pg_Weights : PySem.W.plainGet K C_Weights Str.empty = true)
    (hd_Weights : PySem.W.hasDictIn K C_Weights = true)
    (po_Weights : PySem.W.plainOver K C_Weights = true)
    (sa_Weights : PySem.W.findIn K (.ref C_Weights) "__setattr__" = some (some (.builtin "object.__setattr__")))
    (mk_Weights : PySem.W.makesIn K C_Weights = true)
    (kc_Weights : PySem.W.keepIn K (.ref C_Weights) = true)
    (gd_get : PySem.W.specialIn K (.builtin "object.__class__") "__get__" = some (some (.builtin "getset_descriptor.__get__")))
    (gd_tk : PySem.W.takesIn K (.builtin "object.__class__") = some true)
    (xc_Trade : PySem.W.findIn K (.ref C_Trade) "__class__" = some (some (.builtin "object.__class__")))
    (xo_Trade : PySem.W.mroIn K C_Trade (.type "object") = some true)
    (xc_Weights : PySem.W.findIn K (.ref C_Weights) "__class__" = some (some (.builtin "object.__class__")))
    (xo_Weights : PySem.W.mroIn K C_Weights (.type "object") = some true)
    (kt_Answer : PySem.W.typeIn K (.ref C_Answer) = some (.type "type"))
    (kk_Answer : PySem.W.isClsIn K C_Answer = true)
    (kt_Trade : PySem.W.typeIn K (.ref C_Trade) = some (.type "type"))
    (kk_Trade : PySem.W.isClsIn K C_Trade = true)
    (kt_Weights : PySem.W.typeIn K (.ref C_Weights) = some (.type "type"))
    (kk_Weights : PySem.W.isClsIn K C_Weights = true)
    (ks_Trade : PySem.W.mroIn K C_Trade (.ref C_Trade) = some true)
    (ks_Weights : PySem.W.mroIn K C_Weights (.ref C_Weights) = some true)
    (ki_Weights_Answer : PySem.W.mroIn K C_Weights (.ref C_Answer) = some true)
    (ki_Weights_Weights : PySem.W.mroIn K C_Weights (.ref C_Weights) = some true)
    (ki_Weights_Trade : PySem.W.mroIn K C_Weights (.ref C_Trade) = some false)
    (ki_Trade_Answer : PySem.W.mroIn K C_Trade (.ref C_Answer) = some true)
    (ki_Trade_Weights : PySem.W.mroIn K C_Trade (.ref C_Weights) = some false)
    (ki_Trade_Trade : PySem.W.mroIn K C_Trade (.ref C_Trade) = some true)
    (n_Council_members : PySem.W.findIn K (.ref C_Council) "members" = some none)
    (n_Council_table : PySem.W.findIn K (.ref C_Council) "table" = some none)
    (n_Trade_carry : PySem.W.findIn K (.ref C_Trade) "carry" = some none)
    (n_Trade_fail : PySem.W.findIn K (.ref C_Trade) "fail" = some none)
    (n_Weights_quota : PySem.W.findIn K (.ref C_Weights) "quota" = some none)
    (n_Weights_weights : PySem.W.findIn K (.ref C_Weights) "weights" = some none)
    (g_MOST_MEMBERS : PySem.W.nsIn K mainGlobals "MOST_MEMBERS" = some (some (.int 5 t_MOST_MEMBERS)))
    (g_ENOUGH_WEIGHT : PySem.W.nsIn K mainGlobals "ENOUGH_WEIGHT" = some (some (.int 5 t_ENOUGH_WEIGHT)))
    (g_MOST_WEIGHT : PySem.W.nsIn K mainGlobals "MOST_WEIGHT" = some (some (.int 1000000 t_MOST_WEIGHT)))
    (g_MOST_QUOTA : PySem.W.nsIn K mainGlobals "MOST_QUOTA" = some (some (.int 5000001 t_MOST_QUOTA)))
    (z_all : PySem.W.nsIn K mainGlobals "all" = some none)
    (z_any : PySem.W.nsIn K mainGlobals "any" = some none)
    (z_bool : PySem.W.nsIn K mainGlobals "bool" = some none)
    (z_enumerate : PySem.W.nsIn K mainGlobals "enumerate" = some none)
    (z_int : PySem.W.nsIn K mainGlobals "int" = some none)
    (z_isinstance : PySem.W.nsIn K mainGlobals "isinstance" = some none)
    (z_len : PySem.W.nsIn K mainGlobals "len" = some none)
    (z_list : PySem.W.nsIn K mainGlobals "list" = some none)
    (z_max : PySem.W.nsIn K mainGlobals "max" = some none)
    (z_min : PySem.W.nsIn K mainGlobals "min" = some none)
    (z_range : PySem.W.nsIn K mainGlobals "range" = some none)
    (z_sorted : PySem.W.nsIn K mainGlobals "sorted" = some none)
    (z_sum : PySem.W.nsIn K mainGlobals "sum" = some none)
    (z_tuple : PySem.W.nsIn K mainGlobals "tuple" = some none)
    (lam_code : cd_by_strength = .ref c_lam)
    (lam_obj : K.lookup c_lam = some ⟨oc_lam, od_lam, .fields vs_lam, sl_lam⟩)
    (lam_at : vs_lam[11]? = some (.ref p_lam))
    : ∃ a : Adr, Txt K mg a ∧ mg "law" = some (.ref a.a_law) ∧ ∃ (kV doc pm : Value) (an : Option Addr) (cdv ct : Value), a.d_law = PySem.W.fnOf "law" "law" (defArgs s_law) (defBody s_law) (defScope s_law) .none kV doc pm an cdv ct := by
  refine ⟨{ C_Council := C_Council, C_Trade := C_Trade, C_Weights := C_Weights, C_Answer := C_Answer, a_is_whole := f_is_whole, d_is_whole := PySem.W.fnOf "is_whole" "is_whole" (defArgs s_is_whole) (defBody s_is_whole) (defScope s_is_whole) .none kV_is_whole dc_is_whole pm_is_whole an_is_whole cd_is_whole ct_is_whole, a_everybody := f_everybody, d_everybody := PySem.W.fnOf "everybody" "everybody" (defArgs s_everybody) (defBody s_everybody) (defScope s_everybody) .none kV_everybody dc_everybody pm_everybody an_everybody cd_everybody ct_everybody, a_is_group := f_is_group, d_is_group := PySem.W.fnOf "is_group" "is_group" (defArgs s_is_group) (defBody s_is_group) (defScope s_is_group) .none kV_is_group dc_is_group pm_is_group an_is_group cd_is_group ct_is_group, a_groups_of := f_groups_of, d_groups_of := PySem.W.fnOf "groups_of" "groups_of" (defArgs s_groups_of) (defBody s_groups_of) (defScope s_groups_of) .none kV_groups_of dc_groups_of pm_groups_of an_groups_of cd_groups_of ct_groups_of, a_has := f_has, d_has := PySem.W.fnOf "has" "has" (defArgs s_has) (defBody s_has) (defScope s_has) .none kV_has dc_has pm_has an_has cd_has ct_has, a_members_of := f_members_of, d_members_of := PySem.W.fnOf "members_of" "members_of" (defArgs s_members_of) (defBody s_members_of) (defScope s_members_of) .none kV_members_of dc_members_of pm_members_of an_members_of cd_members_of ct_members_of, a_with_member := f_with_member, d_with_member := PySem.W.fnOf "with_member" "with_member" (defArgs s_with_member) (defBody s_with_member) (defScope s_with_member) .none kV_with_member dc_with_member pm_with_member an_with_member cd_with_member ct_with_member, a_within := f_within, d_within := PySem.W.fnOf "within" "within" (defArgs s_within) (defBody s_within) (defScope s_within) .none kV_within dc_within pm_within an_within cd_within ct_within, a_weight_of := f_weight_of, d_weight_of := PySem.W.fnOf "weight_of" "weight_of" (defArgs s_weight_of) (defBody s_weight_of) (defScope s_weight_of) .none kV_weight_of dc_weight_of pm_weight_of an_weight_of cd_weight_of ct_weight_of, a_Weights_init := f_Weights_init, d_Weights_init := PySem.W.fnOf "__init__" "Weights.__init__" (defArgs s_Weights_init) (defBody s_Weights_init) (defScope s_Weights_init) .none kV_Weights_init dc_Weights_init pm_Weights_init an_Weights_init cd_Weights_init ct_Weights_init, a_Weights_holds := f_Weights_holds, d_Weights_holds := PySem.W.fnOf "holds" "Weights.holds" (defArgs s_Weights_holds) (defBody s_Weights_holds) (defScope s_Weights_holds) .none kV_Weights_holds dc_Weights_holds pm_Weights_holds an_Weights_holds cd_Weights_holds ct_Weights_holds, a_Weights_agrees := f_Weights_agrees, d_Weights_agrees := PySem.W.fnOf "agrees" "Weights.agrees" (defArgs s_Weights_agrees) (defBody s_Weights_agrees) (defScope s_Weights_agrees) .none kV_Weights_agrees dc_Weights_agrees pm_Weights_agrees an_Weights_agrees cd_Weights_agrees ct_Weights_agrees, a_Trade_init := f_Trade_init, d_Trade_init := PySem.W.fnOf "__init__" "Trade.__init__" (defArgs s_Trade_init) (defBody s_Trade_init) (defScope s_Trade_init) .none kV_Trade_init dc_Trade_init pm_Trade_init an_Trade_init cd_Trade_init ct_Trade_init, a_Trade_holds := f_Trade_holds, d_Trade_holds := PySem.W.fnOf "holds" "Trade.holds" (defArgs s_Trade_holds) (defBody s_Trade_holds) (defScope s_Trade_holds) .none kV_Trade_holds dc_Trade_holds pm_Trade_holds an_Trade_holds cd_Trade_holds ct_Trade_holds, a_how_often := f_how_often, d_how_often := PySem.W.fnOf "how_often" "how_often" (defArgs s_how_often) (defBody s_how_often) (defScope s_how_often) .none kV_how_often dc_how_often pm_how_often an_how_often cd_how_often ct_how_often, a_telling := f_telling, d_telling := PySem.W.fnOf "telling" "telling" (defArgs s_telling) (defBody s_telling) (defScope s_telling) .none kV_telling dc_telling pm_telling an_telling cd_telling ct_telling, a_trade_of := f_trade_of, d_trade_of := PySem.W.fnOf "trade_of" "trade_of" (defArgs s_trade_of) (defBody s_trade_of) (defScope s_trade_of) .none kV_trade_of dc_trade_of pm_trade_of an_trade_of cd_trade_of ct_trade_of, a_pairs := f_pairs, d_pairs := PySem.W.fnOf "pairs" "pairs" (defArgs s_pairs) (defBody s_pairs) (defScope s_pairs) .none kV_pairs dc_pairs pm_pairs an_pairs cd_pairs ct_pairs, a_outdoes := f_outdoes, d_outdoes := PySem.W.fnOf "outdoes" "outdoes" (defArgs s_outdoes) (defBody s_outdoes) (defScope s_outdoes) .none kV_outdoes dc_outdoes pm_outdoes an_outdoes cd_outdoes ct_outdoes, a_weights_of := f_weights_of, d_weights_of := PySem.W.fnOf "weights_of" "weights_of" (defArgs s_weights_of) (defBody s_weights_of) (defScope s_weights_of) .none kV_weights_of dc_weights_of pm_weights_of an_weights_of cd_weights_of ct_weights_of, a_by_strength := f_by_strength, d_by_strength := PySem.W.fnOf "by_strength" "by_strength" (defArgs s_by_strength) (defBody s_by_strength) (defScope s_by_strength) .none kV_by_strength dc_by_strength pm_by_strength an_by_strength cd_by_strength ct_by_strength, a_strength := f_strength, d_strength := PySem.W.fnOf "strength" "strength" (defArgs s_strength) (defBody s_strength) (defScope s_strength) .none kV_strength dc_strength pm_strength an_strength cd_strength ct_strength, a_falling_lists := f_falling_lists, d_falling_lists := PySem.W.fnOf "falling_lists" "falling_lists" (defArgs s_falling_lists) (defBody s_falling_lists) (defScope s_falling_lists) .none kV_falling_lists dc_falling_lists pm_falling_lists an_falling_lists cd_falling_lists ct_falling_lists, a_placed := f_placed, d_placed := PySem.W.fnOf "placed" "placed" (defArgs s_placed) (defBody s_placed) (defScope s_placed) .none kV_placed dc_placed pm_placed an_placed cd_placed ct_placed, a_Council_init := f_Council_init, d_Council_init := PySem.W.fnOf "__init__" "Council.__init__" (defArgs s_Council_init) (defBody s_Council_init) (defScope s_Council_init) .none kV_Council_init dc_Council_init pm_Council_init an_Council_init cd_Council_init ct_Council_init, a_Council_carries := f_Council_carries, d_Council_carries := PySem.W.fnOf "carries" "Council.carries" (defArgs s_Council_carries) (defBody s_Council_carries) (defScope s_Council_carries) .none kV_Council_carries dc_Council_carries pm_Council_carries an_Council_carries cd_Council_carries ct_Council_carries, a_Council_least := f_Council_least, d_Council_least := PySem.W.fnOf "least" "Council.least" (defArgs s_Council_least) (defBody s_Council_least) (defScope s_Council_least) .none kV_Council_least dc_Council_least pm_Council_least an_Council_least cd_Council_least ct_Council_least, a_Council_greatest := f_Council_greatest, d_Council_greatest := PySem.W.fnOf "greatest" "Council.greatest" (defArgs s_Council_greatest) (defBody s_Council_greatest) (defScope s_Council_greatest) .none kV_Council_greatest dc_Council_greatest pm_Council_greatest an_Council_greatest cd_Council_greatest ct_Council_greatest, a_Council_is_least := f_Council_is_least, d_Council_is_least := PySem.W.fnOf "is_least" "Council.is_least" (defArgs s_Council_is_least) (defBody s_Council_is_least) (defScope s_Council_is_least) .none kV_Council_is_least dc_Council_is_least pm_Council_is_least an_Council_is_least cd_Council_is_least ct_Council_is_least, a_Council_is_greatest := f_Council_is_greatest, d_Council_is_greatest := PySem.W.fnOf "is_greatest" "Council.is_greatest" (defArgs s_Council_is_greatest) (defBody s_Council_is_greatest) (defScope s_Council_is_greatest) .none kV_Council_is_greatest dc_Council_is_greatest pm_Council_is_greatest an_Council_is_greatest cd_Council_is_greatest ct_Council_is_greatest, a_refuse_bad_council := f_refuse_bad_council, d_refuse_bad_council := PySem.W.fnOf "refuse_bad_council" "refuse_bad_council" (defArgs s_refuse_bad_council) (defBody s_refuse_bad_council) (defScope s_refuse_bad_council) .none kV_refuse_bad_council dc_refuse_bad_council pm_refuse_bad_council an_refuse_bad_council cd_refuse_bad_council ct_refuse_bad_council, a_has_one_within := f_has_one_within, d_has_one_within := PySem.W.fnOf "has_one_within" "has_one_within" (defArgs s_has_one_within) (defBody s_has_one_within) (defScope s_has_one_within) .none kV_has_one_within dc_has_one_within pm_has_one_within an_has_one_within cd_has_one_within ct_has_one_within, a_turned := f_turned, d_turned := PySem.W.fnOf "turned" "turned" (defArgs s_turned) (defBody s_turned) (defScope s_turned) .none kV_turned dc_turned pm_turned an_turned cd_turned ct_turned, a_weighted := f_weighted, d_weighted := PySem.W.fnOf "weighted" "weighted" (defArgs s_weighted) (defBody s_weighted) (defScope s_weighted) .none kV_weighted dc_weighted pm_weighted an_weighted cd_weighted ct_weighted, a_refuse_bad_weights := f_refuse_bad_weights, d_refuse_bad_weights := PySem.W.fnOf "refuse_bad_weights" "refuse_bad_weights" (defArgs s_refuse_bad_weights) (defBody s_refuse_bad_weights) (defScope s_refuse_bad_weights) .none kV_refuse_bad_weights dc_refuse_bad_weights pm_refuse_bad_weights an_refuse_bad_weights cd_refuse_bad_weights ct_refuse_bad_weights, a_law_cell_at := f_law_cell_at, d_law_cell_at := PySem.W.fnOf "_law_cell_at" "_law_cell_at" (defArgs s_law_cell_at) (defBody s_law_cell_at) (defScope s_law_cell_at) .none kV_law_cell_at dc_law_cell_at pm_law_cell_at an_law_cell_at cd_law_cell_at ct_law_cell_at, a_law_draw := f_law_draw, d_law_draw := PySem.W.fnOf "_law_draw" "_law_draw" (defArgs s_law_draw) (defBody s_law_draw) (defScope s_law_draw) .none kV_law_draw dc_law_draw pm_law_draw an_law_draw cd_law_draw ct_law_draw, a_law_told := f_law_told, d_law_told := PySem.W.fnOf "_law_told" "_law_told" (defArgs s_law_told) (defBody s_law_told) (defScope s_law_told) .none kV_law_told dc_law_told pm_law_told an_law_told cd_law_told ct_law_told, a_law_table := f_law_table, d_law_table := PySem.W.fnOf "_law_table" "_law_table" (defArgs s_law_table) (defBody s_law_table) (defScope s_law_table) .none kV_law_table dc_law_table pm_law_table an_law_table cd_law_table ct_law_table, a_law_has := f_law_has, d_law_has := PySem.W.fnOf "_law_has" "_law_has" (defArgs s_law_has) (defBody s_law_has) (defScope s_law_has) .none kV_law_has dc_law_has pm_law_has an_law_has cd_law_has ct_law_has, a_law_whole := f_law_whole, d_law_whole := PySem.W.fnOf "_law_whole" "_law_whole" (defArgs s_law_whole) (defBody s_law_whole) (defScope s_law_whole) .none kV_law_whole dc_law_whole pm_law_whole an_law_whole cd_law_whole ct_law_whole, a_law_made := f_law_made, d_law_made := PySem.W.fnOf "_law_made" "_law_made" (defArgs s_law_made) (defBody s_law_made) (defScope s_law_made) .none kV_law_made dc_law_made pm_law_made an_law_made cd_law_made ct_law_made, a_law_traded := f_law_traded, d_law_traded := PySem.W.fnOf "_law_traded" "_law_traded" (defArgs s_law_traded) (defBody s_law_traded) (defScope s_law_traded) .none kV_law_traded dc_law_traded pm_law_traded an_law_traded cd_law_traded ct_law_traded, a_law_right := f_law_right, d_law_right := PySem.W.fnOf "_law_right" "_law_right" (defArgs s_law_right) (defBody s_law_right) (defScope s_law_right) .none kV_law_right dc_law_right pm_law_right an_law_right cd_law_right ct_law_right, a_law_bent := f_law_bent, d_law_bent := PySem.W.fnOf "_law_bent" "_law_bent" (defArgs s_law_bent) (defBody s_law_bent) (defScope s_law_bent) .none kV_law_bent dc_law_bent pm_law_bent an_law_bent cd_law_bent ct_law_bent, a_law_says := f_law_says, d_law_says := PySem.W.fnOf "_law_says" "_law_says" (defArgs s_law_says) (defBody s_law_says) (defScope s_law_says) .none kV_law_says dc_law_says pm_law_says an_law_says cd_law_says ct_law_says, a_law_by_hand := f_law_by_hand, d_law_by_hand := PySem.W.fnOf "_law_by_hand" "_law_by_hand" (defArgs s_law_by_hand) (defBody s_law_by_hand) (defScope s_law_by_hand) .none kV_law_by_hand dc_law_by_hand pm_law_by_hand an_law_by_hand cd_law_by_hand ct_law_by_hand, a_law_due := f_law_due, d_law_due := PySem.W.fnOf "_law_due" "_law_due" (defArgs s_law_due) (defBody s_law_due) (defScope s_law_due) .none kV_law_due dc_law_due pm_law_due an_law_due cd_law_due ct_law_due, a_law_built := f_law_built, d_law_built := PySem.W.fnOf "_law_built" "_law_built" (defArgs s_law_built) (defBody s_law_built) (defScope s_law_built) .none kV_law_built dc_law_built pm_law_built an_law_built cd_law_built ct_law_built, a_law := f_law, d_law := PySem.W.fnOf "law" "law" (defArgs s_law) (defBody s_law) (defScope s_law) .none kV_law dc_law pm_law an_law cd_law ct_law, t_MOST_MEMBERS := t_MOST_MEMBERS, t_ENOUGH_WEIGHT := t_ENOUGH_WEIGHT, t_MOST_WEIGHT := t_MOST_WEIGHT, t_MOST_QUOTA := t_MOST_QUOTA, c_lam := c_lam, p_lam := p_lam }, ?_, PySem.W.mg_of X G a_law, _, _, _, _, _, _, rfl⟩
  exact { cl_Council := ⟨pg_Council, hd_Council, po_Council, sa_Council⟩, m_Council := PySem.W.mg_of X G aC_Council, mk_Council := ⟨mk_Council, a_Council_init, i_Council_init, kc_Council⟩, cl_Trade := ⟨pg_Trade, hd_Trade, po_Trade, sa_Trade⟩, m_Trade := PySem.W.mg_of X G aC_Trade, mk_Trade := ⟨mk_Trade, a_Trade_init, i_Trade_init, kc_Trade⟩, cl_Weights := ⟨pg_Weights, hd_Weights, po_Weights, sa_Weights⟩, m_Weights := PySem.W.mg_of X G aC_Weights, mk_Weights := ⟨mk_Weights, a_Weights_init, i_Weights_init, kc_Weights⟩, m_Answer := PySem.W.mg_of X G aC_Answer, ki_Weights_Answer := kit_cls kt_Answer kk_Answer ks_Weights ki_Weights_Answer, ki_Weights_Weights := kit_cls kt_Weights kk_Weights ks_Weights ki_Weights_Weights, ki_Weights_Trade := kit_cls kt_Trade kk_Trade ks_Weights ki_Weights_Trade, ki_Trade_Answer := kit_cls kt_Answer kk_Answer ks_Trade ki_Trade_Answer, ki_Trade_Weights := kit_cls kt_Weights kk_Weights ks_Trade ki_Trade_Weights, ki_Trade_Trade := kit_cls kt_Trade kk_Trade ks_Trade ki_Trade_Trade, ty_Trade := fun e => .ins e ⟨pg_Trade, hd_Trade, po_Trade, sa_Trade⟩ xc_Trade gd_get gd_tk xo_Trade, ty_Weights := fun e => .ins e ⟨pg_Weights, hd_Weights, po_Weights, sa_Weights⟩ xc_Weights gd_get gd_tk xo_Weights, n_Council_members := n_Council_members, n_Council_table := n_Council_table, n_Trade_carry := n_Trade_carry, n_Trade_fail := n_Trade_fail, n_Weights_quota := n_Weights_quota, n_Weights_weights := n_Weights_weights, F_is_whole := fun_mk (st := s_is_whole) l_is_whole c_is_whole k_is_whole, m_is_whole := PySem.W.mg_of X G a_is_whole, F_everybody := fun_mk (st := s_everybody) l_everybody c_everybody k_everybody, m_everybody := PySem.W.mg_of X G a_everybody, F_is_group := fun_mk (st := s_is_group) l_is_group c_is_group k_is_group, m_is_group := PySem.W.mg_of X G a_is_group, F_groups_of := fun_mk (st := s_groups_of) l_groups_of c_groups_of k_groups_of, m_groups_of := PySem.W.mg_of X G a_groups_of, F_has := fun_mk (st := s_has) l_has c_has k_has, m_has := PySem.W.mg_of X G a_has, F_members_of := fun_mk (st := s_members_of) l_members_of c_members_of k_members_of, m_members_of := PySem.W.mg_of X G a_members_of, F_with_member := fun_mk (st := s_with_member) l_with_member c_with_member k_with_member, m_with_member := PySem.W.mg_of X G a_with_member, F_within := fun_mk (st := s_within) l_within c_within k_within, m_within := PySem.W.mg_of X G a_within, F_weight_of := fun_mk (st := s_weight_of) l_weight_of c_weight_of k_weight_of, m_weight_of := PySem.W.mg_of X G a_weight_of, F_Weights_init := fun_mk (st := s_Weights_init) l_Weights_init c_Weights_init k_Weights_init, F_Weights_holds := fun_mk (st := s_Weights_holds) l_Weights_holds c_Weights_holds k_Weights_holds, mt_Weights_holds := ⟨a_Weights_holds, i_Weights_holds, k_Weights_holds⟩, F_Weights_agrees := fun_mk (st := s_Weights_agrees) l_Weights_agrees c_Weights_agrees k_Weights_agrees, mt_Weights_agrees := ⟨a_Weights_agrees, i_Weights_agrees, k_Weights_agrees⟩, F_Trade_init := fun_mk (st := s_Trade_init) l_Trade_init c_Trade_init k_Trade_init, F_Trade_holds := fun_mk (st := s_Trade_holds) l_Trade_holds c_Trade_holds k_Trade_holds, mt_Trade_holds := ⟨a_Trade_holds, i_Trade_holds, k_Trade_holds⟩, F_how_often := fun_mk (st := s_how_often) l_how_often c_how_often k_how_often, m_how_often := PySem.W.mg_of X G a_how_often, F_telling := fun_mk (st := s_telling) l_telling c_telling k_telling, m_telling := PySem.W.mg_of X G a_telling, F_trade_of := fun_mk (st := s_trade_of) l_trade_of c_trade_of k_trade_of, m_trade_of := PySem.W.mg_of X G a_trade_of, F_pairs := fun_mk (st := s_pairs) l_pairs c_pairs k_pairs, m_pairs := PySem.W.mg_of X G a_pairs, F_outdoes := fun_mk (st := s_outdoes) l_outdoes c_outdoes k_outdoes, m_outdoes := PySem.W.mg_of X G a_outdoes, F_weights_of := fun_mk (st := s_weights_of) l_weights_of c_weights_of k_weights_of, m_weights_of := PySem.W.mg_of X G a_weights_of, F_by_strength := fun_mk (st := s_by_strength) l_by_strength c_by_strength k_by_strength, m_by_strength := PySem.W.mg_of X G a_by_strength, F_strength := fun_mk (st := s_strength) l_strength c_strength k_strength, m_strength := PySem.W.mg_of X G a_strength, F_falling_lists := fun_mk (st := s_falling_lists) l_falling_lists c_falling_lists k_falling_lists, m_falling_lists := PySem.W.mg_of X G a_falling_lists, F_placed := fun_mk (st := s_placed) l_placed c_placed k_placed, m_placed := PySem.W.mg_of X G a_placed, F_Council_init := fun_mk (st := s_Council_init) l_Council_init c_Council_init k_Council_init, F_Council_carries := fun_mk (st := s_Council_carries) l_Council_carries c_Council_carries k_Council_carries, mt_Council_carries := ⟨a_Council_carries, i_Council_carries, k_Council_carries⟩, F_Council_least := fun_mk (st := s_Council_least) l_Council_least c_Council_least k_Council_least, mt_Council_least := ⟨a_Council_least, i_Council_least, k_Council_least⟩, F_Council_greatest := fun_mk (st := s_Council_greatest) l_Council_greatest c_Council_greatest k_Council_greatest, mt_Council_greatest := ⟨a_Council_greatest, i_Council_greatest, k_Council_greatest⟩, F_Council_is_least := fun_mk (st := s_Council_is_least) l_Council_is_least c_Council_is_least k_Council_is_least, mt_Council_is_least := ⟨a_Council_is_least, i_Council_is_least, k_Council_is_least⟩, F_Council_is_greatest := fun_mk (st := s_Council_is_greatest) l_Council_is_greatest c_Council_is_greatest k_Council_is_greatest, mt_Council_is_greatest := ⟨a_Council_is_greatest, i_Council_is_greatest, k_Council_is_greatest⟩, F_refuse_bad_council := fun_mk (st := s_refuse_bad_council) l_refuse_bad_council c_refuse_bad_council k_refuse_bad_council, m_refuse_bad_council := PySem.W.mg_of X G a_refuse_bad_council, F_has_one_within := fun_mk (st := s_has_one_within) l_has_one_within c_has_one_within k_has_one_within, m_has_one_within := PySem.W.mg_of X G a_has_one_within, F_turned := fun_mk (st := s_turned) l_turned c_turned k_turned, m_turned := PySem.W.mg_of X G a_turned, F_weighted := fun_mk (st := s_weighted) l_weighted c_weighted k_weighted, m_weighted := PySem.W.mg_of X G a_weighted, F_refuse_bad_weights := fun_mk (st := s_refuse_bad_weights) l_refuse_bad_weights c_refuse_bad_weights k_refuse_bad_weights, m_refuse_bad_weights := PySem.W.mg_of X G a_refuse_bad_weights, F_law_cell_at := fun_mk (st := s_law_cell_at) l_law_cell_at c_law_cell_at k_law_cell_at, m_law_cell_at := PySem.W.mg_of X G a_law_cell_at, F_law_draw := fun_mk (st := s_law_draw) l_law_draw c_law_draw k_law_draw, m_law_draw := PySem.W.mg_of X G a_law_draw, F_law_told := fun_mk (st := s_law_told) l_law_told c_law_told k_law_told, m_law_told := PySem.W.mg_of X G a_law_told, F_law_table := fun_mk (st := s_law_table) l_law_table c_law_table k_law_table, m_law_table := PySem.W.mg_of X G a_law_table, F_law_has := fun_mk (st := s_law_has) l_law_has c_law_has k_law_has, m_law_has := PySem.W.mg_of X G a_law_has, F_law_whole := fun_mk (st := s_law_whole) l_law_whole c_law_whole k_law_whole, m_law_whole := PySem.W.mg_of X G a_law_whole, F_law_made := fun_mk (st := s_law_made) l_law_made c_law_made k_law_made, m_law_made := PySem.W.mg_of X G a_law_made, F_law_traded := fun_mk (st := s_law_traded) l_law_traded c_law_traded k_law_traded, m_law_traded := PySem.W.mg_of X G a_law_traded, F_law_right := fun_mk (st := s_law_right) l_law_right c_law_right k_law_right, m_law_right := PySem.W.mg_of X G a_law_right, F_law_bent := fun_mk (st := s_law_bent) l_law_bent c_law_bent k_law_bent, m_law_bent := PySem.W.mg_of X G a_law_bent, F_law_says := fun_mk (st := s_law_says) l_law_says c_law_says k_law_says, m_law_says := PySem.W.mg_of X G a_law_says, F_law_by_hand := fun_mk (st := s_law_by_hand) l_law_by_hand c_law_by_hand k_law_by_hand, m_law_by_hand := PySem.W.mg_of X G a_law_by_hand, F_law_due := fun_mk (st := s_law_due) l_law_due c_law_due k_law_due, m_law_due := PySem.W.mg_of X G a_law_due, F_law_built := fun_mk (st := s_law_built) l_law_built c_law_built k_law_built, m_law_built := PySem.W.mg_of X G a_law_built, F_law := fun_mk (st := s_law) l_law c_law k_law, m_law := PySem.W.mg_of X G a_law, g_MOST_MEMBERS := PySem.W.mg_of X G g_MOST_MEMBERS, g_ENOUGH_WEIGHT := PySem.W.mg_of X G g_ENOUGH_WEIGHT, g_MOST_WEIGHT := PySem.W.mg_of X G g_MOST_WEIGHT, g_MOST_QUOTA := PySem.W.mg_of X G g_MOST_QUOTA, z_all := PySem.W.mg_none_of X G z_all, z_any := PySem.W.mg_none_of X G z_any, z_bool := PySem.W.mg_none_of X G z_bool, z_enumerate := PySem.W.mg_none_of X G z_enumerate, z_int := PySem.W.mg_none_of X G z_int, z_isinstance := PySem.W.mg_none_of X G z_isinstance, z_len := PySem.W.mg_none_of X G z_len, z_list := PySem.W.mg_none_of X G z_list, z_max := PySem.W.mg_none_of X G z_max, z_min := PySem.W.mg_none_of X G z_min, z_range := PySem.W.mg_none_of X G z_range, z_sorted := PySem.W.mg_none_of X G z_sorted, z_sum := PySem.W.mg_none_of X G z_sum, z_tuple := PySem.W.mg_none_of X G z_tuple, lam_code := lam_code, lam_tab := tab_mk a_by_strength l_by_strength lam_code lam_obj lam_at }
theorem walk {l : PySem.W.OpenLaw} {q : Program} {loose : List Str} {XP : (Str → Option Value) → Heap → Prop} {YP : World → Heap → Prop} {d : DefRec} {K : Params → PySem.W.Frag} (hn : l.most = some 63) (hdf : d.params.defaults = [])
    (hY : ∀ (w : World) (h : Heap), YP w h → (K w.params).In h) (hy : ∃ dy, (PyProof.Rows.recsOf q).find? (fun e => e.name == ("by_strength" : Str)) = some dy) (hNT : ∀ w : World, PySem.W.noTabs (K w.params) = true)
    (F : ∀ (w : World) (mg : Str → Option Value) (fa : Addr) (h : Heap), (K w.params).In h → h.Ns mainGlobals mg → mg d.name = some (.ref fa) → mg "law" = some (.ref fa) ∧ ∃ a : Adr, Txt (K w.params) mg a ∧ mg "law" = some (.ref a.a_law) ∧ ∃ (kV doc pm : Value) (an : Option Addr) (cdv ct : Value), a.d_law = PySem.W.fnOf "law" "law" (defArgs s_law) (defBody s_law) (defScope s_law) .none kV doc pm an cdv ct) :
    PySem.W.WalkO q loose XP YP l.row.toRowW d [] (fun f vs => PySem.call f vs) := by
  obtain ⟨dy, hy⟩ := hy
  refine L2.walk_ofT (n := 63) (k := 11) (x := "_law_script") (y := "by_strength") (CX := CX0) (sp := fun K p => sp_lawT K p) hn (by decide) hdf ⟨rfl, by decide, by decide⟩ hY hy hNT (fun w mg fa h KX G hmg => ?_) (fun _ _ _ a ns hl hp hS => ⟨a, ns, rfl, hS, hl, .inl hp, fun _ => rfl⟩) fun _ _ _ _ z => z
  obtain ⟨e1, a, T, e2, kV, doc, pm, an, cdv, ct, e3⟩ := F w mg fa h KX G hmg
  have e := e1.symm.trans e2
  cases e
  refine ⟨a.d_law, a.c_lam, a.p_lam, T.lam_tab, fun s u => ?_, fun base _ _ B => ok_law T B⟩
  rw [e3]
  exact .of_eq rfl
end Wv
theorem PySem.W.Fast.tw15704609167409347877 : True := trivial
theorem PySem.W.Fast.tw8825911871566831984 : True := trivial
theorem PySem.W.Fast.tw4531755574866231900 : True := trivial
theorem PySem.W.Fast.tw10609601836852829669 : True := trivial
theorem PySem.W.Fast.tw10391349164388885448 : True := trivial
theorem PySem.W.Fast.tw1113140627813111529 : True := trivial
theorem PySem.W.Fast.tw7753354322509644748 : True := trivial
theorem PySem.W.Fast.tw10439590405361896238 : True := trivial
theorem PySem.W.Fast.tw7615487782991454211 : True := trivial
theorem PySem.W.Fast.tw9374404166206589114 : True := trivial
theorem PySem.W.Fast.tw5917844938095507746 : True := trivial
theorem PySem.W.Fast.tw16526119449359450770 : True := trivial
theorem PySem.W.Fast.tw17612734830840944536 : True := trivial
theorem PySem.W.Fast.tw14412009841850983332 : True := trivial
theorem PySem.W.Fast.tw15191612304311073177 : True := trivial
theorem PySem.W.Fast.tw16899485747402469626 : True := trivial
theorem PySem.W.Fast.tw14355595920115379343 : True := trivial
theorem PySem.W.Fast.tw13999771033102429040 : True := trivial
theorem PySem.W.Fast.tw10875128016542191777 : True := trivial
theorem PySem.W.Fast.tw17489510825608707870 : True := trivial
theorem PySem.W.Fast.tw17132481571279234574 : True := trivial
theorem PySem.W.Fast.tw9446285018496371510 : True := trivial
theorem PySem.W.Fast.tw16372324065836828411 : True := trivial
theorem PySem.W.Fast.tw14357952510625230296 : True := trivial
theorem PySem.W.Fast.tw13102775499348490737 : True := trivial
theorem PySem.W.Fast.tw6343844704758087824 : True := trivial
theorem PySem.W.Fast.tw18093172928799142729 : True := trivial
theorem PySem.W.Fast.tw11035854727782419949 : True := trivial
theorem PySem.W.Fast.tw2885109102002309881 : True := trivial
theorem PySem.W.Fast.tw14811076507788105375 : True := trivial
theorem PySem.W.Fast.tw6567131830417395747 : True := trivial
theorem PySem.W.Fast.tw2210724432127609454 : True := trivial
theorem PySem.W.Fast.tw13133429712700614272 : True := trivial
theorem PySem.W.Fast.tw12330520647901440810 : True := trivial
theorem PySem.W.Fast.tw16070247390935565554 : True := trivial
theorem PySem.W.Fast.tw6293566360667347647 : True := trivial
theorem PySem.W.Fast.tw1401636044662236462 : True := trivial
theorem PySem.W.Fast.tw8412632465252224311 : True := trivial
theorem PySem.W.Fast.tw5839622133618386205 : True := trivial
theorem PySem.W.Fast.tw9100486486925722730 : True := trivial
theorem PySem.W.Fast.tw3368484995018382344 : True := trivial
theorem PySem.W.Fast.tw8039256558852247888 : True := trivial
theorem PySem.W.Fast.tw4898722231076702056 : True := trivial
theorem PySem.W.Fast.tw9050488130955238451 : True := trivial
theorem PySem.W.Fast.tw8696767730705155489 : True := trivial
theorem PySem.W.Fast.tw5067340670727753638 : True := trivial
theorem PySem.W.Fast.tw3175775888787931892 : True := trivial
theorem PySem.W.Fast.tw12077316950162267872 : True := trivial
theorem PySem.W.Fast.tw5325667950998379523 : True := trivial
theorem PySem.W.Fast.tw4350196378718939431 : True := trivial
theorem PySem.W.Fast.tw15778761659067842730 : True := trivial
theorem PySem.W.Fast.tw9664022996469886907 : True := trivial
theorem PySem.W.Fast.tw5568084466500261289 : True := trivial
theorem PySem.W.Fast.tw9016364923422947946 : True := trivial
theorem PySem.W.Fast.tw16690063601822270837 : True := trivial
theorem PySem.W.Fast.tw8524220761133112225 : True := trivial
theorem PySem.W.Fast.tw2185894318915230670 : True := trivial
theorem PySem.W.Fast.tw1870981700908081730 : True := trivial
theorem PySem.W.Fast.tw13224833763259468676 : True := trivial
theorem PySem.W.Fast.tw2848603301042117189 : True := trivial
theorem PySem.W.Fast.tw440210131079589513 : True := trivial
theorem PySem.W.Fast.tw4313585111962204271 : True := trivial
theorem PySem.W.Fast.tw12971254874975052924 : True := trivial
theorem PySem.W.Fast.tw12917753088627243236 : True := trivial
theorem PySem.W.Fast.tw7805490794455591563 : True := trivial
theorem PySem.W.Fast.tw3182260217716767481 : True := trivial
theorem PySem.W.Fast.tw8127427087057816228 : True := trivial
theorem PySem.W.Fast.tw287964630803016 : True := trivial
theorem PySem.W.Fast.tw8449872527243010193 : True := trivial
theorem PySem.W.Fast.tw9060342832403781881 : True := trivial
theorem PySem.W.Fast.tw11672072937926804220 : True := trivial
theorem PySem.W.Fast.tw8679378791967488079 : True := trivial
theorem PySem.W.Fast.tw10467605091621132149 : True := trivial
theorem PySem.W.Fast.tw3859888615984586116 : True := trivial
theorem PySem.W.Fast.tw16369594981616945843 : True := trivial
theorem PySem.W.Fast.tw15553404923939349024 : True := trivial
theorem PySem.W.Fast.tw10095831446071679672 : True := trivial
theorem PySem.W.Fast.tw3943232901895560984 : True := trivial
theorem PySem.W.Fast.tw10677091759319573714 : True := trivial
theorem PySem.W.Fast.tw12668370331812987413 : True := trivial
theorem PySem.W.Fast.tw8844443821422653003 : True := trivial
theorem PySem.W.Fast.tw8938040438316018074 : True := trivial
theorem PySem.W.Fast.tw15982266092329374728 : True := trivial
theorem PySem.W.Fast.tw15988341815942079793 : True := trivial
theorem PySem.W.Fast.tw11004207420889423067 : True := trivial
theorem PySem.W.Fast.tw12709383148777913509 : True := trivial
theorem PySem.W.Fast.tw17712154306252616894 : True := trivial
theorem PySem.W.Fast.tw4345136918667438312 : True := trivial
theorem PySem.W.Fast.tw5018610579995983729 : True := trivial
theorem PySem.W.Fast.tw16795107396536251137 : True := trivial
theorem PySem.W.Fast.tw3269462100108538557 : True := trivial
theorem PySem.W.Fast.tw2209037932488161764 : True := trivial
theorem PySem.W.Fast.tw15233036398188532133 : True := trivial
theorem PySem.W.Fast.tw9312460979913196402 : True := trivial
theorem PySem.W.Fast.tw1530759164890642576 : True := trivial
theorem PySem.W.Fast.tw13633109707693665811 : True := trivial
theorem PySem.W.Fast.tw14948789942976794184 : True := trivial
theorem PySem.W.Fast.tw16742096506762466194 : True := trivial
theorem PySem.W.Fast.tw12741573379869167161 : True := trivial
theorem PySem.W.Fast.tw15949171208580307171 : True := trivial
theorem PySem.W.Fast.tw2415800212054734869 : True := trivial
theorem PySem.W.Fast.tw1536797204695162759 : True := trivial
theorem PySem.W.Fast.tw10076079547809353040 : True := trivial
theorem PySem.W.Fast.tw17330943566725222960 : True := trivial
theorem PySem.W.Fast.tw5302089120358760611 : True := trivial
theorem PySem.W.Fast.tw16985531779431141040 : True := trivial
theorem PySem.W.Fast.tw8835395294219774006 : True := trivial
theorem PySem.W.Fast.tw7249554277890553853 : True := trivial
theorem PySem.W.Fast.tw6531791015200196874 : True := trivial
theorem PySem.W.Fast.tw10235621983864402078 : True := trivial
theorem PySem.W.Fast.tw11795053185993619378 : True := trivial
theorem PySem.W.Fast.tw10280646039628174370 : True := trivial
theorem PySem.W.Fast.tw17990504213892820731 : True := trivial
theorem PySem.W.Fast.tw11403707221449342822 : True := trivial
theorem PySem.W.Fast.tw14007283489172827154 : True := trivial
theorem PySem.W.Fast.tw7129335332165898750 : True := trivial
theorem PySem.W.Fast.tw18281709092588945940 : True := trivial
theorem PySem.W.Fast.tw9965224183514495728 : True := trivial
theorem PySem.W.Fast.tw4018566705612421805 : True := trivial
theorem PySem.W.Fast.tw11519572856178963748 : True := trivial
theorem PySem.W.Fast.tw2319026128882087969 : True := trivial
theorem PySem.W.Fast.tw527582564811518366 : True := trivial
theorem PySem.W.Fast.tw2493273430153486874 : True := trivial
theorem PySem.W.Fast.tw5253568413186427629 : True := trivial
theorem PySem.W.Fast.tw10283514711808663444 : True := trivial
theorem PySem.W.Fast.tw7650571414668032096 : True := trivial
theorem PySem.W.Fast.tw11010768216621723752 : True := trivial
theorem PySem.W.Fast.tw4998060973033371255 : True := trivial
theorem PySem.W.Fast.tw3150056011561415022 : True := trivial
theorem PySem.W.Fast.tw17434659518542089626 : True := trivial
theorem PySem.W.Fast.tw4119078217079622420 : True := trivial
theorem PySem.W.Fast.tw3150975440974343744 : True := trivial
theorem PySem.W.Fast.tw6153976587715600304 : True := trivial
theorem PySem.W.Fast.tw18069240191595845457 : True := trivial
theorem PySem.W.Fast.tw7610618923847169845 : True := trivial
theorem PySem.W.Fast.tw3567160027341868195 : True := trivial
theorem PySem.W.Fast.tw13673397200821380082 : True := trivial
theorem PySem.W.Fast.tw11675858168811898292 : True := trivial
theorem PySem.W.Fast.tw9445218768622347283 : True := trivial
theorem PySem.W.Fast.tw2625632010494288843 : True := trivial
theorem PySem.W.Fast.tw17297640398147897555 : True := trivial
theorem PySem.W.Fast.tw3117986996219316612 : True := trivial
theorem PySem.W.Fast.tw15896832206251356906 : True := trivial
theorem PySem.W.Fast.tw9788491191367068961 : True := trivial
theorem PySem.W.Fast.tw8042830181955922878 : True := trivial
theorem PySem.W.Fast.tw6017755505844655692 : True := trivial
theorem PySem.W.Fast.tw10322601656058915207 : True := trivial
theorem PySem.W.Fast.tw11432234636102337548 : True := trivial
theorem PySem.W.Fast.tw17695936074299398729 : True := trivial
theorem PySem.W.Fast.tw14426949970065360587 : True := trivial
theorem PySem.W.Fast.tw14644156857703121540 : True := trivial
theorem PySem.W.Fast.tw3174469812425440861 : True := trivial
theorem PySem.W.Fast.tw13694477667208785460 : True := trivial
theorem PySem.W.Fast.tw16636141849366385895 : True := trivial
theorem PySem.W.Fast.tw3465072593108483982 : True := trivial
theorem PySem.W.Fast.tw4033304168523056071 : True := trivial
theorem PySem.W.Fast.tw6575625218681945405 : True := trivial
theorem PySem.W.Fast.tw2409533211571897381 : True := trivial
theorem PySem.W.Fast.tw15701862959071742923 : True := trivial
theorem PySem.W.Fast.tw17388127284683945402 : True := trivial
theorem PySem.W.Fast.tw18317506717288009336 : True := trivial
theorem PySem.W.Fast.tw2493591847958312696 : True := trivial
theorem PySem.W.Fast.tw16940623211279262917 : True := trivial
theorem PySem.W.Fast.tw7194988085543967598 : True := trivial
theorem PySem.W.Fast.tw1990592636763322046 : True := trivial
theorem PySem.W.Fast.tw6021343857667342210 : True := trivial
theorem PySem.W.Fast.tw17443185665351521542 : True := trivial
theorem PySem.W.Fast.tw15567186032987022497 : True := trivial
theorem PySem.W.Fast.tw13651126452707241000 : True := trivial
theorem PySem.W.Fast.tw12579526049412104652 : True := trivial
theorem PySem.W.Fast.tw6382531860183296350 : True := trivial
theorem PySem.W.Fast.tw17878251690181958688 : True := trivial
theorem PySem.W.Fast.tw17122564910722786973 : True := trivial
theorem PySem.W.Fast.tw15255173630209202908 : True := trivial
theorem PySem.W.Fast.tw10787705727731001618 : True := trivial
theorem PySem.W.Fast.tw752614473266419563 : True := trivial
theorem PySem.W.Fast.tw16868615895664378071 : True := trivial
theorem PySem.W.Fast.tw470637064273476061 : True := trivial
theorem PySem.W.Fast.tw14057428574269309329 : True := trivial
theorem PySem.W.Fast.tw4917929776168199055 : True := trivial
theorem PySem.W.Fast.tw13378501320329266935 : True := trivial
theorem PySem.W.Fast.tw12535730399940100794 : True := trivial
theorem PySem.W.Fast.tw3226589313114006150 : True := trivial
theorem PySem.W.Fast.tw4050666179834026065 : True := trivial
theorem PySem.W.Fast.tw7249094575165022862 : True := trivial
theorem PySem.W.Fast.tw16046818014826310384 : True := trivial
theorem PySem.W.Fast.tw5901221924572845238 : True := trivial
theorem PySem.W.Fast.tw8910119491807526889 : True := trivial
theorem PySem.W.Fast.tw5719966617819410222 : True := trivial
theorem PySem.W.Fast.tw1112699746827326349 : True := trivial
theorem PySem.W.Fast.tw11724569807879555598 : True := trivial
theorem PySem.W.Fast.tw14518245594539634287 : True := trivial
theorem PySem.W.Fast.tw9751943811976863548 : True := trivial
theorem PySem.W.Fast.tw11038809518842573120 : True := trivial
open PySem PySem.W PyProof.Rows
set_option maxRecDepth 100000 in
set_option maxHeartbeats 0 in
theorem PySem.Challenge.cw_weighvote_k03_whole_telling_holds : PySem.Challenge.rw_weighvote_k03_whole_telling.Holds := by
  w_on; o_law; k_head; (case hw => w_witness2)
  k_fill
  refine Wv.walk (l := PySem.Challenge.rw_weighvote_k03_whole_telling) rfl rfl (fun w h Y => PySem.W.km_in_of Y) ⟨_, rfl⟩ (fun w => by kernel_rfl) ?F
  case F =>
    intro w mg fa h KX G hmg
    refine ⟨hmg, ?_⟩
    refine' Wv.txt_mk KX G ?aC_Council ?aC_Trade ?aC_Weights ?aC_Answer ?a_is_whole ?l_is_whole ?c_is_whole ?k_is_whole ?a_everybody ?l_everybody ?c_everybody ?k_everybody ?a_is_group ?l_is_group ?c_is_group ?k_is_group ?a_groups_of ?l_groups_of ?c_groups_of ?k_groups_of ?a_has ?l_has ?c_has ?k_has ?a_members_of ?l_members_of ?c_members_of ?k_members_of ?a_with_member ?l_with_member ?c_with_member ?k_with_member ?a_within ?l_within ?c_within ?k_within ?a_weight_of ?l_weight_of ?c_weight_of ?k_weight_of ?a_Weights_init ?i_Weights_init ?l_Weights_init ?c_Weights_init ?k_Weights_init ?a_Weights_holds ?i_Weights_holds ?l_Weights_holds ?c_Weights_holds ?k_Weights_holds ?a_Weights_agrees ?i_Weights_agrees ?l_Weights_agrees ?c_Weights_agrees ?k_Weights_agrees ?a_Trade_init ?i_Trade_init ?l_Trade_init ?c_Trade_init ?k_Trade_init ?a_Trade_holds ?i_Trade_holds ?l_Trade_holds ?c_Trade_holds ?k_Trade_holds ?a_how_often ?l_how_often ?c_how_often ?k_how_often ?a_telling ?l_telling ?c_telling ?k_telling ?a_trade_of ?l_trade_of ?c_trade_of ?k_trade_of ?a_pairs ?l_pairs ?c_pairs ?k_pairs ?a_outdoes ?l_outdoes ?c_outdoes ?k_outdoes ?a_weights_of ?l_weights_of ?c_weights_of ?k_weights_of ?a_by_strength ?l_by_strength ?c_by_strength ?k_by_strength ?a_strength ?l_strength ?c_strength ?k_strength ?a_falling_lists ?l_falling_lists ?c_falling_lists ?k_falling_lists ?a_placed ?l_placed ?c_placed ?k_placed ?a_Council_init ?i_Council_init ?l_Council_init ?c_Council_init ?k_Council_init ?a_Council_carries ?i_Council_carries ?l_Council_carries ?c_Council_carries ?k_Council_carries ?a_Council_least ?i_Council_least ?l_Council_least ?c_Council_least ?k_Council_least ?a_Council_greatest ?i_Council_greatest ?l_Council_greatest ?c_Council_greatest ?k_Council_greatest ?a_Council_is_least ?i_Council_is_least ?l_Council_is_least ?c_Council_is_least ?k_Council_is_least ?a_Council_is_greatest ?i_Council_is_greatest ?l_Council_is_greatest ?c_Council_is_greatest ?k_Council_is_greatest ?a_refuse_bad_council ?l_refuse_bad_council ?c_refuse_bad_council ?k_refuse_bad_council ?a_has_one_within ?l_has_one_within ?c_has_one_within ?k_has_one_within ?a_turned ?l_turned ?c_turned ?k_turned ?a_weighted ?l_weighted ?c_weighted ?k_weighted ?a_refuse_bad_weights ?l_refuse_bad_weights ?c_refuse_bad_weights ?k_refuse_bad_weights ?a_law_cell_at ?l_law_cell_at ?c_law_cell_at ?k_law_cell_at ?a_law_draw ?l_law_draw ?c_law_draw ?k_law_draw ?a_law_told ?l_law_told ?c_law_told ?k_law_told ?a_law_table ?l_law_table ?c_law_table ?k_law_table ?a_law_has ?l_law_has ?c_law_has ?k_law_has ?a_law_whole ?l_law_whole ?c_law_whole ?k_law_whole ?a_law_made ?l_law_made ?c_law_made ?k_law_made ?a_law_traded ?l_law_traded ?c_law_traded ?k_law_traded ?a_law_right ?l_law_right ?c_law_right ?k_law_right ?a_law_bent ?l_law_bent ?c_law_bent ?k_law_bent ?a_law_says ?l_law_says ?c_law_says ?k_law_says ?a_law_by_hand ?l_law_by_hand ?c_law_by_hand ?k_law_by_hand ?a_law_due ?l_law_due ?c_law_due ?k_law_due ?a_law_built ?l_law_built ?c_law_built ?k_law_built ?a_law ?l_law ?c_law ?k_law ?pg_Council ?hd_Council ?po_Council ?sa_Council ?mk_Council ?kc_Council ?pg_Trade ?hd_Trade ?po_Trade ?sa_Trade ?mk_Trade ?kc_Trade ?pg_Weights ?hd_Weights ?po_Weights ?sa_Weights ?mk_Weights ?kc_Weights ?gd_get ?gd_tk ?xc_Trade ?xo_Trade ?xc_Weights ?xo_Weights ?kt_Answer ?kk_Answer ?kt_Trade ?kk_Trade ?kt_Weights ?kk_Weights ?ks_Trade ?ks_Weights ?ki_Weights_Answer ?ki_Weights_Weights ?ki_Weights_Trade ?ki_Trade_Answer ?ki_Trade_Weights ?ki_Trade_Trade ?n_Council_members ?n_Council_table ?n_Trade_carry ?n_Trade_fail ?n_Weights_quota ?n_Weights_weights ?g_MOST_MEMBERS ?g_ENOUGH_WEIGHT ?g_MOST_WEIGHT ?g_MOST_QUOTA ?z_all ?z_any ?z_bool ?z_enumerate ?z_int ?z_isinstance ?z_len ?z_list ?z_max ?z_min ?z_range ?z_sorted ?z_sum ?z_tuple ?lam_code ?lam_obj ?lam_at
    (case aC_Council => k_is)
    (case aC_Trade => k_is)
    (case aC_Weights => k_is)
    (case aC_Answer => k_is)
    (case a_is_whole => k_is)
    (case l_is_whole => k_is)
    (case c_is_whole => k_is)
    (case k_is_whole => k_is)
    (case a_everybody => k_is)
    (case l_everybody => k_is)
    (case c_everybody => k_is)
    (case k_everybody => k_is)
    (case a_is_group => k_is)
    (case l_is_group => k_is)
    (case c_is_group => k_is)
    (case k_is_group => k_is)
    (case a_groups_of => k_is)
    (case l_groups_of => k_is)
    (case c_groups_of => k_is)
    (case k_groups_of => k_is)
    (case a_has => k_is)
    (case l_has => k_is)
    (case c_has => k_is)
    (case k_has => k_is)
    (case a_members_of => k_is)
    (case l_members_of => k_is)
    (case c_members_of => k_is)
    (case k_members_of => k_is)
    (case a_with_member => k_is)
    (case l_with_member => k_is)
    (case c_with_member => k_is)
    (case k_with_member => k_is)
    (case a_within => k_is)
    (case l_within => k_is)
    (case c_within => k_is)
    (case k_within => k_is)
    (case a_weight_of => k_is)
    (case l_weight_of => k_is)
    (case c_weight_of => k_is)
    (case k_weight_of => k_is)
    (case a_Weights_init => k_is)
    (case i_Weights_init => k_is)
    (case l_Weights_init => k_is)
    (case c_Weights_init => k_is)
    (case k_Weights_init => k_is)
    (case a_Weights_holds => k_is)
    (case i_Weights_holds => k_is)
    (case l_Weights_holds => k_is)
    (case c_Weights_holds => k_is)
    (case k_Weights_holds => k_is)
    (case a_Weights_agrees => k_is)
    (case i_Weights_agrees => k_is)
    (case l_Weights_agrees => k_is)
    (case c_Weights_agrees => k_is)
    (case k_Weights_agrees => k_is)
    (case a_Trade_init => k_is)
    (case i_Trade_init => k_is)
    (case l_Trade_init => k_is)
    (case c_Trade_init => k_is)
    (case k_Trade_init => k_is)
    (case a_Trade_holds => k_is)
    (case i_Trade_holds => k_is)
    (case l_Trade_holds => k_is)
    (case c_Trade_holds => k_is)
    (case k_Trade_holds => k_is)
    (case a_how_often => k_is)
    (case l_how_often => k_is)
    (case c_how_often => k_is)
    (case k_how_often => k_is)
    (case a_telling => k_is)
    (case l_telling => k_is)
    (case c_telling => k_is)
    (case k_telling => k_is)
    (case a_trade_of => k_is)
    (case l_trade_of => k_is)
    (case c_trade_of => k_is)
    (case k_trade_of => k_is)
    (case a_pairs => k_is)
    (case l_pairs => k_is)
    (case c_pairs => k_is)
    (case k_pairs => k_is)
    (case a_outdoes => k_is)
    (case l_outdoes => k_is)
    (case c_outdoes => k_is)
    (case k_outdoes => k_is)
    (case a_weights_of => k_is)
    (case l_weights_of => k_is)
    (case c_weights_of => k_is)
    (case k_weights_of => k_is)
    (case a_by_strength => k_is)
    (case l_by_strength => k_is)
    (case c_by_strength => k_is)
    (case k_by_strength => k_is)
    (case a_strength => k_is)
    (case l_strength => k_is)
    (case c_strength => k_is)
    (case k_strength => k_is)
    (case a_falling_lists => k_is)
    (case l_falling_lists => k_is)
    (case c_falling_lists => k_is)
    (case k_falling_lists => k_is)
    (case a_placed => k_is)
    (case l_placed => k_is)
    (case c_placed => k_is)
    (case k_placed => k_is)
    (case a_Council_init => k_is)
    (case i_Council_init => k_is)
    (case l_Council_init => k_is)
    (case c_Council_init => k_is)
    (case k_Council_init => k_is)
    (case a_Council_carries => k_is)
    (case i_Council_carries => k_is)
    (case l_Council_carries => k_is)
    (case c_Council_carries => k_is)
    (case k_Council_carries => k_is)
    (case a_Council_least => k_is)
    (case i_Council_least => k_is)
    (case l_Council_least => k_is)
    (case c_Council_least => k_is)
    (case k_Council_least => k_is)
    (case a_Council_greatest => k_is)
    (case i_Council_greatest => k_is)
    (case l_Council_greatest => k_is)
    (case c_Council_greatest => k_is)
    (case k_Council_greatest => k_is)
    (case a_Council_is_least => k_is)
    (case i_Council_is_least => k_is)
    (case l_Council_is_least => k_is)
    (case c_Council_is_least => k_is)
    (case k_Council_is_least => k_is)
    (case a_Council_is_greatest => k_is)
    (case i_Council_is_greatest => k_is)
    (case l_Council_is_greatest => k_is)
    (case c_Council_is_greatest => k_is)
    (case k_Council_is_greatest => k_is)
    (case a_refuse_bad_council => k_is)
    (case l_refuse_bad_council => k_is)
    (case c_refuse_bad_council => k_is)
    (case k_refuse_bad_council => k_is)
    (case a_has_one_within => k_is)
    (case l_has_one_within => k_is)
    (case c_has_one_within => k_is)
    (case k_has_one_within => k_is)
    (case a_turned => k_is)
    (case l_turned => k_is)
    (case c_turned => k_is)
    (case k_turned => k_is)
    (case a_weighted => k_is)
    (case l_weighted => k_is)
    (case c_weighted => k_is)
    (case k_weighted => k_is)
    (case a_refuse_bad_weights => k_is)
    (case l_refuse_bad_weights => k_is)
    (case c_refuse_bad_weights => k_is)
    (case k_refuse_bad_weights => k_is)
    (case a_law_cell_at => k_is)
    (case l_law_cell_at => k_is)
    (case c_law_cell_at => k_is)
    (case k_law_cell_at => k_is)
    (case a_law_draw => k_is)
    (case l_law_draw => k_is)
    (case c_law_draw => k_is)
    (case k_law_draw => k_is)
    (case a_law_told => k_is)
    (case l_law_told => k_is)
    (case c_law_told => k_is)
    (case k_law_told => k_is)
    (case a_law_table => k_is)
    (case l_law_table => k_is)
    (case c_law_table => k_is)
    (case k_law_table => k_is)
    (case a_law_has => k_is)
    (case l_law_has => k_is)
    (case c_law_has => k_is)
    (case k_law_has => k_is)
    (case a_law_whole => k_is)
    (case l_law_whole => k_is)
    (case c_law_whole => k_is)
    (case k_law_whole => k_is)
    (case a_law_made => k_is)
    (case l_law_made => k_is)
    (case c_law_made => k_is)
    (case k_law_made => k_is)
    (case a_law_traded => k_is)
    (case l_law_traded => k_is)
    (case c_law_traded => k_is)
    (case k_law_traded => k_is)
    (case a_law_right => k_is)
    (case l_law_right => k_is)
    (case c_law_right => k_is)
    (case k_law_right => k_is)
    (case a_law_bent => k_is)
    (case l_law_bent => k_is)
    (case c_law_bent => k_is)
    (case k_law_bent => k_is)
    (case a_law_says => k_is)
    (case l_law_says => k_is)
    (case c_law_says => k_is)
    (case k_law_says => k_is)
    (case a_law_by_hand => k_is)
    (case l_law_by_hand => k_is)
    (case c_law_by_hand => k_is)
    (case k_law_by_hand => k_is)
    (case a_law_due => k_is)
    (case l_law_due => k_is)
    (case c_law_due => k_is)
    (case k_law_due => k_is)
    (case a_law_built => k_is)
    (case l_law_built => k_is)
    (case c_law_built => k_is)
    (case k_law_built => k_is)
    (case a_law => k_is)
    (case l_law => k_is)
    (case c_law => k_is)
    (case k_law => k_is)
    (case pg_Council => k_is)
    (case hd_Council => k_is)
    (case po_Council => k_is)
    (case sa_Council => k_is)
    (case mk_Council => k_is)
    (case kc_Council => k_is)
    (case pg_Trade => k_is)
    (case hd_Trade => k_is)
    (case po_Trade => k_is)
    (case sa_Trade => k_is)
    (case mk_Trade => k_is)
    (case kc_Trade => k_is)
    (case pg_Weights => k_is)
    (case hd_Weights => k_is)
    (case po_Weights => k_is)
    (case sa_Weights => k_is)
    (case mk_Weights => k_is)
    (case kc_Weights => k_is)
    (case gd_get => k_is)
    (case gd_tk => k_is)
    (case xc_Trade => k_is)
    (case xo_Trade => k_is)
    (case xc_Weights => k_is)
    (case xo_Weights => k_is)
    (case kt_Answer => k_is)
    (case kk_Answer => k_is)
    (case kt_Trade => k_is)
    (case kk_Trade => k_is)
    (case kt_Weights => k_is)
    (case kk_Weights => k_is)
    (case ks_Trade => k_is)
    (case ks_Weights => k_is)
    (case ki_Weights_Answer => k_is)
    (case ki_Weights_Weights => k_is)
    (case ki_Weights_Trade => k_is)
    (case ki_Trade_Answer => k_is)
    (case ki_Trade_Weights => k_is)
    (case ki_Trade_Trade => k_is)
    (case n_Council_members => k_is)
    (case n_Council_table => k_is)
    (case n_Trade_carry => k_is)
    (case n_Trade_fail => k_is)
    (case n_Weights_quota => k_is)
    (case n_Weights_weights => k_is)
    (case g_MOST_MEMBERS => k_is)
    (case g_ENOUGH_WEIGHT => k_is)
    (case g_MOST_WEIGHT => k_is)
    (case g_MOST_QUOTA => k_is)
    (case z_all => k_is)
    (case z_any => k_is)
    (case z_bool => k_is)
    (case z_enumerate => k_is)
    (case z_int => k_is)
    (case z_isinstance => k_is)
    (case z_len => k_is)
    (case z_list => k_is)
    (case z_max => k_is)
    (case z_min => k_is)
    (case z_range => k_is)
    (case z_sorted => k_is)
    (case z_sum => k_is)
    (case z_tuple => k_is)
    (case lam_code => rfl)
    (case lam_obj => k_is)
    (case lam_at => rfl)
