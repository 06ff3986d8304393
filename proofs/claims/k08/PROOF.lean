import PyProof.Rows.All
import Wide.All
import OpenK.AllK
import Wide.FinOn
import Lean
import PyProof.EqAt
import PyProof.EqKinds
import PyProof.TupleCall
import PySem.Challenge.RW_weighvote_k08_refused
set_option Elab.async false
set_option linter.all false
set_option maxRecDepth 100000
/-! THE HAND LAYER, for ints, bools, texts, own classes, LISTS and tuples (index, slices, in, append, pop ..), calls, loops. Paste it whole ahead of your own text; what your proof does not reach may be deleted. -/
namespace L2
open PySem PySem.Spec PyProof.Rows

/-- a key: an int or a str -/
abbrev Key := Sum Int Str
def keyIs : Key → Value → Bool
  | .inl k, v => Value.isInt k v
  | .inr x, v => Value.isStrOf x v
def keyH (w : World) : Key → Int
  | .inl k => hashInt k
  | .inr x => hashStr w x
theorem keyIs_shape : ∀ {k : Key} {v : Value}, keyIs k v = true → (∃ i t, k = Sum.inl i ∧ v = Value.int i t) ∨ (∃ x t, k = Sum.inr x ∧ v = Value.str x t)
  | .inl i, v, h => by
    obtain ⟨t, e⟩ := Value.isInt_shape (k := i) (v := v) h
    exact .inl ⟨i, t, rfl, e⟩
  | .inr x, v, h => by
    obtain ⟨t, e⟩ := Value.isStrOf_shape (x := x) (v := v) h
    exact .inr ⟨x, t, rfl, e⟩
theorem keyIs_int (i : Int) (t : Tok) : keyIs (.inl i) (.int i t) = true := by simp [keyIs, Value.isInt]
theorem keyIs_str (x : Str) (t : Tok) : keyIs (.inr x) (.str x t) = true := by simp [keyIs, Value.isStrOf]
theorem key_ll (a b : Int) : decide ((Sum.inl a : Key) = Sum.inl b) = (a == b) := by
  by_cases e : a = b
  · subst e; simp
  · have h : ¬ (Sum.inl a : Key) = Sum.inl b := fun q => e (Sum.inl.inj q)
    rw [decide_eq_false h]
    exact (beq_eq_false_iff_ne.mpr e).symm
theorem key_rr (a b : Str) : decide ((Sum.inr a : Key) = Sum.inr b) = decide (a = b) := by
  by_cases e : a = b
  · subst e; simp
  · have h : ¬ (Sum.inr a : Key) = Sum.inr b := fun q => e (Sum.inr.inj q)
    rw [decide_eq_false h, decide_eq_false e]
theorem key_lr (a : Int) (b : Str) : decide ((Sum.inl a : Key) = Sum.inr b) = false := decide_eq_false (fun q => nomatch q)
theorem key_rl (a : Str) (b : Int) : decide ((Sum.inr a : Key) = Sum.inl b) = false := decide_eq_false (fun q => nomatch q)

def mixKind (prog : Program) (w : World) : PySem.KeyKind prog w Key where
  is := keyIs
  hash := keyH w
  inj := fun v a b ha hb => by
    rcases keyIs_shape ha with ⟨i, t, rfl, rfl⟩ | ⟨x, t, rfl, rfl⟩
    · rcases keyIs_shape hb with ⟨j, u, rfl, e⟩ | ⟨y, u, rfl, e⟩
      · injection e with e1 _; rw [e1]
      · exact nomatch e
    · rcases keyIs_shape hb with ⟨j, u, rfl, e⟩ | ⟨y, u, rfl, e⟩
      · exact nomatch e
      · injection e with e1 _; rw [e1]
  byValue := fun k v h => by
    rcases keyIs_shape h with ⟨i, t, rfl, rfl⟩ | ⟨x, t, rfl, rfl⟩ <;> rfl
  pyHash := fun hv h => by
    rcases keyIs_shape hv with ⟨i, t, rfl, rfl⟩ | ⟨x, t, rfl, rfl⟩
    · exact wpAny_pyHash_int h
    · exact wpAny_pyHash_str h
  eqBool := fun hu hv h => by
    rcases keyIs_shape hu with ⟨i, t, rfl, rfl⟩ | ⟨x, t, rfl, rfl⟩
    · rcases keyIs_shape hv with ⟨j, u, rfl, rfl⟩ | ⟨y, u, rfl, rfl⟩
      · rw [key_ll] at h; exact wpAny_eqBool_int h
      · rw [key_lr] at h; exact SeqAt.EqAt.int_str i t y u _ _ _ _ h
    · rcases keyIs_shape hv with ⟨j, u, rfl, rfl⟩ | ⟨y, u, rfl, rfl⟩
      · rw [key_rl] at h; exact SeqAt.EqAt.str_int x t j u _ _ _ _ h
      · rw [key_rr] at h; exact wpAny_eqBool_str h
  «strs» := fun k x t v h => by
    rcases keyIs_shape h with ⟨i, u, rfl, e⟩ | ⟨y, u, rfl, e⟩
    · exact nomatch e
    · injection e with e1 _
      subst e1
      cases v <;> rfl

theorem mixKind_is (prog : Program) (w : World) (k : Key) (v : Value) : (mixKind prog w).is k v = keyIs k v := rfl
theorem mixKind_int (prog : Program) (w : World) (i : Int) (t : Tok) : (mixKind prog w).is (.inl i) (.int i t) = true := keyIs_int i t
theorem mixKind_str (prog : Program) (w : World) (x : Str) (t : Tok) : (mixKind prog w).is (.inr x) (.str x t) = true := keyIs_str x t
end L2

namespace L2
open PySem PySem.Spec PyProof.Rows

/-- a value, without the heap -/
inductive V where
  | non | bl (b : Bool) | int (i : Int) | str (x : Str) | byt (b : Array UInt8) | flt (b : UInt64) | ref (a : Addr) | ty (n : String)
  deriving DecidableEq

def RelV : V → Value → Prop
  | .non, u => u = Value.none
  | .bl b, u => u = Value.bool b
  | .int i, u => ∃ t, u = Value.int i t
  | .str x, u => ∃ t, u = Value.str x t
  | .byt b, u => ∃ t, u = Value.bytes b t
  | .flt b, u => ∃ t, u = Value.float b t
  | .ref a, u => u = Value.ref a
  | .ty n, u => u = Value.type n

abbrev Vals : List V → List Value → Prop := Paired RelV
theorem Vals.length {xs : List V} {us : List Value} (r : Vals xs us) : xs.length = us.length := Paired.length r
theorem Vals.get : ∀ {xs : List V} {us : List Value} {i : Nat} {x : V}, Vals xs us → xs[i]? = some x → ∃ u, us[i]? = some u ∧ RelV x u
  | _, _, _, _, .nil, e => by simp at e
  | _, _, 0, _, .cons r _, e => by simp at e; subst e; exact ⟨_, rfl, r⟩
  | _, _, i + 1, x, .cons _ t, e => by
    obtain ⟨u, h1, h2⟩ := Vals.get (i := i) (x := x) t (by simpa using e)
    exact ⟨u, by simpa using h1, h2⟩
theorem Vals.set {x : V} {u : Value} (r : RelV x u) : ∀ {xs : List V} {us : List Value} (i : Nat), Vals xs us → Vals (xs.set i x) (us.set i u)
  | _, _, _, .nil => .nil
  | _, _, 0, .cons _ t => .cons r t
  | _, _, i + 1, .cons q t => .cons q (Vals.set r i t)
theorem Vals.append : ∀ {xs ys : List V} {us ws : List Value}, Vals xs us → Vals ys ws → Vals (xs ++ ys) (us ++ ws)
  | _, _, _, _, .nil, s => s
  | _, _, _, _, .cons r t, s => .cons r (Vals.append t s)
theorem Vals.take : ∀ {xs : List V} {us : List Value} (n : Nat), Vals xs us → Vals (xs.take n) (us.take n)
  | _, _, 0, _ => .nil
  | _, _, _ + 1, .nil => .nil
  | _, _, n + 1, .cons r t => .cons r (Vals.take n t)
theorem Vals.drop : ∀ {xs : List V} {us : List Value} (n : Nat), Vals xs us → Vals (xs.drop n) (us.drop n)
  | _, _, 0, r => r
  | _, _, _ + 1, .nil => .nil
  | _, _, n + 1, .cons _ t => Vals.drop n t
theorem Vals.none_of : ∀ {xs : List V} {us : List Value} {i : Nat}, Vals xs us → xs[i]? = none → us[i]? = none := fun {xs us i} r e => by
  have h1 := r.length
  have h2 : xs.length ≤ i := List.getElem?_eq_none_iff.mp e
  exact List.getElem?_eq_none_iff.mpr (by omega)

def RelO : Option V → Option Value → Prop
  | some v, some u => RelV v u
  | none, none => True
  | _, _ => False
def KV {κ : Type} : List (κ × V) → List (κ × Value) → Prop := Paired fun (p : κ × V) (q : κ × Value) => p.1 = q.1 ∧ RelV p.2 q.2

/-- a key of a dict (00_mix): an int or a text -/
def kV : Key → V
  | .inl i => .int i
  | .inr x => .str x

/-- what stands at a tracked address -/
inductive HO where
  /-- a list -/
  | lst (xs : List V)
  /-- a tuple (never changes) -/
  | tup (xs : List V)
  /-- a dict whose keys are ints and texts; one whose keys are tuples of ints and texts (the empty one is both) -/
  | dK (kvs : List (Key × V)) | dT (kvs : List (List Key × V))
  /-- a set of ints: its members, its size -/
  | set (S : Int → Bool) (n : Nat)
  /-- an instance of the class at C, its dict at dx, its attributes -/
  | ins (C dx : Addr) (fs : List (Str × V))
  /-- the dict of the instance at x -/
  | own (x : Addr)
  /-- the dict of an exception -/
  | xd (fs : List (Str × V))
  /-- a bound method, f of x -/
  | met (f x : Addr)
  /-- a range object lo, lo + 1, .. below hi -/
  | rng (lo hi : Int)
  /-- a thing that is known to the object (the script; a dict while a loop walks it): read, never written while it is so -/
  | frz (o : Obj) (u : HO)
  /-- a code object's table -/
  | tbl (ps : Array Value)
  /-- any other thing, by what is true of its one object (a def of one's own: SetO a S n := HO.ext fun h => ..) -/
  | ext (φ : Heap → Prop)

abbrev Hp := Addr → Option HO
def upd (H : Hp) (a : Addr) (o : HO) : Hp := fun b => if b = a then some o else H b
theorem upd_same {H : Hp} {a : Addr} {o : HO} : upd H a o a = some o := by unfold upd; rw [if_pos rfl]
theorem upd_ne {H : Hp} {a b : Addr} {o : HO} (h : b ≠ a) : upd H a o b = H b := by unfold upd; rw [if_neg h]
theorem upd_upd {H : Hp} {a : Addr} {o u : HO} : upd (upd H a o) a u = upd H a u := by
  funext b; unfold upd; split <;> rfl
/-- two objects of different content stand apart -/
theorem ne_of {H : Hp} {a b : Addr} {o u : HO} (h : H a = some o) (h' : H b = some u) (d : o ≠ u) : a ≠ b := by
  intro e; subst e; rw [h] at h'; exact d (Option.some.inj h')
theorem ne_of_none {H : Hp} {a b : Addr} {o : HO} (h : H a = some o) (h' : H b = none) : a ≠ b := by
  intro e; subst e; rw [h] at h'; cases h'

section
variable (P : Program) (w : World)
def ObjOk (H : Hp) (h : Heap) (a : Addr) : HO → Prop
  | .lst xs => xs.length ≤ sizeLine ∧ ∃ (its : List Value) (n : Nat), Vals xs its ∧ h.get? a = some { cls := .type "list", data := .seq its.toArray n }
  | .tup xs => xs.length ≤ sizeLine ∧ ∃ its : List Value, Vals xs its ∧ IsTup h a its.toArray
  | .dK kvs => kvs.length ≤ sizeLine ∧ (a == sysModules) = false ∧ ∃ vs, KV kvs vs ∧ h.DictOf (mixKind P w) a vs
  | .dT kvs => kvs.length ≤ sizeLine ∧ (a == sysModules) = false ∧ ∃ xs : List (List Key × Addr × Value),
      Paired (fun (p : List Key × V) (q : List Key × Addr × Value) => p.1 = q.1 ∧ H q.2.1 = some (.tup (p.1.map kV)) ∧ RelV p.2 q.2.2) kvs xs ∧
      ∃ o es ep, h.get? a = some o ∧ o.ExactDict ∧ o.data = .dict es ep ∧ es.toList = xs.map (entryOfKey (tupleKind (mixKind P w))) ∧ (xs.map (·.1)).Nodup
  | .set S n => h.SetOf (intKind P w) a S n
  | .ins C dx fs => H dx = some (.own a) ∧ fs.length ≤ 1000 ∧ dx ≠ a ∧ h.get? a = some (PySem.W.instObj C dx) ∧
      ∃ mA, h.Ns1 dx mA ∧ (∀ f, RelO (fs.lookup f) (mA f)) ∧ PySem.Within mA (fs.map (·.1))
  | .own _ => ∃ o, h.get? a = some o
  | .xd fs => ∃ mA, h.Ns1 a mA ∧ ∀ f, RelO (fs.lookup f) (mA f)
  | .rng lo hi => ∃ t u v, h.get? a = some { cls := .type "range", data := .fields #[.int lo t, .int hi u, .int 1 v] }
  | .frz o u => h.get? a = some o ∧ ObjOk H h a u
  | .tbl ps => h.get? a = some { cls := .none, data := .fields ps }
  | .met f x => h.get? a = some (PySem.W.methodObj (.ref f) (.ref x))
  | .ext φ => φ h ∧ (∃ o, h.get? a = some o) ∧ ∀ h1 h2 : Heap, φ h1 → (∀ o, h1.get? a = some o → h2.get? a = some o) → φ h2
/-- the abstract heap is held -/
def HOk (H : Hp) (h : Heap) : Prop := ∀ a o, H a = some o → ObjOk P w H h a o
end

section
variable {P : Program} {w : World} {H H' : Hp} {h h' : Heap} {a : Addr} {o : HO}
theorem ObjOk.lt (x : ObjOk P w H h a o) : a < h.objs.size := by
  cases o with
  | lst xs => obtain ⟨_, _, _, _, e⟩ := x; exact Heap.lt_size e
  | tup xs => obtain ⟨_, _, _, p⟩ := x; exact p.lt
  | dK kvs => obtain ⟨_, _, _, _, o, _, _, e, _⟩ := x; exact Heap.lt_size e
  | dT kvs => obtain ⟨_, _, _, _, o, _, _, e, _⟩ := x; exact Heap.lt_size e
  | set S n => obtain ⟨o, _, _, _, e, _⟩ := x; exact Heap.lt_size e
  | ins C dx fs => obtain ⟨_, _, _, e, _⟩ := x; exact Heap.lt_size e
  | own y => obtain ⟨_, e⟩ := x; exact Heap.lt_size e
  | xd fs => obtain ⟨_, ⟨_, _, _, e, _⟩, _⟩ := x; exact Heap.lt_size e
  | rng lo hi => obtain ⟨_, _, _, e⟩ := x; exact Heap.lt_size e
  | frz ob u => obtain ⟨e, _⟩ := x; exact Heap.lt_size e
  | tbl ps => exact Heap.lt_size (show h.get? a = some _ from x)
  | met f y => exact Heap.lt_size (show h.get? a = some _ from x)
  | ext φ => obtain ⟨_, ⟨_, e⟩, _⟩ := x; exact Heap.lt_size e
theorem Paired.mapP {α β : Type} {F G : α → β → Prop} : ∀ {l₁ : List α} {l₂ : List β}, Paired F l₁ l₂ → (∀ a b, F a b → G a b) → Paired G l₁ l₂
  | _, _, .nil, _ => .nil
  | _, _, .cons r t, f => .cons (f _ _ r) (Paired.mapP t f)
theorem Paired.imp' {α β : Type} {F G : α → β → Prop} (f : ∀ a b, F a b → G a b) {l₁ : List α} {l₂ : List β} (r : Paired F l₁ l₂) : Paired G l₁ l₂ := Paired.mapP r f
/-- what an object's description leans on: its own object, its own dict, the tuples -/
theorem ObjOk.stay (x : ObjOk P w H h a o) (k : ∀ b u, (b = a ∨ H b = some (.own a)) → h.get? b = some u → h'.get? b = some u)
    (ho : ∀ b, H b = some (.own a) → H' b = some (.own a)) (ht : ∀ b xs, H b = some (.tup xs) → H' b = some (.tup xs)) : ObjOk P w H' h' a o := by
  induction o with
  | lst xs => obtain ⟨z, its, n, r, e⟩ := x; exact ⟨z, its, n, r, k _ _ (.inl rfl) e⟩
  | tup xs => obtain ⟨z, its, r, ob, e, c⟩ := x; exact ⟨z, its, r, ob, k _ _ (.inl rfl) e, c⟩
  | dK kvs => obtain ⟨z, y, vs, r, ob, es, ep, e, c⟩ := x; exact ⟨z, y, vs, r, ob, es, ep, k _ _ (.inl rfl) e, c⟩
  | dT kvs =>
    obtain ⟨z, y, xs, r, ob, es, ep, e, c⟩ := x
    exact ⟨z, y, xs, Paired.mapP r fun p q z => ⟨z.1, ht _ _ z.2.1, z.2.2⟩, ob, es, ep, k _ _ (.inl rfl) e, c⟩
  | set S n => obtain ⟨ob, es, ep, t, e, c⟩ := x; exact ⟨ob, es, ep, t, k _ _ (.inl rfl) e, c⟩
  | ins C dx fs =>
    obtain ⟨d, z, ne, e, mA, ⟨od, es, ep, e2, c⟩, r⟩ := x
    exact ⟨ho _ d, z, ne, k _ _ (.inl rfl) e, mA, ⟨od, es, ep, k _ _ (.inr d) e2, c⟩, r⟩
  | own y => obtain ⟨ob, e⟩ := x; exact ⟨ob, k _ _ (.inl rfl) e⟩
  | xd fs => obtain ⟨mA, ⟨od, es, ep, e, c⟩, r⟩ := x; exact ⟨mA, ⟨od, es, ep, k _ _ (.inl rfl) e, c⟩, r⟩
  | rng lo hi => obtain ⟨t, u, v, e⟩ := x; exact ⟨t, u, v, k _ _ (.inl rfl) e⟩
  | frz ob u ih => obtain ⟨e, q⟩ := x; exact ⟨k _ _ (.inl rfl) e, ih q⟩
  | tbl ps =>
    have e : h.get? a = some { cls := .none, data := .fields ps } := x
    show h'.get? a = some { cls := .none, data := .fields ps }
    exact k a _ (.inl rfl) e
  | met f y =>
    have e : h.get? a = some (PySem.W.methodObj (.ref f) (.ref y)) := x
    show h'.get? a = some (PySem.W.methodObj (.ref f) (.ref y))
    exact k a _ (.inl rfl) e
  | ext φ => obtain ⟨p, ⟨o, e⟩, st⟩ := x; exact ⟨st _ _ p fun o q => k _ _ (.inl rfl) q, ⟨o, k _ _ (.inl rfl) e⟩, st⟩
theorem HOk.lt (x : HOk P w H h) (e : H a = some o) : a < h.objs.size := (x a o e).lt
theorem HOk.fresh (x : HOk P w H h) (e : h.objs.size ≤ a) : H a = none := by
  cases q : H a with
  | none => rfl
  | some u => exact absurd (Nat.lt_of_lt_of_le (x.lt q) e) (Nat.lt_irrefl _)
/-- every object of the heap is kept -/
theorem HOk.kept (x : HOk P w H h) (k : ∀ b u, h.get? b = some u → h'.get? b = some u) : HOk P w H h' := fun a o e =>
  (x a o e).stay (fun b u _ q => k b u q) (fun _ q => q) fun _ _ q => q
/-- a new object is laid and tracked -/
theorem HOk.laid (x : HOk P w H h) (k : ∀ b u, h.get? b = some u → h'.get? b = some u) (hp : h.objs.size ≤ a) (new : ObjOk P w (upd H a o) h' a o) : HOk P w (upd H a o) h' := fun b u e => by
  have hn := x.fresh hp
  by_cases hb : b = a
  · subst hb; rw [upd_same] at e; cases e; exact new
  · rw [upd_ne hb] at e
    exact (x b u e).stay (fun c v _ q => k c v q) (fun c q => by rw [upd_ne (ne_of_none q hn)]; exact q) fun c xs q => by rw [upd_ne (ne_of_none q hn)]; exact q
end

/-- what may be read as u: it is u, or a known u -/
def Rd (H : Hp) (a : Addr) (u : HO) : Prop := H a = some u ∨ ∃ o, H a = some (.frz o u)
theorem Rd.of {H : Hp} {a : Addr} {u : HO} (h : H a = some u) : Rd H a u := .inl h
theorem Rd.ok {P : Program} {w : World} {H : Hp} {h : Heap} {a : Addr} {u : HO} (r : Rd H a u) (x : HOk P w H h) : ObjOk P w H h a u := by
  rcases r with r | ⟨o, r⟩
  · exact x a u r
  · obtain ⟨_, q⟩ := x a _ r
    exact q
/-- what may be written -/
def Mut : Option HO → Prop
  | some (.lst _) => True
  | some (.dK _) => True
  | some (.dT _) => True
  | some (.set _ _) => True
  | some (.ins _ _ _) => True
  | some (.ext _) => True
  | _ => False
section
variable {P : Program} {w : World} {H : Hp} {h h' : Heap} {x e : Addr} {o' : HO}
/-- the object at e is changed: x itself, or the dict of the instance x -/
theorem HOk.write (ok : HOk P w H h) (mu : Mut (H x)) (he : e = x ∨ H e = some (.own x)) (k : ∀ b u, b ≠ e → h.get? b = some u → h'.get? b = some u) (heo : ∃ u, h'.get? e = some u)
    (new : ObjOk P w (upd H x o') h' x o') : HOk P w (upd H x o') h' := fun b u q => by
  have nown : ∀ c y, H c = some (.own y) → c ≠ x := fun c y r z => by subst z; rw [r] at mu; exact mu
  have ntup : ∀ c xs, H c = some (.tup xs) → c ≠ x := fun c xs r z => by subst z; rw [r] at mu; exact mu
  by_cases hb : b = x
  · subst hb; rw [upd_same] at q; cases q; exact new
  · rw [upd_ne hb] at q
    by_cases hbe : b = e
    · have q' : H b = some (.own x) := by
        rcases he with z | z
        · exact absurd (hbe.trans z) hb
        · rw [hbe]; exact z
      rw [q] at q'; cases q'
      obtain ⟨v, hv⟩ := heo
      exact ⟨v, by rw [hbe]; exact hv⟩
    · refine (ok b u q).stay (fun c v hc r => k c v ?_ r) (fun c r => by rw [upd_ne (nown c b r)]; exact r) fun c xs r => by rw [upd_ne (ntup c xs r)]; exact r
      rcases hc with rfl | hc
      · exact hbe
      · rintro rfl
        rcases he with z | z
        · exact nown c b hc z
        · rw [hc] at z; cases z; exact hb rfl
end

/-! ### kept unless tracked; of the frames at fs (the callers') the slots may change (an exception that passes writes there); of the records at ex (iterators) nothing is said -/
structure Un (fs ex : List Addr) (H H' : Hp) (h h' : Heap) : Prop where
  keep : ∀ b o, h.get? b = some o → H b = none → b ∉ fs → b ∉ ex → h'.get? b = some o
  slot : ∀ b o, h.get? b = some o → H b = none → b ∈ fs → b ∉ ex → ∃ sl, h'.get? b = some { o with slots := sl }
  free : ∀ b o, h.get? b = some o → H b = none → b ∉ ex → H' b = none
  there : ∀ b o, h.get? b = some o → b ∉ ex → ∃ o', h'.get? b = some o'
  tups : ∀ b xs, H b = some (.tup xs) → H' b = some (.tup xs)
  frzs : ∀ b o u, H b = some (.frz o u) → H' b = some (.frz o u)
  tbls : ∀ b ps, H b = some (.tbl ps) → ∃ more, H' b = some (.tbl (ps ++ more))
section
variable {fs fs' ex ex' : List Addr} {H H1 H2 : Hp} {h h1 h2 h' : Heap} {a x e : Addr} {o : HO}
theorem Un.any (u : Un fs ex H H1 h h1) {b : Addr} {ob : Obj} (q : h.get? b = some ob) (n : H b = none) (hx : b ∉ ex) : ∃ sl, h1.get? b = some { ob with slots := sl } := by
  by_cases hb : b ∈ fs
  · exact u.slot b ob q n hb hx
  · exact ⟨ob.slots, u.keep b ob q n hb hx⟩
theorem Un.trans (a : Un fs ex H H1 h h1) (b : Un fs ex H1 H2 h1 h2) : Un fs ex H H2 h h2 where
  keep := fun c ob q n hc hx => b.keep c ob (a.keep c ob q n hc hx) (a.free c ob q n hx) hc hx
  slot := fun c ob q n hc hx => by
    obtain ⟨sl, e1⟩ := a.slot c ob q n hc hx
    obtain ⟨sl', e2⟩ := b.slot c _ e1 (a.free c ob q n hx) hc hx
    exact ⟨sl', e2⟩
  free := fun c ob q n hx => by
    obtain ⟨o', e1⟩ := a.there c ob q hx
    exact b.free c o' e1 (a.free c ob q n hx) hx
  there := fun c ob q hx => by
    obtain ⟨o', e1⟩ := a.there c ob q hx
    exact b.there c o' e1 hx
  tups := fun c xs q => b.tups c xs (a.tups c xs q)
  frzs := fun c ob xs q => b.frzs c ob xs (a.frzs c ob xs q)
  tbls := fun c ps q => by
    obtain ⟨m1, e1⟩ := a.tbls c ps q
    obtain ⟨m2, e2⟩ := b.tbls c _ e1
    exact ⟨m1 ++ m2, by rw [e2, Array.append_assoc]⟩
theorem Un.kept (k : ∀ b u, h.get? b = some u → h'.get? b = some u) : Un fs ex H H h h' :=
  ⟨fun b ob q _ _ _ => k b ob q, fun b ob q _ _ _ => ⟨ob.slots, k b ob q⟩, fun _ _ _ n _ => n, fun b ob q _ => ⟨ob, k b ob q⟩, fun _ _ q => q, fun _ _ _ q => q, fun _ ps q => ⟨#[], by rw [q]; simp⟩⟩
theorem Un.refl : Un fs ex H H h h := Un.kept fun _ _ q => q
theorem Un.laid (k : ∀ b u, h.get? b = some u → h'.get? b = some u) (hp : h.objs.size ≤ a) (hn : H a = none) : Un fs ex H (upd H a o) h h' where
  keep := fun b u q _ _ _ => k b u q
  slot := fun b u q _ _ _ => ⟨u.slots, k b u q⟩
  free := fun b u q n _ => by rw [upd_ne (Nat.ne_of_lt (Nat.lt_of_lt_of_le (Heap.lt_size q) hp))]; exact n
  there := fun b u q _ => ⟨u, k b u q⟩
  tups := fun b xs q => by rw [upd_ne (ne_of_none q hn)]; exact q
  frzs := fun b u xs q => by rw [upd_ne (ne_of_none q hn)]; exact q
  tbls := fun b ps q => ⟨#[], by rw [upd_ne (ne_of_none q hn), q]; simp⟩
theorem Un.write (mu : Mut (H x)) (he : e = x ∨ H e = some (.own x)) (k : ∀ b u, b ≠ e → h.get? b = some u → h'.get? b = some u) (heo : ∃ u, h'.get? e = some u) : Un fs ex H (upd H x o) h h' := by
  have hx : ∀ b, H b = none → b ≠ x := fun b n z => by subst z; rw [n] at mu; exact mu
  have hb : ∀ b, H b = none → b ≠ e := fun b n z => by
    subst z
    rcases he with r | r
    · exact hx b n r
    · rw [n] at r; cases r
  have hm : ∀ b u, H b = some u → ¬ Mut (some u) → b ≠ x := fun b u q nm z => by subst z; rw [q] at mu; exact nm mu
  refine ⟨fun b u q n _ _ => k b u (hb b n) q, fun b u q n _ _ => ⟨u.slots, k b u (hb b n) q⟩, fun b u q n _ => by rw [upd_ne (hx b n)]; exact n, fun b u q _ => ?_,
    fun b xs q => by rw [upd_ne (hm b _ q fun z => z)]; exact q, fun b u xs q => by rw [upd_ne (hm b _ q fun z => z)]; exact q, fun b ps q => ⟨#[], by rw [upd_ne (hm b _ q fun z => z), q]; simp⟩⟩
  by_cases hbe : b = e
  · subst hbe; exact heo
  · exact ⟨u, k b u hbe q⟩
theorem Un.mono (u : Un fs ex H H1 h h1) (hs : ∀ b ∈ fs, b ∈ fs') (hx : ∀ b ∈ ex, b ∈ ex') : Un fs' ex' H H1 h h1 :=
  ⟨fun b ob q n hb he => u.keep b ob q n (fun z => hb (hs b z)) fun z => he (hx b z), fun _ _ q n _ he => u.any q n fun z => he (hx _ z), fun b ob q n he => u.free b ob q n fun z => he (hx b z), fun b ob q he => u.there b ob q fun z => he (hx b z), u.tups, u.frzs, u.tbls⟩
end

/-! ### the heap without what is tracked -/
def trk (h : Heap) (H : Hp) : List Addr := (List.range h.objs.size).filter fun a => (H a).isSome
def hidT (h : Heap) (H : Hp) : Heap := PySem.W.hideAll h (trk h H)
theorem hidT_size (h : Heap) (H : Hp) : (hidT h H).objs.size = h.objs.size := PySem.W.hideAll_size _ _
theorem hidT_get {h : Heap} {H : Hp} {b : Addr} {o : Obj} (e : h.get? b = some o) (n : H b = none) : (hidT h H).get? b = some o :=
  PySem.W.hideAll_get _ e fun hm => by
    have q : (H b).isSome = true := (List.mem_filter.mp hm).2
    rw [n] at q; simp at q
theorem of_hidT {h : Heap} {H : Hp} {b : Addr} {o : Obj} (e : (hidT h H).get? b = some o) : h.get? b = some o ∧ H b = none := by
  have e' : h.get? b = some o := PySem.W.of_hideAll (trk h H) e
  refine ⟨e', ?_⟩
  cases q : H b with
  | none => rfl
  | some x =>
    have hm : b ∈ trk h H := List.mem_filter.mpr ⟨List.mem_range.mpr (Heap.lt_size e'), by simp [q]⟩
    have z : (hidT h H).get? b = none := PySem.W.hideAll_none (trk h H) hm
    rw [z] at e; cases e

/-! ### OpenK's ledger, filled with every new object but one -/
def allNews (g h : Heap) (L : Addr) : List (Addr × Obj) := (List.range h.objs.size).filterMap fun a => if a = L ∨ (g.get? a).isSome = true then none else (h.get? a).map fun o => (a, o)
theorem mem_allNews {g h : Heap} {L a : Addr} {o : Obj} (h1 : a ≠ L) (h2 : g.get? a = none) (h3 : h.get? a = some o) : (a, o) ∈ allNews g h L :=
  List.mem_filterMap.mpr ⟨a, List.mem_range.mpr (Heap.lt_size h3), by simp [h1, h2, h3]⟩
theorem of_mem_allNews {g h : Heap} {L : Addr} {p : Addr × Obj} (hp : p ∈ allNews g h L) : p.1 ≠ L ∧ g.get? p.1 = none ∧ h.get? p.1 = some p.2 := by
  obtain ⟨b, _, e⟩ := List.mem_filterMap.mp hp
  split at e
  · cases e
  · rename_i hn
    cases q : h.get? b with
    | none => rw [q] at e; simp at e
    | some u =>
      rw [q] at e
      simp only [Option.map_some, Option.some.injEq] at e
      subst e
      refine ⟨fun z => hn (.inl z), ?_, q⟩
      show g.get? b = none
      cases r : g.get? b with
      | none => rfl
      | some v => exact (hn (.inr (by simp [r]))).elim
def rest (g h : Heap) (L d : Addr) : List (Addr × Obj) := (allNews g h L).filter fun p => decide (p.1 ≠ d)
theorem rest_ne {g h : Heap} {L d : Addr} : ∀ p ∈ rest g h L d, p.1 ≠ d := fun p hp => of_decide_eq_true (List.mem_filter.mp hp).2
theorem mem_rest {g h : Heap} {L d a : Addr} {o : Obj} (h1 : a ≠ L) (h2 : g.get? a = none) (h3 : h.get? a = some o) (h4 : a ≠ d) : (a, o) ∈ rest g h L d :=
  List.mem_filter.mpr ⟨mem_allNews h1 h2 h3, decide_eq_true h4⟩
theorem news_all {g h : Heap} {L : Addr} : News g L h (allNews g h L) := fun p hp => let ⟨a, b, c⟩ := of_mem_allNews hp; ⟨c, a, b⟩
theorem news_at {g h : Heap} {L d : Addr} {o : Obj} (h1 : d ≠ L) (h2 : g.get? d = none) (h3 : h.get? d = some o) : News g L h ((d, o) :: rest g h L d) := fun p hp => by
  rcases List.mem_cons.mp hp with rfl | hp
  · exact ⟨h3, h1, h2⟩
  · exact news_all p (List.mem_filter.mp hp).1
/-- behind a rule that changed d alone: all else but the frame is kept -/
theorem kept_of_news {g h h' : Heap} {L d : Addr} {m : Str → Option Value} (k : ∀ b o, g.get? b = some o → h.get? b = some o) (F : Fr g L h' m) (N : News g L h' (rest g h L d)) :
    ∀ b o, b ≠ L → b ≠ d → h.get? b = some o → h'.get? b = some o := fun b o h1 h2 e => by
  cases q : g.get? b with
  | some u =>
    have := k b u q
    rw [e] at this; cases this
    exact F.keep b _ q
  | none => exact (N (b, o) (mem_rest h1 q e h2)).1
end L2

namespace L2
open PySem PySem.Spec PyProof.Rows

/-- the module's facts, over the base: the heap at the law's entry without what is tracked there -/
structure Mod (K : PySem.W.Frag) (mg : Str → Option Value) (base : Heap) : Prop where
  kin : K.In base
  glob : base.Ns mainGlobals mg
  blt : ∃ mb, base.Ns builtinsNs mb ∧ ∀ x : Str, x ≠ "__name__" → mb x = bootBuiltins x
  nolimit : base.NoLimit

/-- the context: a def's body (or a comprehension's block) running. base: fixed through the whole law; s₀, H₀: the entry; outer: the frames whose slots others may change (a def's callers); stack: all frames that run;
   ex: iterators that were made ahead of the entry and are walked here (a comprehension's); fn: the names whose cells were made at the entry (a def: all; a comprehension's block: its own); calm: not within an except suite; pn: pins that every state bears; xe: what is wanted of an exception that leaves the code -/
structure Cx where
  prog : Program
  w : World
  K : PySem.W.Frag
  mg : Str → Option Value
  base : Heap
  A : Around
  N : List Str
  s₀ : Shared
  H₀ : Hp
  env : Env
  outer : List Env
  stack : List Env
  ex : List Addr
  fn : Str → Bool
  calm : Bool
  pn : List (Addr × Obj)
  xe : Value → Shared → Prop
/-- the callers' frames -/
def frs (l : List Env) : List Addr := l.filterMap (·.frame)
abbrev Cx.fs (X : Cx) : List Addr := frs X.outer

def Vis (sc : Scope) (x : Str) : Prop := sc.names.lookup x = some .local ∨ sc.names.lookup x = some .cell ∨ sc.names.lookup x = some .free
def Loc (sc : Scope) (x : Str) : Prop := sc.names.lookup x = some .local ∨ sc.names.lookup x = some .cell
def Look (env : Env) (h : Heap) (m : Str → Option Value) (x : Str) (u : Value) : Prop :=
  (env.kindOf x = some .local ∧ m x = some u) ∨ ((env.kindOf x = some .cell ∨ env.kindOf x = some .free) ∧ ∃ c, env.cells.lookup x = some c ∧ h.IsCell c (some u))

structure Cx.Ok (X : Cx) : Prop where
  mod : Mod X.K X.mg X.base
  kind : X.env.scope.kind = .function
  glob : X.env.globals = mainGlobals
  blt : X.env.builtins = builtinsNs
  above : X.s₀.heap.objs.size ≤ X.env.locals
  inj : ∀ x y c, X.env.cells.lookup x = some c → X.env.cells.lookup y = some c → x = y
  has : ∀ x, (X.env.kindOf x = some .cell ∨ X.env.kindOf x = some .free) → ∃ c, X.env.cells.lookup x = some c
  cab : ∀ x c, X.fn x = true → X.env.cells.lookup x = some c → X.s₀.heap.objs.size ≤ c
  hd : X.calm = true → X.A.handled = none
  frames : X.A.frames = some X.stack
  stk : X.stack = X.outer ∨ (X.stack = X.env :: X.outer ∧ X.env.frame = some X.env.locals)
  exf : ∀ b ∈ X.ex, b ≠ X.env.locals ∧ ∀ x c, X.env.cells.lookup x = some c → c ≠ b
  bs : ∀ b o, X.base.get? b = some o → X.s₀.heap.get? b = some o ∧ X.H₀ b = none
  bsz : X.base.objs.size ≤ X.s₀.heap.objs.size
  noex : ∀ b o, X.base.get? b = some o → b ∉ X.ex
  exfs : ∀ b ∈ X.ex, b ∉ X.fs
  funs : X.s₀.heap.FunFrames X.base X.outer
  frf : ∀ b ∈ X.fs, X.H₀ b = none

structure Inv (X : Cx) (pins : List (Addr × Obj)) (σ : List (Option V)) (H : Hp) (s : Shared) : Prop where
  ok : X.Ok
  os : s.os = X.s₀.os
  bare : AllBare s.gens
  base : Un X.fs X.ex X.H₀ H X.s₀.heap s.heap
  loc : ∃ m, s.heap.Ns X.env.locals m ∧ ∀ (i : Nat) (x : Str) (v : V), X.N[i]? = some x → σ[i]? = some (some v) → Vis X.env.scope x → ∃ u, RelV v u ∧ Look X.env s.heap m x u
  cell : ∀ x c, X.env.cells.lookup x = some c → ∃ v, s.heap.IsCell c v
  free : H X.env.locals = none
  freeC : ∀ x c, X.env.cells.lookup x = some c → H c = none
  pin : ∀ p ∈ X.pn ++ pins, s.heap.get? p.1 = some p.2 ∧ H p.1 = none ∧ p.1 ≠ X.env.locals ∧ p.1 ∉ X.fs ∧ ∀ v, p.2.data ≠ .cell v
  hok : HOk X.prog X.w H s.heap
  len : σ.length = X.N.length

section
variable {X : Cx} {pins : List (Addr × Obj)} {σ : List (Option V)} {H H' : Hp} {s : Shared} {h' : Heap}

theorem Cx.Ok.nofr (ok : X.Ok) {b : Addr} {o : Obj} (e : X.base.get? b = some o) : b ∉ X.fs := fun hb => by
  have := (ok.funs.mem hb).1
  rw [e] at this; cases this
theorem Inv.bs (I : Inv X pins σ H s) : ∀ b o, X.base.get? b = some o → s.heap.get? b = some o ∧ H b = none := fun b o e =>
  ⟨I.base.keep b o (I.ok.bs b o e).1 (I.ok.bs b o e).2 (I.ok.nofr e) (I.ok.noex b o e), I.base.free b o (I.ok.bs b o e).1 (I.ok.bs b o e).2 (I.ok.noex b o e)⟩
theorem Inv.bk (I : Inv X pins σ H s) : ∀ b o, X.base.get? b = some o → s.heap.get? b = some o := fun b o e => (I.bs b o e).1
theorem Inv.mod (I : Inv X pins σ H s) : Mod X.K X.mg X.base := I.ok.mod
theorem Inv.kIn (I : Inv X pins σ H s) : X.K.In s.heap := I.ok.mod.kin.keeps I.bk
theorem Inv.nolimit (I : Inv X pins σ H s) : s.heap.NoLimit := I.ok.mod.nolimit.keeps I.bk
/-- the frame over the base: for OpenK's rules (K.In X.base is I.mod.kin) -/
theorem Inv.fr (I : Inv X pins σ H s) : ∃ m, Fr X.base X.env.locals s.heap m :=
  let ⟨m, hn, _⟩ := I.loc
  ⟨m, hn, I.bk, Nat.le_trans I.ok.bsz I.ok.above⟩
theorem Inv.lt (I : Inv X pins σ H s) : X.env.locals < s.heap.objs.size := let ⟨_, hn, _⟩ := I.loc; hn.lt
theorem Inv.sz (I : Inv X pins σ H s) : X.s₀.heap.objs.size ≤ s.heap.objs.size := Nat.le_trans I.ok.above (Nat.le_of_lt I.lt)
theorem Inv.nofs (I : Inv X pins σ H s) {a : Addr} (h : s.heap.objs.size ≤ a) : a ∉ X.fs := fun hb => by
  obtain ⟨_, o, ho, _⟩ := I.ok.funs.mem hb
  exact absurd (Nat.lt_of_lt_of_le (Heap.lt_size ho) (Nat.le_trans I.sz h)) (Nat.lt_irrefl _)
theorem Inv.cne (I : Inv X pins σ H s) : ∀ x c, X.env.cells.lookup x = some c → c ≠ X.env.locals := fun x c e z => by
  obtain ⟨v, o, ho, hd⟩ := I.cell x c e
  obtain ⟨m, ⟨o', es, ep, ho', hd', _⟩, _⟩ := I.loc
  rw [z, ho'] at ho; cases ho; rw [hd'] at hd; cases hd
theorem Inv.funs (I : Inv X pins σ H s) : s.heap.FunFrames X.base X.outer := by
  have all : ∀ (l : List Env), (∀ b ∈ frs l, b ∈ X.fs) → X.s₀.heap.FunFrames X.base l → s.heap.FunFrames X.base l := by
    intro l
    induction l with
    | nil => intro _ _; trivial
    | cons env r ih =>
      intro hs hl
      obtain ⟨hk, ⟨L, o, hf, hn, ho, hd⟩, hr⟩ := hl
      have hL : L ∈ X.fs := hs L (by unfold frs; rw [List.filterMap_cons, hf]; exact List.mem_cons_self)
      obtain ⟨sl, e⟩ := I.base.slot L o ho (I.ok.frf L hL) hL fun z => I.ok.exfs L z hL
      exact ⟨hk, ⟨L, _, hf, hn, e, hd⟩, ih (fun b hb => hs b (by unfold frs; rw [List.filterMap_cons, hf]; exact List.mem_cons_of_mem _ hb)) hr⟩
  exact all X.outer (fun _ hb => hb) I.ok.funs

/-- the frames that run, for a call -/
theorem Inv.stack (I : Inv X pins σ H s) : s.heap.FunFrames X.base X.stack := by
  rcases I.ok.stk with e | ⟨e, hf⟩
  · rw [e]; exact I.funs
  · rw [e]
    obtain ⟨m, hn, _⟩ := I.loc
    refine .cons (by rw [I.ok.kind]; decide) hf hn ?_ I.funs
    exact Heap.get?_none_of_le (Nat.le_trans I.ok.bsz I.ok.above)
theorem Inv.stkSub (I : Inv X pins σ H s) : ∀ b ∈ frs X.stack, b ∈ X.env.locals :: X.fs := fun b hb => by
  rcases I.ok.stk with e | ⟨e, hf⟩
  · rw [e] at hb; exact List.mem_cons_of_mem _ hb
  · rw [e] at hb
    unfold frs at hb
    rw [List.filterMap_cons, hf] at hb
    exact hb
theorem Inv.stkFree (I : Inv X pins σ H s) : ∀ b ∈ frs X.stack, H b = none := fun b hb => by
  rcases List.mem_cons.mp (I.stkSub b hb) with e | hb
  · rw [e]; exact I.free
  · obtain ⟨_, o, ho, _⟩ := I.ok.funs.mem hb
    exact I.base.free b o ho (I.ok.frf b hb) fun z => I.ok.exfs b z hb

/-- THE STEP: the untracked objects but the frame and the records at ch are kept (the callers' frames up to slots), the frame's map is kept, the new abstract heap is held -/
theorem Inv.step {g' : Array GenState} {t' : Nat} {d' : Drawn} {ch : List Addr} (I : Inv X pins σ H s)
    (hch : ∀ b ∈ ch, (b ∈ X.ex ∨ X.s₀.heap.objs.size ≤ b) ∧ b ≠ X.env.locals ∧ (∀ x c, X.env.cells.lookup x = some c → c ≠ b) ∧ ∀ p ∈ X.pn ++ pins, p.1 ≠ b)
    (keep : ∀ b o, b ≠ X.env.locals → b ∉ X.fs → b ∉ ch → s.heap.get? b = some o → H b = none → h'.get? b = some o)
    (slot : ∀ b o, b ≠ X.env.locals → b ∈ X.fs → b ∉ ch → s.heap.get? b = some o → H b = none → ∃ sl, h'.get? b = some { o with slots := sl }) (free : ∀ b o, b ∉ ch → s.heap.get? b = some o → H b = none → H' b = none)
    (there : ∀ b o, b ∉ ch → s.heap.get? b = some o → ∃ o', h'.get? b = some o')
    (tups : ∀ b xs, H b = some (.tup xs) → H' b = some (.tup xs)) (frzs : ∀ b o u, H b = some (.frz o u) → H' b = some (.frz o u)) (tbls : ∀ b ps, H b = some (.tbl ps) → ∃ more, H' b = some (.tbl (ps ++ more)))
    (ns : ∀ m, s.heap.Ns X.env.locals m → h'.Ns X.env.locals m) (hok : HOk X.prog X.w H' h') (hg : AllBare g') :
    Inv X pins σ H' { s with heap := h', gens := g', drawn := d', toks := t' } := by
  have neL : ∀ b o, X.s₀.heap.get? b = some o → b ≠ X.env.locals := fun b o e => Nat.ne_of_lt (Nat.lt_of_lt_of_le (Heap.lt_size e) I.ok.above)
  have neC : ∀ b o, X.s₀.heap.get? b = some o → b ∉ X.ex → b ∉ ch := fun b o e hx hb => by
    rcases (hch b hb).1 with z | z
    · exact hx z
    · exact absurd (Nat.lt_of_lt_of_le (Heap.lt_size e) z) (Nat.lt_irrefl _)
  have cellK : ∀ x c, X.env.cells.lookup x = some c → ∀ v, s.heap.IsCell c v → h'.IsCell c v := fun x c e v ⟨o, ho, hd⟩ => by
    have nch : c ∉ ch := fun z => (hch c z).2.2.1 x c e rfl
    by_cases hc : c ∈ X.fs
    · obtain ⟨sl, q⟩ := slot c o (I.cne x c e) hc nch ho (I.freeC x c e)
      exact ⟨_, q, hd⟩
    · exact ⟨o, keep c o (I.cne x c e) hc nch ho (I.freeC x c e), hd⟩
  refine ⟨I.ok, I.os, hg, ⟨fun b o e n hb hx => ?_, fun b o e n hb hx => ?_, fun b o e n hx => ?_, fun b o e hx => ?_, fun b xs e => tups b xs (I.base.tups b xs e), fun b o xs e => frzs b o xs (I.base.frzs b o xs e), fun b ps e => ?_⟩, ?_, fun x c e => ?_, ?_, fun x c e => ?_, fun p hp => ?_, hok, I.len⟩
  · exact keep b o (neL b o e) hb (neC b o e hx) (I.base.keep b o e n hb hx) (I.base.free b o e n hx)
  · obtain ⟨sl, e1⟩ := I.base.slot b o e n hb hx
    obtain ⟨sl', e2⟩ := slot b _ (neL b o e) hb (neC b o e hx) e1 (I.base.free b o e n hx)
    exact ⟨sl', e2⟩
  · obtain ⟨o', e1⟩ := I.base.there b o e hx
    exact free b o' (neC b o e hx) e1 (I.base.free b o e n hx)
  · obtain ⟨o', e1⟩ := I.base.there b o e hx
    exact there b o' (neC b o e hx) e1
  · obtain ⟨m1, e1⟩ := I.base.tbls b ps e
    obtain ⟨m2, e2⟩ := tbls b _ e1
    exact ⟨m1 ++ m2, by rw [e2, Array.append_assoc]⟩
  · obtain ⟨m, hn, hl⟩ := I.loc
    refine ⟨m, ns m hn, fun i x v e1 e2 e3 => ?_⟩
    obtain ⟨u, r, l⟩ := hl i x v e1 e2 e3
    refine ⟨u, r, ?_⟩
    rcases l with l | ⟨k, c, e, z⟩
    · exact .inl l
    · exact .inr ⟨k, c, e, cellK x c e _ z⟩
  · obtain ⟨v, z⟩ := I.cell x c e
    exact ⟨v, cellK x c e v z⟩
  · obtain ⟨m, ⟨o, _, _, ho, _⟩, _⟩ := I.loc
    exact free _ o (fun z => (hch _ z).2.1 rfl) ho I.free
  · obtain ⟨v, o, ho, hd⟩ := I.cell x c e
    exact free c o (fun z => (hch c z).2.2.1 x c e rfl) ho (I.freeC x c e)
  · obtain ⟨e, n, ne, nf, d⟩ := I.pin p hp
    have nch : p.1 ∉ ch := fun z => (hch p.1 z).2.2.2 p hp rfl
    exact ⟨keep p.1 p.2 ne nf nch e n, free p.1 p.2 nch e n, ne, nf, d⟩
/-- .. where the frame's own object is kept too -/
theorem Inv.un {t' : Nat} (I : Inv X pins σ H s) (u : Un X.fs [] H H' s.heap h') (hok : HOk X.prog X.w H' h') : Inv X pins σ H' { s with heap := h', toks := t' } := by
  obtain ⟨m, ⟨o, es, ep, ho, r⟩, _⟩ := id I.loc
  obtain ⟨sl, hL⟩ := u.any ho I.free (by simp)
  exact I.step (g' := s.gens) (d' := s.drawn) (ch := []) (fun _ z => nomatch z) (fun b o _ hb _ e n => u.keep b o e n hb (by simp)) (fun b o _ hb _ e n => u.slot b o e n hb (by simp)) (fun b o _ e n => u.free b o e n (by simp)) (fun b o _ e => u.there b o e (by simp)) u.tups u.frzs u.tbls (fun m' hm => by
    obtain ⟨o', es', ep', ho', r'⟩ := hm
    rw [ho] at ho'; cases ho'
    exact ⟨_, es', ep', hL, r'⟩) hok I.bare
/-- behind a call (or a comprehension's block): the slots of this frame may have changed too, the records at ch may have turned -/
theorem Inv.call {g' : Array GenState} {t' : Nat} {d' : Drawn} {ch : List Addr} (I : Inv X pins σ H s) (u : Un (frs X.stack) ch H H' s.heap h') (hok : HOk X.prog X.w H' h') (hg : AllBare g')
    (hch : ∀ b ∈ ch, (b ∈ X.ex ∨ X.s₀.heap.objs.size ≤ b) ∧ b ≠ X.env.locals ∧ (∀ x c, X.env.cells.lookup x = some c → c ≠ b) ∧ ∀ p ∈ X.pn ++ pins, p.1 ≠ b) :
    Inv X pins σ H' { s with heap := h', gens := g', drawn := d', toks := t' } := by
  obtain ⟨m, ⟨o, es, ep, ho, r⟩, _⟩ := id I.loc
  obtain ⟨sl, hL⟩ := u.any ho I.free fun z => (hch _ z).2.1 rfl
  exact I.step (ch := ch) hch (fun b o hL hb hc e n => u.keep b o e n (fun z => (List.mem_cons.mp (I.stkSub b z)).elim hL hb) hc) (fun b o _ _ hc e n => u.any e n hc) (fun b o hc e n => u.free b o e n hc) (fun b o hc e => u.there b o e hc) u.tups u.frzs u.tbls (fun m' hm => by
    obtain ⟨o', es', ep', ho', r'⟩ := hm
    rw [ho] at ho'; cases ho'
    exact ⟨_, es', ep', hL, r'⟩) hok hg
/-- an untracked record of ours (an iterator) has turned -/
theorem Inv.turned {t' : Nat} {it : Addr} (I : Inv X pins σ H s) (k : ∀ b o, b ≠ it → s.heap.get? b = some o → h'.get? b = some o) (hn : H it = none) (hL : it ≠ X.env.locals)
    (h1 : it ∈ X.ex ∨ X.s₀.heap.objs.size ≤ it) (h2 : ∀ x c, X.env.cells.lookup x = some c → c ≠ it) (h3 : ∀ p ∈ X.pn ++ pins, p.1 ≠ it) : Inv X pins σ H { s with heap := h', toks := t' } := by
  have nit : ∀ b u, H b = some u → b ≠ it := fun b u e z => by rw [z, hn] at e; cases e
  refine I.step (g' := s.gens) (d' := s.drawn) (ch := [it]) (fun b hb => ?_) (fun b o _ _ hc e _ => k b o (fun z => hc (by simp [z])) e) (fun b o _ _ hc e _ => ⟨o.slots, k b o (fun z => hc (by simp [z])) e⟩) (fun _ _ _ _ n => n)
    (fun b o hc e => ⟨o, k b o (fun z => hc (by simp [z])) e⟩) (fun _ _ e => e) (fun _ _ _ e => e) (fun b ps e => ⟨#[], by rw [e]; simp⟩) (fun m hm => ?_) (fun b u e => ?_) I.bare
  · have e : b = it := by simpa using hb
    subst e
    exact ⟨h1, hL, h2, h3⟩
  · obtain ⟨o, es, ep, ho, r⟩ := hm
    exact ⟨o, es, ep, k _ o (Ne.symm hL) ho, r⟩
  · refine (I.hok b u e).stay (fun c v hc q => k c v ?_ q) (fun _ q => q) fun _ _ q => q
    rcases hc with z | z
    · rw [z]; exact nit b u e
    · exact nit c _ z
theorem Inv.tok (I : Inv X pins σ H s) (t : Nat) : Inv X pins σ H { s with toks := t } := I.un (h' := s.heap) (t' := t) Un.refl I.hok
/-- all objects kept -/
theorem Inv.kept {t' : Nat} (I : Inv X pins σ H s) (k : ∀ b u, s.heap.get? b = some u → h'.get? b = some u) : Inv X pins σ H { s with heap := h', toks := t' } := I.un (Un.kept k) (I.hok.kept k)
/-- a new object laid and tracked -/
theorem Inv.laid {a : Addr} {o : HO} {t' : Nat} (I : Inv X pins σ H s) (k : ∀ b u, s.heap.get? b = some u → h'.get? b = some u) (hp : s.heap.objs.size ≤ a) (new : ObjOk X.prog X.w (upd H a o) h' a o) :
    Inv X pins σ (upd H a o) { s with heap := h', toks := t' } := I.un (Un.laid k hp (I.hok.fresh hp)) (I.hok.laid k hp new)
/-- an object written -/
theorem Inv.write {x e : Addr} {o : HO} {t' : Nat} (I : Inv X pins σ H s) (mu : Mut (H x)) (he : e = x ∨ H e = some (.own x)) (k : ∀ b u, b ≠ e → s.heap.get? b = some u → h'.get? b = some u) (heo : ∃ u, h'.get? e = some u)
    (new : ObjOk X.prog X.w (upd H x o) h' x o) : Inv X pins σ (upd H x o) { s with heap := h', toks := t' } := I.un (Un.write mu he k heo) (I.hok.write mu he k heo new)
/-- forgetting slots, pins -/
theorem Inv.weak {σ' : List (Option V)} (I : Inv X pins σ H s) (hl : σ'.length = σ.length) (w : ∀ (i : Nat) v, σ'[i]? = some (some v) → σ[i]? = some (some v)) : Inv X pins σ' H s :=
  ⟨I.ok, I.os, I.bare, I.base, let ⟨m, hn, hl'⟩ := I.loc; ⟨m, hn, fun i x v e1 e2 e3 => hl' i x v e1 (w i v e2) e3⟩, I.cell, I.free, I.freeC, I.pin, I.hok, hl.trans I.len⟩
theorem Inv.pins_of {pins' : List (Addr × Obj)} (I : Inv X pins σ H s) (h : ∀ p ∈ pins', s.heap.get? p.1 = some p.2 ∧ H p.1 = none ∧ p.1 ≠ X.env.locals ∧ p.1 ∉ X.fs ∧ ∀ v, p.2.data ≠ .cell v) : Inv X pins' σ H s :=
  ⟨I.ok, I.os, I.bare, I.base, I.loc, I.cell, I.free, I.freeC, fun p hp => (List.mem_append.mp hp).elim (fun z => I.pin p (List.mem_append_left _ z)) (h p), I.hok, I.len⟩

theorem nodup_ix {N : List Str} (hN : N.Nodup) {i j : Nat} {x : Str} (a : N[i]? = some x) (b : N[j]? = some x) : i = j := by
  obtain ⟨h1, e1⟩ := List.getElem?_eq_some_iff.mp a
  obtain ⟨h2, e2⟩ := List.getElem?_eq_some_iff.mp b
  exact (List.getElem_inj hN).mp (e1.trans e2.symm)

/-- a name is stored; what changed -/
theorem store_ok2 {M : Model} {A : Around} {E : Value → Shared → Prop} {i : Nat} {x : Str} {v : V} {u : Value} {Q : Unit → Shared → Prop} (I : Inv X pins σ H s) (hN : X.N.Nodup) (hi : X.N[i]? = some x) (hx : Loc X.env.scope x) (r : RelV v u)
    (h : ∀ s', Inv X pins (σ.set i (some v)) H s' → (∃ a, Heap.SameBut a s.heap s'.heap ∧ (a = X.env.locals ∨ X.env.cells.lookup x = some a)) → Q () s') (hf : X.fn x = true ∨ X.env.scope.names.lookup x = some .local := by first | exact .inl rfl | exact .inr rfl | assumption) : wpAny M A (storeName X.env x u) Q E s := by
  obtain ⟨m, hn, hl⟩ := id I.loc
  have hcls : (X.env.scope.kind == .class || (X.env.scope.kind == .module && X.env.locals != X.env.globals)) = false := by rw [I.ok.kind]; rfl
  have hiσ : i < σ.length := by rw [I.len]; exact (List.getElem?_eq_some_iff.mp hi).1
  have cne := I.cne
  have tracked : ∀ {a : Addr} {h' : Heap}, (∃ o, s.heap.get? a = some o ∧ H a = none) → Heap.SameBut a s.heap h' → HOk X.prog X.w H h' := fun {a h'} ha hs b ob e => by
    obtain ⟨_, _, hfree⟩ := ha
    refine (I.hok b ob e).stay (fun c w' hc q => (hs.2 c ?_).trans q) (fun _ q => q) fun _ _ q => q
    rintro rfl
    rcases hc with rfl | hc
    · rw [hfree] at e; cases e
    · rw [hfree] at hc; cases hc
  rcases hx with hk | hk
  · refine wpAny_storeName_local hk hn (fun h' hn' hs => ?_) hcls
    obtain ⟨oL, _, _, hoL, _⟩ := id hn
    refine h _ ⟨I.ok, I.os, I.bare, ⟨fun b o e n hb hx => ?_, fun b o e n hb hx => ?_, I.base.free, fun b o e hx => ?_, I.base.tups, I.base.frzs, I.base.tbls⟩, ⟨_, hn', fun j y v' e1 e2 e3 => ?_⟩, fun y c e => ?_, I.free, I.freeC, fun p hp => ?_, tracked ⟨oL, hoL, I.free⟩ hs, by simpa using I.len⟩ ⟨_, hs, .inl rfl⟩
    · exact (hs.2 b (Nat.ne_of_lt (Nat.lt_of_lt_of_le (Heap.lt_size e) I.ok.above))).trans (I.base.keep b o e n hb hx)
    · obtain ⟨sl, e1⟩ := I.base.slot b o e n hb hx
      exact ⟨sl, (hs.2 b (Nat.ne_of_lt (Nat.lt_of_lt_of_le (Heap.lt_size e) I.ok.above))).trans e1⟩
    · obtain ⟨o', e1⟩ := I.base.there b o e hx
      exact ⟨o', (hs.2 b (Nat.ne_of_lt (Nat.lt_of_lt_of_le (Heap.lt_size e) I.ok.above))).trans e1⟩
    · by_cases hj : j = i
      · subst hj
        rw [hi] at e1; cases e1
        rw [List.getElem?_set_self hiσ] at e2
        cases e2
        exact ⟨u, r, .inl ⟨hk, by simp⟩⟩
      · rw [List.getElem?_set_ne (Ne.symm hj)] at e2
        obtain ⟨u', r', q⟩ := hl j y v' e1 e2 e3
        refine ⟨u', r', ?_⟩
        rcases q with ⟨k, e⟩ | ⟨k, c, e, z⟩
        · refine .inl ⟨k, ?_⟩
          have : y ≠ x := fun e => hj (nodup_ix hN e1 (e ▸ hi))
          simp [this, e]
        · exact .inr ⟨k, c, e, z.sameBut hs (cne y c e)⟩
    · obtain ⟨w', z⟩ := I.cell y c e
      exact ⟨w', z.sameBut hs (cne y c e)⟩
    · obtain ⟨e, n, ne, nf, d⟩ := I.pin p hp
      exact ⟨(hs.2 p.1 ne).trans e, n, ne, nf, d⟩
  · have hfn : X.fn x = true := by
      rcases hf with z | z
      · exact z
      · rw [z] at hk; cases hk
    obtain ⟨c, hc⟩ := I.ok.has x (.inl hk)
    obtain ⟨w', z⟩ := I.cell x c hc
    refine wpAny_storeName_cell I.ok.kind hk hc z (fun h' hc' hs => ?_)
    obtain ⟨oc, hoc, hocd⟩ := id z
    refine h { s with heap := h' } ⟨I.ok, I.os, I.bare, ⟨fun b o e n hb hx => ?_, fun b o e n hb hx => ?_, I.base.free, fun b o e hx => ?_, I.base.tups, I.base.frzs, I.base.tbls⟩, ⟨m, hn.sameBut hs (Ne.symm (cne x c hc)), fun j y v' e1 e2 e3 => ?_⟩, fun y c' e => ?_, I.free, I.freeC, fun p hp => ?_, tracked ⟨oc, hoc, I.freeC x c hc⟩ hs, by simpa using I.len⟩ ⟨c, hs, .inr hc⟩
    · exact (hs.2 b (Nat.ne_of_lt (Nat.lt_of_lt_of_le (Heap.lt_size e) (I.ok.cab x c hfn hc)))).trans (I.base.keep b o e n hb hx)
    · obtain ⟨sl, e1⟩ := I.base.slot b o e n hb hx
      exact ⟨sl, (hs.2 b (Nat.ne_of_lt (Nat.lt_of_lt_of_le (Heap.lt_size e) (I.ok.cab x c hfn hc)))).trans e1⟩
    · obtain ⟨o', e1⟩ := I.base.there b o e hx
      exact ⟨o', (hs.2 b (Nat.ne_of_lt (Nat.lt_of_lt_of_le (Heap.lt_size e) (I.ok.cab x c hfn hc)))).trans e1⟩
    · by_cases hj : j = i
      · subst hj
        rw [hi] at e1; cases e1
        rw [List.getElem?_set_self hiσ] at e2
        cases e2
        exact ⟨u, r, .inr ⟨.inl hk, c, hc, hc'⟩⟩
      · rw [List.getElem?_set_ne (Ne.symm hj)] at e2
        obtain ⟨u', r', q⟩ := hl j y v' e1 e2 e3
        refine ⟨u', r', ?_⟩
        rcases q with q | ⟨k, c', e, z'⟩
        · exact .inl q
        · refine .inr ⟨k, c', e, z'.sameBut hs ?_⟩
          rintro rfl
          exact hj (nodup_ix hN e1 (I.ok.inj _ _ _ e hc ▸ hi))
    · by_cases hcc : c' = c
      · subst hcc; exact ⟨_, hc'⟩
      · obtain ⟨w2, z2⟩ := I.cell y c' e
        exact ⟨w2, z2.sameBut hs hcc⟩
    · obtain ⟨e, n, ne, nf, d⟩ := I.pin p hp
      refine ⟨(hs.2 p.1 ?_).trans e, n, ne, nf, d⟩
      intro q
      rw [q, hoc] at e
      have q' : oc = p.2 := Option.some.inj e
      exact d w' (by rw [← q']; exact hocd)
theorem store_ok {M : Model} {A : Around} {E : Value → Shared → Prop} {i : Nat} {x : Str} {v : V} {u : Value} {Q : Unit → Shared → Prop} (I : Inv X pins σ H s) (hN : X.N.Nodup) (hi : X.N[i]? = some x) (hx : Loc X.env.scope x) (r : RelV v u)
    (h : ∀ s', Inv X pins (σ.set i (some v)) H s' → Q () s') (hf : X.fn x = true ∨ X.env.scope.names.lookup x = some .local := by first | exact .inl rfl | exact .inr rfl | assumption) : wpAny M A (storeName X.env x u) Q E s :=
  store_ok2 I hN hi hx r (fun s' I' _ => h s' I') hf
/-- behind a call or a block, the state as it is -/
theorem Inv.call' {s' : Shared} {ch : List Addr} (I : Inv X pins σ H s) (ho : s'.os = s.os) (u : Un (frs X.stack) ch H H' s.heap s'.heap) (hok : HOk X.prog X.w H' s'.heap) (hg : AllBare s'.gens)
    (hch : ∀ b ∈ ch, (b ∈ X.ex ∨ X.s₀.heap.objs.size ≤ b) ∧ b ≠ X.env.locals ∧ (∀ x c, X.env.cells.lookup x = some c → c ≠ b) ∧ ∀ p ∈ X.pn ++ pins, p.1 ≠ b) : Inv X pins σ H' s' := by
  obtain ⟨h', g', d', t', o'⟩ := s'
  have e : o' = s.os := ho
  subst e
  exact I.call (g' := g') (t' := t') (d' := d') u hok hg hch
end

/-! ### the judgements -/
/-- an exception: its class, its own dict's address (where it has one), the abstract heap behind it -/
abbrev XK := Value → Option Addr → Hp → Prop
abbrev St := List (Option V)
abbrev VK := V → Hp → Prop
/-- an expression's reading; a test's; an argument list's -/
abbrev TE := St → Hp → VK → Prop
abbrev TT := St → Hp → (Bool → Hp → Prop) → Prop
abbrev TA := St → Hp → (List V → Hp → Prop) → Prop
/-- what is wanted behind a statement -/
structure Ends where
  nx : St → Hp → Prop
  rt : VK
  bk : St → Hp → Prop := fun _ _ => False
  ct : St → Hp → Prop := fun _ _ => False
abbrev TS := Ends → St → Hp → Prop

def EP (X : Cx) (pins : List (Addr × Obj)) (σ : St) (Q : VK) (u : Value) (s' : Shared) : Prop := ∃ v H', Inv X pins σ H' s' ∧ RelV v u ∧ Q v H'
def TP (X : Cx) (pins : List (Addr × Obj)) (σ : St) (Q : Bool → Hp → Prop) (b : Bool) (s' : Shared) : Prop := ∃ H', Inv X pins σ H' s' ∧ Q b H'
def AP (X : Cx) (pins : List (Addr × Obj)) (σ : St) (Q : List V → Hp → Prop) (us : List Value) (s' : Shared) : Prop := ∃ vs H', Inv X pins σ H' s' ∧ Vals vs us ∧ Q vs H'
def SP (X : Cx) (pins : List (Addr × Obj)) (D : Ends) (f : Flow) (s' : Shared) : Prop :=
  match f with
  | .next => ∃ σ' H', Inv X pins σ' H' s' ∧ D.nx σ' H'
  | .brk => ∃ σ' H', Inv X pins σ' H' s' ∧ D.bk σ' H'
  | .cont => ∃ σ' H', Inv X pins σ' H' s' ∧ D.ct σ' H'
  | .ret u => ∃ v σ' H', Inv X pins σ' H' s' ∧ RelV v u ∧ D.rt v H'

def PE (X : Cx) (e : Expr) (t : TE) : Prop :=
  ∀ (pins : List (Addr × Obj)) (s : Shared) (σ : St) (H : Hp) (Q : VK), Inv X pins σ H s → t σ H Q → wpAny (model X.prog X.w) X.A (eval e X.env) (EP X pins σ Q) X.xe s
def PT (X : Cx) (e : Expr) (t : TT) : Prop :=
  ∀ (pins : List (Addr × Obj)) (s : Shared) (σ : St) (H : Hp) (Q : Bool → Hp → Prop), Inv X pins σ H s → t σ H Q → wpAny (model X.prog X.w) X.A (isTrue e X.env (eval e X.env)) (TP X pins σ Q) X.xe s
/-- a test whatever its 'whole' is (and, or) -/
def PW (X : Cx) (e : Expr) (t : TT) : Prop :=
  ∀ (whole : Sem Value) (pins : List (Addr × Obj)) (s : Shared) (σ : St) (H : Hp) (Q : Bool → Hp → Prop), Inv X pins σ H s → t σ H Q → wpAny (model X.prog X.w) X.A (isTrue e X.env whole) (TP X pins σ Q) X.xe s
theorem PW.pt {X : Cx} {e : Expr} {t : TT} (h : PW X e t) : PT X e t := h _
/-- an argument list (no star), from the left -/
def PA (X : Cx) (es : List Expr) (t : TA) : Prop :=
  ∀ (pos : Pos) (pins : List (Addr × Obj)) (s : Shared) (σ : St) (H : Hp) (Q : List V → Hp → Prop), Inv X pins σ H s → t σ H Q → wpAny (model X.prog X.w) X.A (spliced (backTo pos (starEach es X.env))) (AP X pins σ Q) X.xe s
def PS (X : Cx) (st : Stmt) (t : TS) : Prop :=
  ∀ (pins : List (Addr × Obj)) (s : Shared) (σ : St) (H : Hp) (D : Ends), Inv X pins σ H s → t D σ H → wpAny (model X.prog X.w) X.A (exec st X.env) (SP X pins D) X.xe s
def PSs (X : Cx) (st : List Stmt) (t : TS) : Prop :=
  ∀ (pins : List (Addr × Obj)) (s : Shared) (σ : St) (H : Hp) (D : Ends), Inv X pins σ H s → t D σ H → wpAny (model X.prog X.w) X.A (execs st X.env) (SP X pins D) X.xe s
/-- weaken the end -/
theorem thn {α : Type} {t : Sem α} {Q Q' : α → Shared → Prop} {M : Model} {A : Around} {E : Value → Shared → Prop} {s : Shared} (h : wpAny M A t Q E s) (hQ : ∀ a s, Q a s → Q' a s) : wpAny M A t Q' E s := wpAny_mono h hQ fun _ _ x => x
end L2

namespace L2
open PySem PySem.Spec PyProof.Rows
section
variable {X : Cx}

/-- two expressions in a row -/
theorem bin {a b : Expr} {ta tb : TE} (ha : PE X a ta) (hb : PE X b tb) {pins : List (Addr × Obj)} {s : Shared} {σ : St} {H : Hp} {R : V → V → Hp → Prop} (I : Inv X pins σ H s) (h : ta σ H fun x H1 => tb σ H1 fun y H2 => R x y H2)
    {α : Type} {Q : α → Shared → Prop} {f : Value → Value → Sem α}
    (hf : ∀ v u s2 x y H2, Inv X pins σ H2 s2 → RelV x v → RelV y u → R x y H2 → wpAny (model X.prog X.w) X.A (f v u) Q X.xe s2) :
    wpAny (model X.prog X.w) X.A (eval a X.env) (fun v s₁ => wpAny (model X.prog X.w) X.A (eval b X.env) (fun u s₂ => wpAny (model X.prog X.w) X.A (f v u) Q X.xe s₂) X.xe s₁) X.xe s := by
  refine thn (ha pins s σ H _ I h) fun v s1 ⟨x, H1, I1, r1, q1⟩ => ?_
  refine thn (hb pins s1 σ H1 _ I1 q1) fun u s2 ⟨y, H2, I2, r2, q2⟩ => ?_
  exact hf v u s2 x y H2 I2 r1 r2 q2

/-! ### names and constants -/
def tVar (i : Nat) : TE := fun σ H Q => ∃ v, σ[i]? = some (some v) ∧ Q v H
def tC (v : V) : TE := fun _ H Q => Q v H
theorem pe_var {i : Nat} {x : Str} {pos : Pos} (hN : X.N[i]? = some x) (hv : Vis X.env.scope x) (hd : (x == ("__debug__" : Str)) = false := by decide) (hcd : (x == ("__classdict__" : Str)) = false := by decide) : PE X (.Name x pos) (tVar i) := by
  intro pins s σ H Q I h
  obtain ⟨v, e, h⟩ := h
  obtain ⟨m, hn, hl⟩ := I.loc
  obtain ⟨u, r, l⟩ := hl i x v hN e hv
  have fin : EP X pins σ Q u s := ⟨v, H, I, r, h⟩
  rcases l with ⟨hk, hm⟩ | ⟨hk, c, hc, hcell⟩
  · exact wpAny_Name (wpAny_loadName_local I.ok.kind hk hn hm fin) hd
  · rcases hk with hk | hk
    · exact wpAny_Name (wpAny_loadName_cell I.ok.kind hk hc hcell fin) hd
    · exact wpAny_Name (wpAny_loadName_free I.ok.kind hk hc hcell fin hcd) hd
theorem pe_int {i j pos} : PE X (.Constant (.int i) j pos) (tC (.int i)) := fun _ _ _ H _ I h => wpAny_Constant_int ⟨.int i, H, I.tok _, ⟨_, rfl⟩, h⟩
theorem pe_bl {b j pos} : PE X (.Constant (.bool b) j pos) (tC (.bl b)) := fun _ _ _ H _ I h => Constant_bool ⟨.bl b, H, I, rfl, h⟩
theorem pe_non {j pos} : PE X (.Constant .none j pos) (tC .non) := fun _ _ _ H _ I h => Constant_none ⟨.non, H, I, rfl, h⟩
theorem pe_str {x j pos} : PE X (.Constant (.str x) j pos) (tC (.str x)) := fun _ _ _ H _ I h => Calls.Constant_str ⟨.str x, H, I.tok _, ⟨_, rfl⟩, h⟩

/-- a global name of the def -/
def Gl (X : Cx) (x : Str) : Prop := X.env.kindOf x = some .globalImplicit
theorem ld_glob {E : Value → Shared → Prop} {pins : List (Addr × Obj)} {s : Shared} {σ : St} {H : Hp} {x : Str} {u : Value} {pos : Pos} {Q : Value → Shared → Prop} (I : Inv X pins σ H s) (hg : Gl X x) (hm : X.mg x = some u) (h : Q u s)
    (hd : (x == ("__debug__" : Str)) = false := by decide) : wpAny (model X.prog X.w) X.A (eval (.Name x pos) X.env) Q E s :=
  Calls.Name_function_global I.ok.kind hg (Calls.loadGlobal_global (by rw [I.ok.glob]; exact I.mod.glob.keeps I.bk) hm h) hd
theorem ld_blt {E : Value → Shared → Prop} {pins : List (Addr × Obj)} {s : Shared} {σ : St} {H : Hp} {x : Str} {u : Value} {pos : Pos} {Q : Value → Shared → Prop} (I : Inv X pins σ H s) (hg : Gl X x) (hm : X.mg x = none) (hv : bootBuiltins x = some u) (h : Q u s)
    (hn : x ≠ "__name__" := by decide) (hd : (x == ("__debug__" : Str)) = false := by decide) : wpAny (model X.prog X.w) X.A (eval (.Name x pos) X.env) Q E s := by
  obtain ⟨mb, h1, h2⟩ := I.mod.blt
  exact Calls.Name_function_global I.ok.kind hg (Calls.loadGlobal_builtin (by rw [I.ok.glob]; exact I.mod.glob.keeps I.bk) hm (by rw [I.ok.blt]; exact h1.keeps I.bk) ((h2 x hn).trans hv) h) hd
/-- a module's constant, a class, a function, as a value -/
theorem pe_glob {x : Str} {v : V} {u : Value} {pos : Pos} (hg : Gl X x) (hm : X.mg x = some u) (r : RelV v u) (hd : (x == ("__debug__" : Str)) = false := by decide) : PE X (.Name x pos) (tC v) :=
  fun _ _ _ H _ I h => ld_glob I hg hm ⟨v, H, I, r, h⟩ hd
theorem pe_bltn {x : Str} {v : V} {u : Value} {pos : Pos} (hg : Gl X x) (hm : X.mg x = none) (hv : bootBuiltins x = some u) (r : RelV v u) (hn : x ≠ "__name__" := by decide) (hd : (x == ("__debug__" : Str)) = false := by decide) : PE X (.Name x pos) (tC v) :=
  fun _ _ _ H _ I h => ld_blt I hg hm hv ⟨v, H, I, r, h⟩ hn hd

/-! ### arithmetic -/
/-- two ints -/
def t2I (ta tb : TE) (k : Int → Int → Hp → Prop) : St → Hp → Prop := fun σ H => ta σ H fun x H1 => tb σ H1 fun y H2 => ∃ i j, x = .int i ∧ y = .int j ∧ k i j H2
def tAdd (ta tb : TE) : TE := fun σ H Q => t2I ta tb (fun i j H2 => Q (.int (i + j)) H2) σ H
def tSub (ta tb : TE) : TE := fun σ H Q => t2I ta tb (fun i j H2 => Q (.int (i - j)) H2) σ H
/-- the left factor below 2^64 -/
def tMul (ta tb : TE) : TE := fun σ H Q => t2I ta tb (fun i j H2 => (-(2 ^ 64) < i ∧ i < 2 ^ 64) ∧ Q (.int (i * j)) H2) σ H
variable {a b : Expr} {ta tb : TE} {pos : Pos}
theorem pe_add (ha : PE X a ta) (hb : PE X b tb) : PE X (.BinOp a .Add b pos) (tAdd ta tb) := by
  intro pins s σ H Q I h
  refine wpAny_BinOp (bin ha hb I h fun v u s2 x y H2 I2 rx ry q => ?_)
  obtain ⟨i, j, rfl, rfl, q⟩ := q
  obtain ⟨t, rfl⟩ := rx
  obtain ⟨t', rfl⟩ := ry
  exact add_int ⟨.int _, H2, I2.tok _, ⟨_, rfl⟩, q⟩
theorem pe_sub (ha : PE X a ta) (hb : PE X b tb) : PE X (.BinOp a .Sub b pos) (tSub ta tb) := by
  intro pins s σ H Q I h
  refine wpAny_BinOp (bin ha hb I h fun v u s2 x y H2 I2 rx ry q => ?_)
  obtain ⟨i, j, rfl, rfl, q⟩ := q
  obtain ⟨t, rfl⟩ := rx
  obtain ⟨t', rfl⟩ := ry
  exact sub_int ⟨.int _, H2, I2.tok _, ⟨_, rfl⟩, q⟩
theorem pe_mul (ha : PE X a ta) (hb : PE X b tb) : PE X (.BinOp a .Mult b pos) (tMul ta tb) := by
  intro pins s σ H Q I h
  refine wpAny_BinOp (bin ha hb I h fun v u s2 x y H2 I2 rx ry q => ?_)
  obtain ⟨i, j, rfl, rfl, ⟨q1, q2⟩, q⟩ := q
  obtain ⟨t, rfl⟩ := rx
  obtain ⟨t', rfl⟩ := ry
  exact mul_int ⟨.int _, H2, I2.tok _, ⟨_, rfl⟩, q⟩ (.of_left (intBits_le_64 q1 q2))

/-! ### comparisons -/
def PC (X : Cx) (op : CmpOp) (a b : Expr) (t : TE) : Prop :=
  ∀ (pins : List (Addr × Obj)) (s : Shared) (σ : St) (H : Hp) (Q : VK), Inv X pins σ H s → t σ H Q →
    wpAny (model X.prog X.w) X.A (eval a X.env) (fun v s₁ => wpAny (model X.prog X.w) X.A (eval b X.env) (fun u s₂ => wpAny (model X.prog X.w) X.A (compareOp op v u) (EP X pins σ Q) X.xe s₂) X.xe s₁) X.xe s
theorem nobehind (b : Expr) {op : CmpOp} (h : op ≠ .In) (h2 : op ≠ .NotIn) : behindInMarks op b = false := by
  have e1 : (op == CmpOp.In) = false := by cases op <;> first | rfl | exact absurd rfl h
  have e2 : (op == CmpOp.NotIn) = false := by cases op <;> first | rfl | exact absurd rfl h2
  cases b <;> simp [behindInMarks, e1, e2]
def tCmp (p : Int → Int → Bool) (ta tb : TE) : TE := fun σ H Q => t2I ta tb (fun i j H2 => Q (.bl (p i j)) H2) σ H
abbrev tLt : TE → TE → TE := tCmp fun i j => decide (i < j)
abbrev tLe : TE → TE → TE := tCmp fun i j => decide (i ≤ j)
abbrev tGt : TE → TE → TE := tCmp fun i j => decide (j < i)
abbrev tGe : TE → TE → TE := tCmp fun i j => decide (j ≤ i)
abbrev tEqI : TE → TE → TE := tCmp fun i j => decide (i = j)
abbrev tNeI : TE → TE → TE := tCmp fun i j => !decide (i = j)
/-- a comparison of two ints, by its rule -/
theorem pc_int {op : CmpOp} {p : Int → Int → Bool} (ha : PE X a ta) (hb : PE X b tb)
    (rule : ∀ (i j : Int) (t u : Tok) (Q : Value → Shared → Prop) (s : Shared), Q (.bool (p i j)) s → wpAny (model X.prog X.w) X.A (compareOp op (.int i t) (.int j u)) Q X.xe s) : PC X op a b (tCmp p ta tb) := by
  intro pins s σ H Q I h
  refine bin ha hb I h fun v u s2 x y H2 I2 rx ry q => ?_
  obtain ⟨i, j, rfl, rfl, q⟩ := q
  obtain ⟨t, rfl⟩ := rx
  obtain ⟨t', rfl⟩ := ry
  exact rule i j t t' _ s2 ⟨.bl _, H2, I2, rfl, q⟩
theorem pc_lt (ha : PE X a ta) (hb : PE X b tb) : PC X .Lt a b (tLt ta tb) := pc_int ha hb fun _ _ _ _ _ _ h => lt_int h
theorem pc_le (ha : PE X a ta) (hb : PE X b tb) : PC X .LtE a b (tLe ta tb) := pc_int ha hb fun _ _ _ _ _ _ h => le_int h
theorem pc_gt (ha : PE X a ta) (hb : PE X b tb) : PC X .Gt a b (tGt ta tb) := pc_int ha hb fun _ _ _ _ _ _ h => gt_int h
theorem pc_ge (ha : PE X a ta) (hb : PE X b tb) : PC X .GtE a b (tGe ta tb) := pc_int ha hb fun _ _ _ _ _ _ h => ge_int h
theorem pc_eqI (ha : PE X a ta) (hb : PE X b tb) : PC X .Eq a b (tEqI ta tb) := pc_int ha hb fun _ _ _ _ _ _ h => eq_int (by rw [Bool.beq_eq_decide_eq]; exact h)
theorem pc_neI (ha : PE X a ta) (hb : PE X b tb) : PC X .NotEq a b (tNeI ta tb) := pc_int ha hb fun _ _ _ _ _ _ h => ne_int (by rw [bne, Bool.beq_eq_decide_eq]; exact h)
/-- is None -/
def tIsN (ta : TE) : TE := fun σ H Q => ta σ H fun x H1 => Q (.bl (decide (x = .non))) H1
def tNotN (ta : TE) : TE := fun σ H Q => ta σ H fun x H1 => Q (.bl (!decide (x = .non))) H1
theorem RelV.none_iff {x : V} {v : Value} (r : RelV x v) : (v == Value.none) = decide (x = .non) := by
  cases x with
  | non => cases r; rfl
  | bl _ => cases r; rfl
  | int _ => obtain ⟨t, rfl⟩ := r; rfl
  | str _ => obtain ⟨t, rfl⟩ := r; rfl
  | byt _ => obtain ⟨t, rfl⟩ := r; rfl
  | flt _ => obtain ⟨t, rfl⟩ := r; rfl
  | ref _ => cases r; rfl
  | ty _ => cases r; rfl
theorem pc_isN {j pos'} (ha : PE X a ta) : PC X .Is a (.Constant .none j pos') (tIsN ta) := by
  intro pins s σ H Q I h
  refine thn (ha pins s σ H _ I h) fun v s1 ⟨x, H1, I1, r1, q1⟩ => ?_
  exact Constant_none (is_none_gen ⟨.bl _, H1, I1, by rw [r1.none_iff]; rfl, q1⟩)
theorem pc_notN {j pos'} (ha : PE X a ta) : PC X .IsNot a (.Constant .none j pos') (tNotN ta) := by
  intro pins s σ H Q I h
  refine thn (ha pins s σ H _ I h) fun v s1 ⟨x, H1, I1, r1, q1⟩ => ?_
  exact Constant_none (isnot_none_gen ⟨.bl _, H1, I1, by rw [r1.none_iff]; rfl, q1⟩)
/-- a comparison as a value, as a test -/
def tB (t : TE) : TT := fun σ H Q => t σ H fun x H1 => ∃ c, x = .bl c ∧ Q c H1
theorem pe_cmp {op : CmpOp} {t : TE} (h : PC X op a b t) (h1 : behindInMarks op b = false := by first | exact nobehind _ (by decide) (by decide) | rfl) : PE X (.Compare a [op] [b] pos) t := fun pins s σ H Q I hw => wpAny_Compare1 (h pins s σ H Q I hw) h1
theorem pt_cmp {op : CmpOp} {t : TE} (h : PC X op a b t) (h1 : behindInMarks op b = false := by first | exact nobehind _ (by decide) (by decide) | rfl) : PT X (.Compare a [op] [b] pos) (tB t) := by
  intro pins s σ H Q I hw
  refine wpAny_isTrue_Compare1 (thn (h pins s σ H _ I hw) fun v s1 h1 => thn h1 fun u s2 h2 => thn h2 fun c s3 ⟨x, H1, I1, r1, q1⟩ => ?_) h1
  obtain ⟨d, rfl, q⟩ := q1
  cases r1
  exact wpAny_truthy_bool ⟨H1, I1, q⟩
/-- an expression whose value is a bool, as a test -/
theorem pt_val {e : Expr} {t : TE} (h : PE X e t) (he : ∀ whole, isTrue e X.env whole = (do let v ← whole; standAt e.pos; holding [v] (truthy v)) := by intro _; rfl) : PT X e (tB t) := by
  intro pins s σ H Q I hw
  refine isTrue_plain (thn (h pins s σ H _ I hw) fun v s1 ⟨x, H1, I1, r1, q1⟩ => ?_) (he _)
  obtain ⟨d, rfl, q⟩ := q1
  cases r1
  exact wpAny_truthy_bool ⟨H1, I1, q⟩

/-! ### and, or, not -/
variable {tA tB' : TT} {rest : List Expr}
def tAnd (t u : TT) : TT := fun σ H Q => t σ H fun c H1 => if c = true then u σ H1 Q else Q false H1
def tOr (t u : TT) : TT := fun σ H Q => t σ H fun c H1 => if c = true then Q true H1 else u σ H1 Q
def tNot (t : TT) : TT := fun σ H Q => t σ H fun c H1 => Q (!c) H1
theorem pw_and1 (ha : PT X a tA) : PW X (.BoolOp .And [a] pos) tA := by
  intro wh pins s σ H Q I h
  refine isTrue_and (thn (ha pins s σ H Q I h) fun c s1 e => ?_)
  cases c with
  | true => exact isTrue_and_nil e
  | false => exact e
theorem pw_or1 (ha : PT X a tA) : PW X (.BoolOp .Or [a] pos) tA := by
  intro wh pins s σ H Q I h
  refine isTrue_or (thn (ha pins s σ H Q I h) fun c s1 e => ?_)
  cases c with
  | false => exact isTrue_or_nil e
  | true => exact e
theorem pw_and (ha : PT X a tA) (hb : PW X (.BoolOp .And (b :: rest) pos) tB') : PW X (.BoolOp .And (a :: b :: rest) pos) (tAnd tA tB') := by
  intro wh pins s σ H Q I h
  refine isTrue_and (thn (ha pins s σ H _ I h) fun c s1 ⟨H1, I1, q1⟩ => ?_)
  cases c with
  | true => exact hb wh pins s1 σ H1 Q I1 q1
  | false => exact ⟨H1, I1, q1⟩
theorem pw_or (ha : PT X a tA) (hb : PW X (.BoolOp .Or (b :: rest) pos) tB') : PW X (.BoolOp .Or (a :: b :: rest) pos) (tOr tA tB') := by
  intro wh pins s σ H Q I h
  refine isTrue_or (thn (ha pins s σ H _ I h) fun c s1 ⟨H1, I1, q1⟩ => ?_)
  cases c with
  | true => exact ⟨H1, I1, q1⟩
  | false => exact hb wh pins s1 σ H1 Q I1 q1
theorem pt_not (ha : PT X a tA) : PT X (.UnaryOp .Not a pos) (tNot tA) := by
  intro pins s σ H Q I h
  exact isTrue_not (ha pins s σ H (fun c H1 => Q (!c) H1) I h)
/-- .. as values (bools) -/
def tAndV (ta tb : TE) : TE := fun σ H Q => ta σ H fun x H1 => ∃ c, x = .bl c ∧ if c = true then tb σ H1 Q else Q (.bl false) H1
def tOrV (ta tb : TE) : TE := fun σ H Q => ta σ H fun x H1 => ∃ c, x = .bl c ∧ if c = true then Q (.bl true) H1 else tb σ H1 Q
def tNotV (ta : TE) : TE := fun σ H Q => ta σ H fun x H1 => ∃ c, x = .bl c ∧ Q (.bl (!c)) H1
theorem pe_one {op} {t : TE} (h : PE X a t) : PE X (.BoolOp op [a] pos) t := fun pins s σ H Q I hw => BoolOp_one (h pins s σ H Q I hw)
theorem pe_and (ha : PE X a ta) (hb : PE X (.BoolOp .And (b :: rest) pos) tb) : PE X (.BoolOp .And (a :: b :: rest) pos) (tAndV ta tb) := by
  intro pins s σ H Q I h
  refine BoolOp_and (thn (ha pins s σ H _ I h) fun v s1 ⟨x, H1, I1, r1, q1⟩ => ?_)
  obtain ⟨c, rfl, q1⟩ := q1
  cases r1
  refine wpAny_truthy_bool ?_
  cases c with
  | true => exact hb pins s1 σ H1 Q I1 q1
  | false => exact ⟨.bl false, H1, I1, rfl, q1⟩
theorem pe_or (ha : PE X a ta) (hb : PE X (.BoolOp .Or (b :: rest) pos) tb) : PE X (.BoolOp .Or (a :: b :: rest) pos) (tOrV ta tb) := by
  intro pins s σ H Q I h
  refine BoolOp_or (thn (ha pins s σ H _ I h) fun v s1 ⟨x, H1, I1, r1, q1⟩ => ?_)
  obtain ⟨c, rfl, q1⟩ := q1
  cases r1
  refine wpAny_truthy_bool ?_
  cases c with
  | false => exact hb pins s1 σ H1 Q I1 q1
  | true => exact ⟨.bl true, H1, I1, rfl, q1⟩
theorem pe_not (ha : PE X a ta) : PE X (.UnaryOp .Not a pos) (tNotV ta) := by
  intro pins s σ H Q I h
  refine UnaryOp_ (thn (ha pins s σ H _ I h) fun v s1 ⟨x, H1, I1, r1, q1⟩ => ?_)
  obtain ⟨c, rfl, q1⟩ := q1
  cases r1
  exact not_of (wpAny_truthy_bool ⟨.bl (!c), H1, I1, rfl, q1⟩)
/-- a if t else b -/
def tIf (t : TT) (ta tb : TE) : TE := fun σ H Q => t σ H fun c H1 => if c = true then ta σ H1 Q else tb σ H1 Q
theorem pe_ifExp {c : Expr} (hc : PT X c tA) (ha : PE X a ta) (hb : PE X b tb) : PE X (.IfExp c a b pos) (tIf tA ta tb) := by
  intro pins s σ H Q I h
  refine wpAny_IfExp (thn (hc pins s σ H _ I h) fun d s1 ⟨H1, I1, q1⟩ => ?_)
  cases d with
  | true => exact ha pins s1 σ H1 Q I1 q1
  | false => exact hb pins s1 σ H1 Q I1 q1
end
end L2

namespace L2
open PySem PySem.Spec PyProof.Rows

/-! ### a list, a tuple that is read: tracked, frozen, or an object of the module -/
def SqL (K : PySem.W.Frag) (H : Hp) (a : Addr) (xs : List V) : Prop :=
  Rd H a (.lst xs) ∨
    ∃ (o : Obj) (its : Array Value) (n : Nat), K.lookup a = some o ∧ o.cls = .type "list" ∧ o.dict = none ∧ o.data = .seq its n ∧ its.size ≤ sizeLine ∧ Vals xs its.toList
def SqT (K : PySem.W.Frag) (H : Hp) (a : Addr) (xs : List V) : Prop :=
  Rd H a (.tup xs) ∨
    ∃ (o : Obj) (its : Array Value) (n : Nat), K.lookup a = some o ∧ o.cls = .type "tuple" ∧ o.data = .seq its n ∧ its.size ≤ sizeLine ∧ Vals xs its.toList
def absV : Value → Option V
  | .none => some .non
  | .bool b => some (.bl b)
  | .int i _ => some (.int i)
  | .str x _ => some (.str x)
  | .bytes b _ => some (.byt b)
  | .float b _ => some (.flt b)
  | .ref a => some (.ref a)
  | .type n => some (.ty n)
  | _ => none
theorem RelV.abs {x : V} {u : Value} (r : RelV x u) : absV u = some x := by
  cases x with
  | non => cases r; rfl
  | bl _ => cases r; rfl
  | int _ => obtain ⟨t, rfl⟩ := r; rfl
  | str _ => obtain ⟨t, rfl⟩ := r; rfl
  | byt _ => obtain ⟨t, rfl⟩ := r; rfl
  | flt _ => obtain ⟨t, rfl⟩ := r; rfl
  | ref _ => cases r; rfl
  | ty _ => cases r; rfl
theorem RelV.inj {x y : V} {u : Value} (r : RelV x u) (q : RelV y u) : x = y := Option.some.inj (r.abs.symm.trans q.abs)
theorem Vals.inj : ∀ {xs ys : List V} {us : List Value}, Vals xs us → Vals ys us → xs = ys
  | _, _, _, .nil, .nil => rfl
  | _, _, _, .cons r t, .cons r' t' => by rw [r.inj r', Vals.inj t t']
section
variable {X : Cx} {pins : List (Addr × Obj)} {σ : St} {H : Hp} {s : Shared} {a : Addr} {xs ys : List V}
theorem SqL.of {K : PySem.W.Frag} (h : H a = some (.lst xs)) : SqL K H a xs := .inl (.inl h)
theorem SqT.of {K : PySem.W.Frag} (h : H a = some (.tup xs)) : SqT K H a xs := .inl (.inl h)
theorem Inv.list (I : Inv X pins σ H s) (h : SqL X.K H a xs) : ∃ its : List Value, Vals xs its ∧ PlainL s.heap a its.toArray ∧ xs.length ≤ sizeLine := by
  rcases h with h | ⟨o, its, n, hk, hc, hd, hs, hz, r⟩
  · obtain ⟨z, its, n, r, e⟩ := h.ok I.hok
    exact ⟨its, r, ⟨_, n, e, rfl, rfl, rfl⟩, z⟩
  · refine ⟨its.toList, r, ⟨o, n, I.kIn a o hk, hc, hd, by simpa using hs⟩, ?_⟩
    have e := r.length
    simp only [Array.length_toList] at e
    omega
theorem Inv.tuple (I : Inv X pins σ H s) (h : SqT X.K H a xs) : ∃ its : List Value, Vals xs its ∧ IsTup s.heap a its.toArray ∧ xs.length ≤ sizeLine := by
  rcases h with h | ⟨o, its, n, hk, hc, hs, hz, r⟩
  · obtain ⟨z, its, r, p⟩ := h.ok I.hok
    exact ⟨its, r, p, z⟩
  · refine ⟨its.toList, r, ⟨o, I.kIn a o hk, hc, n, by simpa using hs⟩, ?_⟩
    have e := r.length
    simp only [Array.length_toList] at e
    omega
theorem Inv.list_inj (I : Inv X pins σ H s) (h : SqL X.K H a xs) (h' : SqL X.K H a ys) : xs = ys := by
  obtain ⟨its, r, ⟨o, n, e, _, _, d⟩, _⟩ := I.list h
  obtain ⟨its', r', ⟨o', n', e', _, _, d'⟩, _⟩ := I.list h'
  rw [e] at e'; cases e'
  rw [d] at d'
  injection d' with d1 _
  have : its = its' := by simpa using congrArg Array.toList d1
  subst this
  exact r.inj r'
theorem Inv.tuple_inj (I : Inv X pins σ H s) (h : SqT X.K H a xs) (h' : SqT X.K H a ys) : xs = ys := by
  obtain ⟨its, r, ⟨o, e, _, n, d⟩, _⟩ := I.tuple h
  obtain ⟨its', r', ⟨o', e', _, n', d'⟩, _⟩ := I.tuple h'
  rw [e] at e'; cases e'
  rw [d] at d'
  injection d' with d1 _
  have : its = its' := by simpa using congrArg Array.toList d1
  subst this
  exact r.inj r'
end

/-! ### another wish about exceptions -/
abbrev Cx.wish (X : Cx) (E : Value → Shared → Prop) : Cx := { X with xe := E }
/-- no exception leaves -/
abbrev Cx.nox (X : Cx) : Cx := X.wish fun _ _ => False
theorem Cx.Ok.wish {X : Cx} (ok : X.Ok) (E : Value → Shared → Prop) : (X.wish E).Ok :=
  ⟨ok.mod, ok.kind, ok.glob, ok.blt, ok.above, ok.inj, ok.has, ok.cab, ok.hd, ok.frames, ok.stk, ok.exf, ok.bs, ok.bsz, ok.noex, ok.exfs, ok.funs, ok.frf⟩
theorem Cx.Ok.unwish {X : Cx} {E : Value → Shared → Prop} (ok : (X.wish E).Ok) : X.Ok :=
  ⟨ok.mod, ok.kind, ok.glob, ok.blt, ok.above, ok.inj, ok.has, ok.cab, ok.hd, ok.frames, ok.stk, ok.exf, ok.bs, ok.bsz, ok.noex, ok.exfs, ok.funs, ok.frf⟩
section
variable {X : Cx} {pins : List (Addr × Obj)} {σ : St} {H : Hp} {s : Shared} {E : Value → Shared → Prop}
theorem Inv.wish (I : Inv X pins σ H s) (E : Value → Shared → Prop) : Inv (X.wish E) pins σ H s := ⟨I.ok.wish E, I.os, I.bare, I.base, I.loc, I.cell, I.free, I.freeC, I.pin, I.hok, I.len⟩
theorem Inv.unwish (I : Inv (X.wish E) pins σ H s) : Inv X pins σ H s := ⟨I.ok.unwish, I.os, I.bare, I.base, I.loc, I.cell, I.free, I.freeC, I.pin, I.hok, I.len⟩
theorem SP.unwish {D : Ends} {f : Flow} {s' : Shared} (h : SP (X.wish E) pins D f s') : SP X pins D f s' := by
  cases f with
  | next => obtain ⟨σ', H', I, q⟩ := h; exact ⟨σ', H', I.unwish, q⟩
  | brk => obtain ⟨σ', H', I, q⟩ := h; exact ⟨σ', H', I.unwish, q⟩
  | cont => obtain ⟨σ', H', I, q⟩ := h; exact ⟨σ', H', I.unwish, q⟩
  | ret u => obtain ⟨v, σ', H', I, r, q⟩ := h; exact ⟨v, σ', H', I.unwish, r, q⟩
theorem PE.nox {e : Expr} {t : TE} (h : PE X.nox e t) : PE X e t := fun pins s σ H Q I hw =>
  wpAny_mono (h pins s σ H Q (I.wish _) hw) (fun _ _ ⟨v, H', I', r, q⟩ => ⟨v, H', I'.unwish, r, q⟩) fun _ _ z => False.elim z
theorem PT.nox {e : Expr} {t : TT} (h : PT X.nox e t) : PT X e t := fun pins s σ H Q I hw =>
  wpAny_mono (h pins s σ H Q (I.wish _) hw) (fun _ _ ⟨H', I', q⟩ => ⟨H', I'.unwish, q⟩) fun _ _ z => False.elim z
theorem PSs.nox {st : List Stmt} {t : TS} (h : PSs X.nox st t) : PSs X st t := fun pins s σ H D I hw =>
  wpAny_mono (h pins s σ H D (I.wish _) hw) (fun _ _ q => q.unwish) fun _ _ z => False.elim z
end

/-! ### blocks and small statements -/
section
variable {X : Cx} {st : Stmt} {rest : List Stmt} {t u : TS} {e : Expr} {te : TE} {pos : Pos}
def tNext : TS := fun D σ H => D.nx σ H
def tSeq (t u : TS) : TS := fun D σ H => t { D with nx := u D } σ H
theorem pss_nil : PSs X [] tNext := fun _ _ σ H _ I h => wpAny_execs_nil ⟨σ, H, I, h⟩
theorem pss_cons (h1 : PS X st t) (h2 : PSs X rest u) : PSs X (st :: rest) (tSeq t u) := by
  intro pins s σ H D I h
  refine wpAny_execs_cons (thn (h1 pins s σ H { D with nx := u D } I h) fun f s1 q => ?_)
  cases f with
  | next =>
    obtain ⟨σ', H', I', q⟩ := q
    exact h2 pins s1 σ' H' D I' q
  | ret v => exact q
  | brk => exact q
  | cont => exact q
theorem pss_one (h1 : PS X st t) : PSs X [st] t := by
  intro pins s σ H D I h
  refine wpAny_execs_cons (thn (h1 pins s σ H D I h) fun f s1 q => ?_)
  cases f with
  | next => exact wpAny_execs_nil q
  | ret v => exact q
  | brk => exact q
  | cont => exact q
def tBreak : TS := fun D σ H => D.bk σ H
def tCont : TS := fun D σ H => D.ct σ H
theorem ps_pass : PS X (.Pass pos) tNext := fun _ _ σ H _ I h => wpAny_Pass ⟨σ, H, I, h⟩
theorem ps_break : PS X (.Break pos) tBreak := fun _ _ σ H _ I h => wpAny_Break ⟨σ, H, I, h⟩
theorem ps_continue : PS X (.Continue pos) tCont := fun _ _ σ H _ I h => wpAny_Continue ⟨σ, H, I, h⟩
/-- in a def's body nothing is shown -/
theorem Inv.quiet {pins : List (Addr × Obj)} {σ : St} {H : Hp} {s : Shared} (I : Inv X pins σ H s) : interactive X.env = false := by simp [interactive, I.ok.kind]
/-- a docstring -/
theorem ps_doc {x j pos pos'} : PS X (.Expr (.Constant (.str x) j pos) pos') tNext := fun _ s σ H _ I h => wpAny_Expr (Calls.Constant_str (show SP X _ _ .next { s with toks := s.toks + 1 } from ⟨σ, H, I.tok _, h⟩)) I.quiet
/-- an expression whose value is dropped -/
def tDrop (te : TE) : TS := fun D σ H => te σ H fun _ H1 => D.nx σ H1
theorem ps_expr (he : PE X e te) (hs : swapsWith e none pos.line X.env = pure false := by rfl) : PS X (.Expr e pos) (tDrop te) := by
  intro pins s σ H D I h
  exact wpAny_Expr_any (thn (he pins s σ H _ I h) fun v s1 ⟨x, H1, I1, r1, q1⟩ => ⟨σ, H1, I1, q1⟩) I.quiet hs
def tRet (te : TE) : TS := fun D σ H => te σ H D.rt
theorem ps_ret (he : PE X e te) : PS X (.Return (some e) pos) (tRet te) := by
  intro pins s σ H D I h
  exact wpAny_Return_some (thn (he pins s σ H _ I h) fun v s1 ⟨x, H1, I1, r1, q1⟩ => ⟨x, σ, H1, I1, r1, q1⟩)
def tRetN : TS := fun D _ H => D.rt .non H
theorem ps_retN : PS X (.Return none pos) tRetN := fun _ _ σ H _ I h => wpAny_Return_none ⟨.non, σ, H, I, rfl, h⟩
def tIfS (c : TT) (t u : TS) : TS := fun D σ H => c σ H fun b H1 => if b = true then t D σ H1 else u D σ H1
theorem ps_if {c : Expr} {a b : List Stmt} {tc : TT} (hc : PT X c tc) (ha : PSs X a t) (hb : PSs X b u) : PS X (.If c a b pos) (tIfS tc t u) := by
  intro pins s σ H D I h
  refine wpAny_If (thn (hc pins s σ H _ I h) fun d s1 ⟨H1, I1, q1⟩ => ?_)
  cases d with
  | true => exact ha pins s1 σ H1 D I1 q1
  | false => exact hb pins s1 σ H1 D I1 q1
/-- code that the proof never comes to -/
def tNever : TS := fun _ _ _ => False
theorem ps_never : PS X st tNever := fun _ _ _ _ _ _ h => h.elim
theorem pss_never {sts : List Stmt} : PSs X sts tNever := fun _ _ _ _ _ _ h => h.elim
end

/-! ### targets -/
abbrev TG := V → St → Hp → (St → Hp → Prop) → Prop
abbrev TGs := List V → St → Hp → (St → Hp → Prop) → Prop
def PG (X : Cx) (target : Expr) (t : TG) : Prop :=
  ∀ (pins : List (Addr × Obj)) (s : Shared) (σ : St) (H : Hp) (v : V) (u : Value) (Q : St → Hp → Prop), Inv X pins σ H s → RelV v u → t v σ H Q →
    wpAny (model X.prog X.w) X.A (assign target X.env u) (fun _ s' => ∃ σ' H', Inv X pins σ' H' s' ∧ Q σ' H') X.xe s
/-- several targets, one after another -/
def PGs (X : Cx) (ts : List Expr) (t : TGs) : Prop :=
  ∀ (pins : List (Addr × Obj)) (s : Shared) (σ : St) (H : Hp) (vs : List V) (us : List Value) (Q : St → Hp → Prop), Inv X pins σ H s → Vals vs us → t vs σ H Q →
    wpAny (model X.prog X.w) X.A (assignInOrder ((assignEach ts X.env).map (·.2)) us) (fun _ s' => ∃ σ' H', Inv X pins σ' H' s' ∧ Q σ' H') X.xe s
/-- o[i] = v, by values -/
abbrev TSet := V → V → V → Hp → (Hp → Prop) → Prop
def PSet (X : Cx) (t : TSet) : Prop :=
  ∀ (pins : List (Addr × Obj)) (s : Shared) (σ : St) (H : Hp) (o i v : V) (ov iv u : Value) (Q : Hp → Prop), Inv X pins σ H s → RelV o ov → RelV i iv → RelV v u → t o i v H Q →
    wpAny (model X.prog X.w) X.A (setItem ov iv u) (fun _ s' => ∃ H', Inv X pins σ H' s' ∧ Q H') X.xe s
/-- a op= b, by values -/
abbrev TIp := V → V → Hp → VK → Prop
def PIp (X : Cx) (op : Operator) (t : TIp) : Prop :=
  ∀ (pins : List (Addr × Obj)) (s : Shared) (σ : St) (H : Hp) (x y : V) (v u : Value) (Q : VK), Inv X pins σ H s → RelV x v → RelV y u → t x y H Q →
    wpAny (model X.prog X.w) X.A (inplaceOp op v u) (EP X pins σ Q) X.xe s
section
variable {X : Cx} {pos : Pos}
def gName (i : Nat) : TG := fun v σ H Q => Q (σ.set i (some v)) H
theorem pg_name {i : Nat} {x : Str} (hN : X.N.Nodup) (hi : X.N[i]? = some x) (hx : Loc X.env.scope x) (hf : X.fn x = true ∨ X.env.scope.names.lookup x = some .local := by first | exact .inl rfl | exact .inr rfl | assumption) : PG X (.Name x pos) (gName i) := by
  intro pins s σ H v u Q I r h
  exact wpAny_assign_Name (store_ok I hN hi hx r (fun s' I' => ⟨_, H, I', h⟩) hf)
def gNil : TGs := fun vs σ H Q => vs = [] ∧ Q σ H
def gCons (t : TG) (u : TGs) : TGs := fun vs σ H Q => ∃ v r, vs = v :: r ∧ t v σ H fun σ' H' => u r σ' H' Q
theorem pgs_nil : PGs X [] gNil := by
  intro pins s σ H vs us Q I r h
  obtain ⟨e, h⟩ := h
  subst e
  cases r
  exact assignInOrder_nil ⟨σ, H, I, h⟩
theorem pgs_cons {e : Expr} {es : List Expr} {t : TG} {u : TGs} (h1 : PG X e t) (h2 : PGs X es u)
    (hs : (assignEach (e :: es) X.env).map (·.2) = assign e X.env :: (assignEach es X.env).map (·.2) := by rfl) : PGs X (e :: es) (gCons t u) := by
  intro pins s σ H vs us Q I r h
  obtain ⟨v, vr, e1, h⟩ := h
  subst e1
  cases r with
  | cons r rr =>
    rw [hs]
    refine assignInOrder_cons (thn (h1 pins s σ H _ _ _ I r h) fun _ s1 ⟨σ1, H1, I1, q1⟩ => ?_)
    exact h2 pins s1 σ1 H1 _ _ Q I1 rr q1
/-- (a, b, ..) = a tuple of that length -/
def gTup (K : PySem.W.Frag) (n : Nat) (t : TGs) : TG := fun v σ H Q => ∃ a xs, v = .ref a ∧ SqT K H a xs ∧ xs.length = n ∧ t xs σ H Q
theorem pg_tup {es : List Expr} {k : Nat} {t : TGs} {n : Nat} (hc : X.calm = true) (h : PGs X es t)
    (hn : (assignEach es X.env).length = n := by rfl) (hst : (assignEach es X.env).findIdx? (·.1) = none := by rfl) : PG X (.Tuple es k pos) (gTup X.K n t) := by
  intro pins s σ H v u Q I r hw
  obtain ⟨a, xs, e1, hq, hl, hw⟩ := hw
  subst e1
  cases r
  obtain ⟨its, rv, ht, hz⟩ := I.tuple hq
  refine assign_Tuple_tuple (I.ok.hd hc) ht (by simp [hn, ← hl, rv.length]) hst fun h' hx => ?_
  have I1 : Inv X pins σ H { s with heap := h' } := I.kept (t' := s.toks) fun b o e => hx b o (Nat.ne_of_lt (Heap.lt_size e)) e
  exact h pins _ σ H xs _ Q I1 (by simpa using rv) hw
/-- o[i] = .. -/
def gSub (to ti : TE) (t : TSet) : TG := fun v σ H Q => to σ H fun o H1 => ti σ H1 fun i H2 => t o i v H2 fun H3 => Q σ H3
theorem pg_sub {o i : Expr} {to ti : TE} {t : TSet} (ho : PE X o to) (hi : PE X i ti) (hs : PSet X t)
    (ha : ∀ v, assign (.Subscript o i pos) X.env v = (do
      let ov ← holding [v] (eval o X.env)
      let iv ← holding [v, ov] (eval i X.env)
      standAt pos
      holding [v, ov, iv] (setItem ov iv v)
      release [v, ov, iv] []) := by intro _; rfl) : PG X (.Subscript o i pos) (gSub to ti t) := by
  intro pins s σ H v u Q I r h
  rw [ha]
  refine wpAny_bind (wpAny_holding (thn (ho pins s σ H _ I h) fun ov s1 ⟨x, H1, I1, r1, q1⟩ => ?_))
  refine wpAny_bind (wpAny_holding (thn (hi pins s1 σ H1 _ I1 q1) fun iv s2 ⟨y, H2, I2, r2, q2⟩ => ?_))
  refine wpAny_bind (wpAny_standAt (wpAny_bind (wpAny_holding (thn (hs pins s2 σ H2 x y v ov iv u _ I2 r1 r2 r q2) fun _ s3 ⟨H3, I3, q3⟩ => ?_))))
  exact wpAny_release ⟨σ, H3, I3, q3⟩
/-- target = value -/
def tAsg (te : TE) (g : TG) : TS := fun D σ H => te σ H fun x H1 => g x σ H1 D.nx
theorem ps_asg {tg e : Expr} {te : TE} {g : TG} (he : PE X e te) (hg : PG X tg g) (hs : swapsWithSole [tg] e pos.line X.env = pure false := by rfl) (hw : swappedStores [tg] e X.env = pure none := by rfl)
    (h1 : (assignEach [tg] X.env).map (·.2) = [assign tg X.env] := by rfl) : PS X (.Assign [tg] e pos) (tAsg te g) := by
  intro pins s σ H D I h
  refine wpAny_Assign_stores (thn (he pins s σ H _ I h) fun v s1 ⟨x, H1, I1, r1, q1⟩ => ?_) hs hw
  rw [h1]
  exact thn (hg pins s1 σ H1 x v _ I1 r1 q1) fun _ s2 q => q
/-- name = value -/
theorem ps_set {i : Nat} {x : Str} {e : Expr} {te : TE} {pos' : Pos} (hN : X.N.Nodup) (hi : X.N[i]? = some x) (hx : Loc X.env.scope x) (he : PE X e te) (hs : swapsWith e (some (.Name x pos')) pos.line X.env = pure false := by rfl) (hf : X.fn x = true ∨ X.env.scope.names.lookup x = some .local := by first | exact .inl rfl | exact .inr rfl | assumption) :
    PS X (.Assign [.Name x pos'] e pos) (tAsg te (gName i)) := by
  intro pins s σ H D I h
  refine wpAny_Assign_Name (thn (he pins s σ H _ I h) fun v s1 ⟨y, H1, I1, r1, q1⟩ => ?_) hs
  exact store_ok I1 hN hi hx r1 (fun s2 I2 => ⟨_, H1, I2, q1⟩) hf
/-- a, b = x, y with plain local names: stored from the right; the pair itself is not tracked (the opening rows as in PyProof/Rows/TupAssign.lean:23) -/
def tPar (i j : Nat) (ta : TA) : TS := fun D σ H => ta σ H fun vs H1 => ∃ v w, vs = [v, w] ∧ D.nx ((σ.set i (some v)).set j (some w)) H1
theorem ps_par {i j : Nat} {x y : Str} {a b : Expr} {ta : TA} {px py pt : Pos} {kt k2 pt2} (hc : X.calm = true) (hN : X.N.Nodup) (hi : X.N[i]? = some x) (hj : X.N[j]? = some y) (hij : i ≠ j)
    (hx : X.env.scope.names.lookup x = some .local) (hy : X.env.scope.names.lookup y = some .local) (ha : PA X [a, b] ta)
    (hw : swappedStores [.Tuple [.Name x px, .Name y py] kt pt] (.Tuple [a, b] k2 pt2) X.env = pure (some [x, y]))
    (hs : swapsWithSole [.Tuple [.Name x px, .Name y py] kt pt] (.Tuple [a, b] k2 pt2) pos.line X.env = pure false := by rfl) :
    PS X (.Assign [.Tuple [.Name x px, .Name y py] kt pt] (.Tuple [a, b] k2 pt2) pos) (tPar i j ta) := by
  intro pins s σ H D I h
  rw [exec_Assign_arm]
  refine wpAny_bind (wpAny_standAt ?_)
  rw [hs]
  refine wpAny_bind (wpAny_pure ?_)
  rw [if_neg (by decide)]
  refine wpAny_bind (Tuple_ (thn (ha _ pins s σ H _ I h) fun us s1 ⟨vs, H1, I1, r1, q1⟩ => ?_))
  obtain ⟨v, w, e1, q1⟩ := q1
  subst e1
  obtain ⟨u1, u2, rfl, rv, rw'⟩ : ∃ u1 u2, us = [u1, u2] ∧ RelV v u1 ∧ RelV w u2 := by
    cases r1 with
    | cons p q =>
      cases q with
      | cons p' q' =>
        cases q'
        exact ⟨_, _, rfl, p, p'⟩
  refine wpAny_newObj_type ?_ (by show 2 ≤ sizeLine; decide)
  have I2 : Inv X pins σ H1 { s1 with heap := s1.heap.push { cls := .type "tuple", data := .seq [u1, u2].toArray } } := I1.kept (t' := s1.toks) fun b o e => Heap.get?_push_of_some _ e
  rw [hw]
  refine wpAny_bind (wpAny_pure ?_)
  show wpAny (model X.prog X.w) X.A (do rule "assign.swapped-stores"; let items ← unpackItems (.ref s1.heap.objs.size) 2 none; assignInOrder [fun v => bindName X.env y v, fun v => bindName X.env x v] items.reverse; pure Flow.next) _ _ _
  refine wpAny_bind (wpAny_rule (wpAny_bind (unpackItems_tuple (items := #[u1, u2]) (I.ok.hd hc) (IsTup.new s1.heap _) fun h' hx' => ?_)))
  have I3 := I2.kept (h' := h') (t' := s1.toks) fun b o e => hx' b o (Nat.ne_of_lt (Heap.lt_size e)) e
  show wpAny _ _ (assignInOrder [fun v => bindName X.env y v, fun v => bindName X.env x v] [u2, u1] >>= fun _ => pure Flow.next) _ _ _
  refine wpAny_bind (assignInOrder_cons (wpAny_bindName (store_ok I3 hN hj (.inl hy) rw' (fun s2 I4 => ?_) (.inr hy))))
  refine assignInOrder_cons (wpAny_bindName (store_ok I4 hN hi (.inl hx) rv (fun s3 I5 => assignInOrder_nil (wpAny_pure ?_)) (.inr hx)))
  rw [List.set_comm _ _ (Ne.symm hij)] at I5
  exact ⟨_, H1, I5, q1⟩
/-- name op= e -/
def tAug (i : Nat) (te : TE) (ti : TIp) : TS := fun D σ H => ∃ x, σ[i]? = some (some x) ∧ te σ H fun y H1 => ti x y H1 fun z H2 => D.nx (σ.set i (some z)) H2
theorem ps_aug {i : Nat} {x : Str} {e : Expr} {te : TE} {op : Operator} {ti : TIp} {pos' : Pos} (hN : X.N.Nodup) (hi : X.N[i]? = some x) (hx : Loc X.env.scope x) (he : PE X e te) (ho : PIp X op ti) (hf : X.fn x = true ∨ X.env.scope.names.lookup x = some .local := by first | exact .inl rfl | exact .inr rfl | assumption) :
    PS X (.AugAssign (.Name x pos') op e pos) (tAug i te ti) := by
  intro pins s σ H D I h
  obtain ⟨v, e1, h⟩ := h
  obtain ⟨m, hn, hl⟩ := I.loc
  have vis : Vis X.env.scope x := by rcases hx with k | k; exact .inl k; exact .inr (.inl k)
  obtain ⟨u, r, l⟩ := hl i x v hi e1 vis
  refine wpAny_AugAssign_Name ?_
  have go : wpAny (model X.prog X.w) X.A (eval e X.env) (fun w s₂ => wpAny (model X.prog X.w) X.A (inplaceOp op u w) (fun r s₃ => wpAny (model X.prog X.w) X.A (storeName X.env x r) (fun _ => SP X pins D .next) X.xe s₃) X.xe s₂) X.xe s := by
    refine thn (he pins s σ H _ I h) fun w s1 ⟨y, H1, I1, r1, q1⟩ => ?_
    refine thn (ho pins s1 σ H1 v y u w _ I1 r r1 q1) fun z s2 ⟨zv, H2, I2, r2, q2⟩ => ?_
    exact store_ok I2 hN hi hx r2 (fun s3 I3 => ⟨_, H2, I3, q2⟩) hf
  rcases l with ⟨hk, hm⟩ | ⟨hk, c, hc, hcell⟩
  · exact wpAny_loadName_local I.ok.kind hk hn hm go
  · rcases hk with hk | hk
    · exact wpAny_loadName_cell I.ok.kind hk hc hcell go
    · rcases hx with k | k
      · have : X.env.scope.names.lookup x = some .free := hk
        rw [k] at this; cases this
      · have : X.env.scope.names.lookup x = some .free := hk
        rw [k] at this; cases this
/-- o[i] op= e -/
def tAugS (to ti te : TE) (tget : V → V → Hp → VK → Prop) (tip : TIp) (tset : TSet) : TS := fun D σ H => to σ H fun o H1 => ti σ H1 fun i H2 => tget o i H2 fun x H3 => te σ H3 fun y H4 => tip x y H4 fun z H5 => tset o i z H5 fun H6 => D.nx σ H6
/-- o[i], by values -/
def PGet (X : Cx) (t : V → V → Hp → VK → Prop) : Prop :=
  ∀ (pins : List (Addr × Obj)) (s : Shared) (σ : St) (H : Hp) (o i : V) (ov iv : Value) (Q : VK), Inv X pins σ H s → RelV o ov → RelV i iv → t o i H Q →
    wpAny (model X.prog X.w) X.A (getItem ov iv) (EP X pins σ Q) X.xe s
theorem ps_augS {o i e : Expr} {to ti te : TE} {tget : V → V → Hp → VK → Prop} {tip : TIp} {tset : TSet} {op : Operator} {tpos : Pos} (ho : PE X o to) (hi : PE X i ti) (hg : PGet X tget) (he : PE X e te) (hp : PIp X op tip) (hs : PSet X tset)
    (ha : ∀ ov iv new, augStore i ov iv new = (do holding [new, ov, iv] (setItem ov iv new); release [new, ov, iv] []; pure .next) := by intros; rfl) : PS X (.AugAssign (.Subscript o i tpos) op e pos) (tAugS to ti te tget tip tset) := by
  intro pins s σ H D I h
  refine wpAny_AugAssign_SubscriptAny (thn (ho pins s σ H _ I h) fun ov s1 ⟨x1, H1, I1, r1, q1⟩ => ?_) ha
  refine thn (hi pins s1 σ H1 _ I1 q1) fun iv s2 ⟨x2, H2, I2, r2, q2⟩ => ?_
  refine thn (hg pins s2 σ H2 x1 x2 ov iv _ I2 r1 r2 q2) fun old s3 ⟨x3, H3, I3, r3, q3⟩ => ?_
  refine thn (he pins s3 σ H3 _ I3 q3) fun v s4 ⟨x4, H4, I4, r4, q4⟩ => ?_
  refine thn (hp pins s4 σ H4 x3 x4 old v _ I4 r3 r4 q4) fun new s5 ⟨x5, H5, I5, r5, q5⟩ => ?_
  exact thn (hs pins s5 σ H5 x1 x2 x5 ov iv new _ I5 r1 r2 r5 q5) fun _ s6 ⟨H6, I6, q6⟩ => ⟨σ, H6, I6, q6⟩
/-- ints -/
def ipI (f : Int → Int → Int) : TIp := fun x y H Q => ∃ i j, x = .int i ∧ y = .int j ∧ Q (.int (f i j)) H
theorem ip_add : PIp X .Add (ipI fun i j => i + j) := by
  intro pins s σ H x y v u Q I r1 r2 h
  obtain ⟨i, j, e1, e2, q⟩ := h
  subst e1; subst e2
  obtain ⟨t, rfl⟩ := r1
  obtain ⟨t', rfl⟩ := r2
  exact iadd_int ⟨.int _, H, I.tok _, ⟨_, rfl⟩, q⟩
theorem ip_sub : PIp X .Sub (ipI fun i j => i - j) := by
  intro pins s σ H x y v u Q I r1 r2 h
  obtain ⟨i, j, e1, e2, q⟩ := h
  subst e1; subst e2
  obtain ⟨t, rfl⟩ := r1
  obtain ⟨t', rfl⟩ := r2
  exact isub_int ⟨.int _, H, I.tok _, ⟨_, rfl⟩, q⟩
end

/-! ### while -/
section
variable {X : Cx} {pos : Pos}
/-- the invariant W with its measure -/
def tWhile (c : TT) (tb : TS) : TS := fun D σ H => ∃ W : Nat → St → Hp → Prop, (∃ m, W m σ H) ∧ ∀ m σ H, W m σ H →
  c σ H fun b H1 => if b = true then ∃ N : St → Hp → Prop, (∀ σ' H', N σ' H' → ∃ m', m' < m ∧ W m' σ' H') ∧ tb { D with nx := N, ct := N, bk := D.nx } σ H1 else D.nx σ H1
theorem ps_while {c : Expr} {body : List Stmt} {tc : TT} {tb : TS} (hp : PassesOwn (model X.prog X.w) X.A X.env X.xe) (hc : PT X c tc) (hb : PSs X body tb) : PS X (.While c body [] pos) (tWhile tc tb) := by
  intro pins s σ H D I h
  obtain ⟨W, ⟨m0, w0⟩, turn⟩ := h
  refine wpAny_While (codeAny_whileLoop (fun n s' => ∃ σ' H', Inv X pins σ' H' s' ∧ W n σ' H') ?_ m0 ⟨σ, H, I, w0⟩)
  rintro n s1 ⟨σ1, H1, I1, w1⟩
  refine wpAny_passesOwn hp (thn (hc pins s1 σ1 H1 _ I1 (turn n σ1 H1 w1)) fun b s2 ⟨H2, I2, q2⟩ => ?_)
  cases b with
  | true =>
    obtain ⟨N, hN, q2⟩ := q2
    rw [if_pos rfl]
    refine wpAny_passesOwn hp (thn (hb pins s2 σ1 H2 _ I2 q2) fun f s3 q3 => ?_)
    cases f with
    | next =>
      obtain ⟨σ3, H3, I3, n3⟩ := q3
      obtain ⟨m', hm, w3⟩ := hN σ3 H3 n3
      exact ⟨m', hm, σ3, H3, I3, w3⟩
    | cont =>
      obtain ⟨σ3, H3, I3, n3⟩ := q3
      obtain ⟨m', hm, w3⟩ := hN σ3 H3 n3
      exact ⟨m', hm, σ3, H3, I3, w3⟩
    | brk => exact q3
    | ret v => exact q3
  | false =>
    rw [if_neg Bool.false_ne_true]
    exact wpAny_execs_nil ⟨σ1, H2, I2, q2⟩
end

/-! ### what a loop or a comprehension walks -/
/-- at turn i: it yields x (the heap may grow), or it stops -/
structure It where
  go : Nat → Hp → Prop
  yld : Nat → Hp → V → Hp → Prop
  stop : Nat → Hp → Prop
/-- the iterator's own objects may turn: they are not the frame's, not pinned, younger than the entry (or a comprehension's own) -/
def FpOk (X : Cx) (pins : List (Addr × Obj)) (H : Hp) (b : Addr) : Prop :=
  H b = none ∧ b ≠ X.env.locals ∧ b ∉ X.fs ∧ (b ∈ X.ex ∨ X.s₀.heap.objs.size ≤ b) ∧ (∀ x c, X.env.cells.lookup x = some c → c ≠ b) ∧ ∀ p ∈ X.pn ++ pins, p.1 ≠ b
theorem Inv.fpOk {X : Cx} {pins : List (Addr × Obj)} {σ : St} {H H' : Hp} {s : Shared} {b : Addr} (I : Inv X pins σ H s) (hb : s.heap.objs.size ≤ b) (hn : H' b = none) : FpOk X pins H' b := by
  refine ⟨hn, Nat.ne_of_gt (Nat.lt_of_lt_of_le I.lt hb), I.nofs hb, .inr (Nat.le_trans I.sz hb), fun x c e z => ?_, fun p hp z => ?_⟩
  · obtain ⟨v, q⟩ := I.cell x c e
    exact absurd (Nat.lt_of_lt_of_le q.lt (by rw [z]; exact hb)) (Nat.lt_irrefl _)
  · exact absurd (Nat.lt_of_lt_of_le (Heap.lt_size (I.pin p hp).1) (by rw [z]; exact hb)) (Nat.lt_irrefl _)
structure Turn (P : Program) (w : World) (K : PySem.W.Frag) (tg : Expr) (J : It) (fp : List Addr) (it : Addr) (tn : Nat → Heap → Prop) : Prop where
  mem : it ∈ fp
  obj : ∀ i h, tn i h → ∀ b ∈ fp, ∃ o, h.get? b = some o ∧ ∀ v, o.data ≠ .cell v
  keep : ∀ i h h', tn i h → (∀ b ∈ fp, ∀ o, h.get? b = some o → h'.get? b = some o) → tn i h'
  item : ∀ (X : Cx), X.prog = P → X.w = w → X.K = K → X.calm = true → ∀ (i : Nat) (pins : List (Addr × Obj)) (s : Shared) (σ : St) (H : Hp) (E : Value → Shared → Prop), Inv X pins σ H s → (∀ b ∈ fp, FpOk X pins H b) → tn i s.heap → J.go i H →
    wpAny (model P w) X.A (pyNext (.ref it)) (fun r s1 => ∃ u, r = some u ∧
      wpAny (model P w) X.A (letOwnedTupleGo tg (.ref it) u) (fun _ s2 => ∃ x H', Inv X pins σ H' s2 ∧ RelV x u ∧ J.yld i H x H' ∧ tn (i + 1) s2.heap ∧ ∀ b ∈ fp, H' b = none) E s1) E s
  done : ∀ (X : Cx), X.prog = P → X.w = w → X.K = K → X.calm = true → ∀ (i : Nat) (pins : List (Addr × Obj)) (s : Shared) (σ : St) (H : Hp) (E : Value → Shared → Prop), Inv X pins σ H s → (∀ b ∈ fp, FpOk X pins H b) → tn i s.heap → J.stop i H →
    wpAny (model P w) X.A (pyNext (.ref it)) (fun r s1 => r = none ∧ Inv X pins σ H s1) E s
  self : ∀ (A : Around) (i : Nat) (s : Shared) (Q : Value → Shared → Prop) (E : Value → Shared → Prop), tn i s.heap → Q (.ref it) s → wpAny (model P w) A (pyIter (.ref it)) Q E s
abbrev TI := St → Hp → (It → Hp → Prop) → Prop
/-- an iterator has come -/
def PIE (X : Cx) (pins : List (Addr × Obj)) (σ : St) (tg : Expr) (R : It → Hp → Prop) (itv : Value) (s2 : Shared) : Prop :=
  ∃ (it : Addr) (fp : List Addr) (tn : Nat → Heap → Prop) (J : It) (H' : Hp), itv = .ref it ∧ Inv X pins σ H' s2 ∧ Turn X.prog X.w X.K tg J fp it tn ∧ tn 0 s2.heap ∧ (∀ b ∈ fp, FpOk X pins H' b) ∧ R J H'
def PI (X : Cx) (tg iter : Expr) (wi : TI) : Prop :=
  ∀ (pins : List (Addr × Obj)) (s : Shared) (σ : St) (H : Hp) (R : It → Hp → Prop), Inv X pins σ H s → wi σ H R →
    wpAny (model X.prog X.w) X.A (eval iter X.env) (fun v s1 => wpAny (model X.prog X.w) X.A (pyIter v) (PIE X pins σ tg R) X.xe s1) X.xe s

/-- the step ahead of the store is nothing for an iterator that keeps no tuple -/
theorem go_of {M : Model} {A : Around} {E : Value → Shared → Prop} {s : Shared} {tg : Expr} {it : Addr} {u : Value} {o : Obj} {n : String} {vs : Array Value} {Q : Unit → Shared → Prop} (ho : s.heap.get? it = some o) (hc : o.cls = .type n) (hd : o.data = .fields vs)
    (hn : ["enumerate", "zip", "dict_itemiterator", "dict_reverseitemiterator", "odict_iterator", "itertools.zip_longest", "itertools.pairwise"].contains n = false) (hQ : Q () s) : wpAny M A (letOwnedTupleGo tg (.ref it) u) Q E s := by
  unfold letOwnedTupleGo
  cases tg <;> first
    | exact wpAny_pure hQ
    | (cases u <;> first
        | exact wpAny_pure hQ
        | (refine wpAny_bind (wpAny_load ho ?_)
           rw [hc, hd]
           show wpAny M A (if (["enumerate", "zip", "dict_itemiterator", "dict_reverseitemiterator", "odict_iterator", "itertools.zip_longest", "itertools.pairwise"].contains n && vs[0]? == some (rawInt _)) = true then _ else _) Q E s
           rw [if_neg (by intro h; rw [hn, Bool.false_and] at h; cases h)]
           exact wpAny_pure hQ))

/-- the list at a, as it stands at each turn (a loop may append to it) -/
def Itl (K : PySem.W.Frag) (a : Addr) : It :=
  ⟨fun i H => ∃ xs x, SqL K H a xs ∧ xs[i]? = some x, fun i H x H' => H' = H ∧ ∀ xs, SqL K H a xs → xs[i]? = some x, fun i H => ∃ xs, SqL K H a xs ∧ xs.length ≤ i⟩
def Itt (K : PySem.W.Frag) (a : Addr) : It :=
  ⟨fun i H => ∃ xs x, SqT K H a xs ∧ xs[i]? = some x, fun i H x H' => H' = H ∧ ∀ xs, SqT K H a xs → xs[i]? = some x, fun i H => ∃ xs, SqT K H a xs ∧ xs.length ≤ i⟩
/-- lo, lo + 1, .. (n of them) -/
def Itr (lo : Int) (n : Nat) : It := ⟨fun i _ => i < n, fun i H x H' => H' = H ∧ x = .int (lo + i), fun i _ => n ≤ i⟩
theorem turn_list {P : Program} {w : World} {K : PySem.W.Frag} {tg : Expr} (a it : Addr) : Turn P w K tg (Itl K a) [it] it (fun i h => h.IsListIter it a i) where
  mem := by simp
  obj := fun i h st b hb => by
    have e : b = it := by simpa using hb
    subst e
    obtain ⟨o, e, c, d⟩ := st
    exact ⟨o, e, fun v z => by rw [d] at z; cases z⟩
  keep := fun i h h' st k => st.at fun o e => k it (by simp) o e
  item := by
    intro X hP hw hK hc i pins s σ H E I hf st hg
    subst hP hw hK
    obtain ⟨xs, x, hq, hx⟩ := hg
    obtain ⟨its, rv, p, hz⟩ := I.list hq
    obtain ⟨u, hu, ru⟩ := rv.get hx
    obtain ⟨f0, f1, f2, f3, f4, f5⟩ := hf it (by simp)
    refine wpAny_pyNext_list_item st p.isList (x := u) (by simpa using hu) fun h' st' sb => ?_
    have I1 : Inv X pins σ H { s with heap := h' } := I.turned (t' := s.toks) (fun b o hb e => (sb.2 b hb).trans e) f0 f1 f3 f4 f5
    obtain ⟨o, e, c, d⟩ := id st'
    exact ⟨u, rfl, go_of (s := { s with heap := h' }) e c d (by decide) ⟨x, H, I1, ru, ⟨rfl, fun ys hy => by rw [I.list_inj hy hq]; exact hx⟩, st', fun b hb => (hf b hb).1⟩⟩
  done := by
    intro X hP hw hK hc i pins s σ H E I hf st hg
    subst hP hw hK
    obtain ⟨xs, hq, hx⟩ := hg
    obtain ⟨its, rv, p, hz⟩ := I.list hq
    obtain ⟨f0, f1, f2, f3, f4, f5⟩ := hf it (by simp)
    have hl := rv.length
    exact wpAny_pyNext_list_end (I.ok.hd hc) st p.isList (by simp; omega) fun h' eb => ⟨rfl, I.turned (t' := s.toks) (fun b o hb e => eb b o hb e) f0 f1 f3 f4 f5⟩
  self := fun _ _ _ _ _ st h => wpAny_pyIter_listiter st h
theorem turn_tuple {P : Program} {w : World} {K : PySem.W.Frag} {tg : Expr} (a it : Addr) : Turn P w K tg (Itt K a) [it] it (fun i h => h.IsTupleIter it a i) where
  mem := by simp
  obj := fun i h st b hb => by
    have e : b = it := by simpa using hb
    subst e
    obtain ⟨o, e, c, d⟩ := st
    exact ⟨o, e, fun v z => by rw [d] at z; cases z⟩
  keep := fun i h h' st k => st.at fun o e => k it (by simp) o e
  item := by
    intro X hP hw hK hc i pins s σ H E I hf st hg
    subst hP hw hK
    obtain ⟨xs, x, hq, hx⟩ := hg
    obtain ⟨its, rv, p, hz⟩ := I.tuple hq
    obtain ⟨u, hu, ru⟩ := rv.get hx
    obtain ⟨f0, f1, f2, f3, f4, f5⟩ := hf it (by simp)
    refine wpAny_pyNext_tuple_item st (show s.heap.IsTuple a its.toArray from p) (x := u) (by simpa using hu) fun h' st' sb => ?_
    have I1 : Inv X pins σ H { s with heap := h' } := I.turned (t' := s.toks) (fun b o hb e => (sb.2 b hb).trans e) f0 f1 f3 f4 f5
    obtain ⟨o, e, c, d⟩ := id st'
    exact ⟨u, rfl, go_of (s := { s with heap := h' }) e c d (by decide) ⟨x, H, I1, ru, ⟨rfl, fun ys hy => by rw [I.tuple_inj hy hq]; exact hx⟩, st', fun b hb => (hf b hb).1⟩⟩
  done := by
    intro X hP hw hK hc i pins s σ H E I hf st hg
    subst hP hw hK
    obtain ⟨xs, hq, hx⟩ := hg
    obtain ⟨its, rv, p, hz⟩ := I.tuple hq
    obtain ⟨f0, f1, f2, f3, f4, f5⟩ := hf it (by simp)
    have hl := rv.length
    exact wpAny_pyNext_tuple_end (I.ok.hd hc) st (show s.heap.IsTuple a its.toArray from p) (by simp; omega) fun h' eb => ⟨rfl, I.turned (t' := s.toks) (fun b o hb e => eb b o hb e) f0 f1 f3 f4 f5⟩
  self := fun _ _ _ _ _ st h => wpAny_pyIter_tupleiter st h
theorem turn_range {P : Program} {w : World} {K : PySem.W.Frag} {tg : Expr} (it : Addr) (lo : Int) (n : Nat) : Turn P w K tg (Itr lo n) [it] it (fun i h => IsRangeIter h it (lo + (i : Nat) * 1) ((n : Int) - (i : Nat)) 1) where
  mem := by simp
  obj := fun i h st b hb => by
    have e : b = it := by simpa using hb
    subst e
    exact ⟨_, st, fun v z => by
      have z' : Data.fields _ = Data.cell v := z
      cases z'⟩
  keep := fun i h h' st k => k it (by simp) _ st
  item := by
    intro X hP hw hK hc i pins s σ H E I hf st hg
    subst hP hw hK
    obtain ⟨f0, f1, f2, f3, f4, f5⟩ := hf it (by simp)
    have W := Walks.range (prog := X.prog) (w := X.w) (I.ok.hd hc) it lo 1 n
    refine W.item i s _ _ hg st fun v h' tk hv st' kk => ?_
    obtain ⟨t, rfl⟩ := hv
    have I1 : Inv X pins σ H { s with heap := h', toks := tk } := I.turned (fun b o hb e => kk b o (by simpa using hb) e) f0 f1 f3 f4 f5
    refine ⟨_, rfl, go_of (s := { s with heap := h', toks := tk }) (n := "range_iterator") st' rfl rfl (by decide) ⟨.int (lo + i), H, I1, ⟨t, ?_⟩, ⟨rfl, rfl⟩, st', fun b hb => (hf b hb).1⟩⟩
    rw [Int.mul_one]
  done := by
    intro X hP hw hK hc i pins s σ H E I hf st hg
    subst hP hw hK
    obtain ⟨f0, f1, f2, f3, f4, f5⟩ := hf it (by simp)
    exact wpAny_pyNext_range_end (I.ok.hd hc) st (by have : n ≤ i := hg; omega) fun h' eb => ⟨rfl, I.turned (t' := s.toks) (fun b o hb e => eb b o hb e) f0 f1 f3 f4 f5⟩
  self := fun _ _ _ _ _ st h => wpAny_pyIter_rangeiter st h
end L2

namespace L2
open PySem PySem.Spec PyProof.Rows
section
variable {X : Cx} {tg : Expr}
def iList (K : PySem.W.Frag) (tl : TE) : TI := fun σ H R => tl σ H fun x H1 => ∃ a, x = .ref a ∧ (∃ xs, SqL K H1 a xs) ∧ R (Itl K a) H1
def iTup (K : PySem.W.Frag) (tl : TE) : TI := fun σ H R => tl σ H fun x H1 => ∃ a, x = .ref a ∧ (∃ xs, SqT K H1 a xs) ∧ R (Itt K a) H1
theorem pi_list {l : Expr} {tl : TE} (hl : PE X l tl) : PI X tg l (iList X.K tl) := by
  intro pins s σ H R I h
  refine thn (hl pins s σ H _ I h) fun v s1 ⟨x, H1, I1, r1, q1⟩ => ?_
  obtain ⟨a, e, ⟨xs, hq⟩, q⟩ := q1
  subst e
  cases r1
  obtain ⟨its, rv, p, hz⟩ := I1.list hq
  refine wpAny_pyIter_list p.isList ?_
  refine ⟨s1.heap.objs.size, [s1.heap.objs.size], _, _, H1, rfl, I1.kept (t' := s1.toks) fun b o e => Heap.get?_push_of_some _ e, turn_list a _, ⟨_, Heap.get?_push_size _ rfl, rfl, rfl⟩, fun b hb => ?_, q⟩
  have e : b = s1.heap.objs.size := by simpa using hb
  subst e
  exact I1.fpOk (Nat.le_refl _) (I1.hok.fresh (Nat.le_refl _))
theorem pi_tup {l : Expr} {tl : TE} (hl : PE X l tl) : PI X tg l (iTup X.K tl) := by
  intro pins s σ H R I h
  refine thn (hl pins s σ H _ I h) fun v s1 ⟨x, H1, I1, r1, q1⟩ => ?_
  obtain ⟨a, e, ⟨xs, hq⟩, q⟩ := q1
  subst e
  cases r1
  obtain ⟨its, rv, p, hz⟩ := I1.tuple hq
  refine wpAny_pyIter_tuple (show s1.heap.IsTuple a its.toArray from p) ?_
  refine ⟨s1.heap.objs.size, [s1.heap.objs.size], _, _, H1, rfl, I1.kept (t' := s1.toks) fun b o e => Heap.get?_push_of_some _ e, turn_tuple a _, ⟨_, Heap.get?_push_size _ rfl, rfl, rfl⟩, fun b hb => ?_, q⟩
  have e : b = s1.heap.objs.size := by simpa using hb
  subst e
  exact I1.fpOk (Nat.le_refl _) (I1.hok.fresh (Nat.le_refl _))
/-- a range object just made, walked -/
theorem range_it {pins : List (Addr × Obj)} {σ : St} {H : Hp} {s : Shared} {R : It → Hp → Prop} {E : Value → Shared → Prop} {lo hi : Int} {t u v : Tok} {tk : Nat} (I : Inv X pins σ H s) (h1 : -(2 ^ 62) ≤ lo) (h2 : lo < 2 ^ 62) (h3 : -(2 ^ 62) ≤ hi) (h4 : hi < 2 ^ 62)
    (q : R (Itr lo (hi - lo).toNat) H) : wpAny (model X.prog X.w) X.A (pyIter (.ref s.heap.objs.size)) (PIE X pins σ tg R) E { s with heap := s.heap.push { cls := .type "range", data := .fields #[.int lo t, .int hi u, .int 1 v] }, toks := tk } := by
  refine wpAny_pyIter_range (IsRange.new ..) (small_one h1 h2 h3 h4) ?_
  have I1 : Inv X pins σ H { s with heap := s.heap.push { cls := .type "range", data := .fields #[.int lo t, .int hi u, .int 1 v] }, toks := tk } := I.kept fun b o e => Heap.get?_push_of_some _ e
  refine ⟨(s.heap.push { cls := .type "range", data := .fields #[.int lo t, .int hi u, .int 1 v] }).objs.size, [(s.heap.push { cls := .type "range", data := .fields #[.int lo t, .int hi u, .int 1 v] }).objs.size], _, _, H, rfl,
    I1.kept (t' := tk) fun b o e => Heap.get?_push_of_some _ e, turn_range _ lo (hi - lo).toNat, ?_, fun b hb => ?_, q⟩
  · have e1 : lo + ((0 : Nat) : Int) * 1 = lo := by simp
    have e2 : (((hi - lo).toNat : Nat) : Int) - ((0 : Nat) : Int) = Builtin.Range.rangeSize lo hi 1 := by rw [rangeSize_one]; split <;> omega
    show IsRangeIter _ _ (lo + ((0 : Nat) : Int) * 1) ((((hi - lo).toNat : Nat) : Int) - ((0 : Nat) : Int)) 1
    rw [e1, e2]
    exact Heap.get?_push_size _ rfl
  · have e : b = (s.heap.push { cls := .type "range", data := .fields #[.int lo t, .int hi u, .int 1 v] }).objs.size := by simpa using hb
    subst e
    exact I1.fpOk (Nat.le_refl _) (I1.hok.fresh (Nat.le_refl _))
def iRng1 (ta : TA) : TI := fun σ H R => ta σ H fun vs H1 => ∃ j : Int, vs = [.int j] ∧ -(2 ^ 62) ≤ j ∧ j < 2 ^ 62 ∧ R (Itr 0 j.toNat) H1
def iRng2 (ta : TA) : TI := fun σ H R => ta σ H fun vs H1 => ∃ i j : Int, vs = [.int i, .int j] ∧ (-(2 ^ 62) ≤ i ∧ i < 2 ^ 62 ∧ -(2 ^ 62) ≤ j ∧ j < 2 ^ 62) ∧ R (Itr i (j - i).toNat) H1
theorem pi_range1 {a : Expr} {ta : TA} {p pos : Pos} (hg : Gl X "range") (hm : X.mg "range" = none) (ha : PA X [a] ta) (hs : starEach [a] X.env = [(false, eval a X.env)] := by rfl) : PI X tg (.Call (.Name "range" p) [a] [] pos) (iRng1 ta) := by
  intro pins s σ H R I h
  refine Call_ (ld_blt I hg hm boot_range (PyProof.Rows.callWith_type1 (thn (ha pos pins s σ H _ I h) fun us s1 ⟨vs, H1, I1, r1, q1⟩ => ?_) hs rfl))
  obtain ⟨j, e, q1, q2, q⟩ := q1
  subst e
  cases r1 with
  | cons r rr =>
    cases rr
    obtain ⟨t, rfl⟩ := r
    exact call_range_1 (range_it I1 (by omega) (by omega) q1 q2 (by simpa using q))
theorem pi_range2 {a b : Expr} {ta : TA} {p pos : Pos} (hg : Gl X "range") (hm : X.mg "range" = none) (ha : PA X [a, b] ta) (hs : starEach [a, b] X.env = [(false, eval a X.env), (false, eval b X.env)] := by rfl) (hs2 : starEach [b] X.env = [(false, eval b X.env)] := by rfl) :
    PI X tg (.Call (.Name "range" p) [a, b] [] pos) (iRng2 ta) := by
  intro pins s σ H R I h
  refine Call_ (ld_blt I hg hm boot_range (PyProof.Rows.callWith_type1 (thn (ha pos pins s σ H _ I h) fun us s1 ⟨vs, H1, I1, r1, q1⟩ => ?_) (by rw [hs, hs2]) (by rw [hs2]; rfl)))
  obtain ⟨i, j, e, ⟨q1, q2, q3, q4⟩, q⟩ := q1
  subst e
  cases r1 with
  | cons r rr =>
    cases rr with
    | cons r' rr =>
      cases rr
      obtain ⟨t, rfl⟩ := r
      obtain ⟨t', rfl⟩ := r'
      exact call_range_2 (range_it I1 q1 q2 q3 q4 q)

/-! ### for -/
/-- W: the invariant by the turn and a measure; N: what the body is to reach -/
def tFor (wi : TI) (g : TG) (tb : TS) : TS := fun D σ H => wi σ H fun J H1 => ∃ W : Nat → Nat → St → Hp → Prop, (∃ m, W 0 m σ H1) ∧ ∀ i m σ H, W i m σ H →
  (J.stop i H ∧ D.nx σ H) ∨ (J.go i H ∧ ∃ N : St → Hp → Prop, (∀ σ' H', N σ' H' → ∃ m', m' < m ∧ W (i + 1) m' σ' H') ∧ ∀ x H', J.yld i H x H' → g x σ H' fun σ2 H2 => tb { D with nx := N, ct := N, bk := D.nx } σ2 H2)
/-- the records at fp as they stand -/
def pinsAt (fp : List Addr) (h : Heap) : List (Addr × Obj) := fp.filterMap fun b => (h.get? b).map fun o => (b, o)
theorem mem_pinsAt {fp : List Addr} {h : Heap} {b : Addr} {o : Obj} (hb : b ∈ fp) (e : h.get? b = some o) : (b, o) ∈ pinsAt fp h := List.mem_filterMap.mpr ⟨b, hb, by rw [e]; rfl⟩
theorem of_pinsAt {fp : List Addr} {h : Heap} {p : Addr × Obj} (hp : p ∈ pinsAt fp h) : p.1 ∈ fp ∧ h.get? p.1 = some p.2 := by
  obtain ⟨b, hb, e⟩ := List.mem_filterMap.mp hp
  cases q : h.get? b with
  | none => rw [q] at e; cases e
  | some o =>
    rw [q] at e
    have e' : (b, o) = p := Option.some.inj e
    subst e'
    exact ⟨hb, q⟩
theorem Inv.pinned {pins : List (Addr × Obj)} {σ : St} {H : Hp} {s : Shared} {fp : List Addr} (I : Inv X pins σ H s) (hf : ∀ b ∈ fp, FpOk X pins H b) (ho : ∀ b ∈ fp, ∃ o, s.heap.get? b = some o ∧ ∀ v, o.data ≠ .cell v) : Inv X (pins ++ pinsAt fp s.heap) σ H s :=
  I.pins_of fun p hp => (List.mem_append.mp hp).elim (fun z => I.pin p (List.mem_append_right _ z)) fun z => by
    obtain ⟨hb, e⟩ := of_pinsAt z
    obtain ⟨f0, f1, f2, _⟩ := hf p.1 hb
    obtain ⟨o, e', d⟩ := ho p.1 hb
    rw [e] at e'; cases e'
    exact ⟨e, f0, f1, f2, d⟩
theorem Inv.unpinned {pins pl : List (Addr × Obj)} {σ : St} {H : Hp} {s : Shared} (I : Inv X (pins ++ pl) σ H s) : Inv X pins σ H s := I.pins_of fun p hp => I.pin p (List.mem_append_right _ (List.mem_append_left _ hp))
theorem ps_for {iter : Expr} {body : List Stmt} {wi : TI} {g : TG} {tb : TS} {pos : Pos} (hp : PassesOwn (model X.prog X.w) X.A X.env X.xe) (hc : X.calm = true) (hi : PI X tg iter wi) (hg : PG X tg g) (hb : PSs X body tb)
    (hs : ∀ x, foldedSetIterable iter X.env x = pure x := by intro _; rfl) : PS X (.For tg iter body [] pos) (tFor wi g tb) := by
  intro pins s σ H D I h
  refine wpAny_For (thn (hi pins s σ H _ I h) fun v s1 h1 => thn h1 fun itv s2 h2 => ?_) hs
  obtain ⟨it, fp, tn, J, H2, e, I2, T, st2, f2, W, ⟨m0, w0⟩, turn⟩ := h2
  subst e
  -- what stays true of the iterator's objects through the loop
  have stat : ∀ {H' : Hp}, (∀ b ∈ fp, H' b = none) → ∀ b ∈ fp, FpOk X pins H' b := fun hn b hb => ⟨hn b hb, (f2 b hb).2⟩
  refine codeAny_forLoop_any (fun n s' => ∃ i σ' H', Inv X pins σ' H' s' ∧ tn i s'.heap ∧ (∀ b ∈ fp, H' b = none) ∧ W i n σ' H') ?_ m0 ⟨0, σ, H2, I2, st2, fun b hb => (f2 b hb).1, w0⟩
  rintro n s3 ⟨i, σ3, H3, I3, st3, fr3, w3⟩
  rcases turn i n σ3 H3 w3 with ⟨stop, qn⟩ | ⟨go, N, hN, step⟩
  · refine wpAny_passesOwn hp (thn (T.done X rfl rfl rfl hc i pins s3 σ3 H3 X.xe I3 (stat fr3) st3 stop) fun r s4 ⟨hr, I4⟩ => ?_)
    subst hr
    exact wpAny_execs_nil ⟨σ3, H3, I4, qn⟩
  · refine wpAny_passesOwn hp (thn (T.item X rfl rfl rfl hc i pins s3 σ3 H3 X.xe I3 (stat fr3) st3 go) fun r s4 ⟨u, hr, h4⟩ => ?_)
    subst hr
    refine wpAny_passesOwn hp (thn h4 fun _ s5 ⟨x, H5, I5, r5, y5, st5, fr5⟩ => ?_)
    have I5' := I5.pinned (stat fr5) (T.obj _ _ st5)
    refine wpAny_passesOwn hp (thn (hg _ s5 σ3 H5 x u _ I5' r5 (step x H5 y5)) fun _ s6 ⟨σ6, H6, I6, q6⟩ => ?_)
    refine wpAny_passesOwn hp (thn (hb _ s6 σ6 H6 _ I6 q6) fun f s7 q7 => ?_)
    have again : ∀ {σ7 : St} {H7 : Hp}, Inv X (pins ++ pinsAt fp s5.heap) σ7 H7 s7 → N σ7 H7 → ∃ m, m < n ∧ ∃ i σ' H', Inv X pins σ' H' s7 ∧ tn i s7.heap ∧ (∀ b ∈ fp, H' b = none) ∧ W i m σ' H' := fun {σ7 H7} I7 n7 => by
      obtain ⟨m', hm, w7⟩ := hN σ7 H7 n7
      refine ⟨m', hm, i + 1, σ7, H7, I7.unpinned, T.keep _ _ _ st5 fun b hb o e => (I7.pin (b, o) (List.mem_append_right _ (List.mem_append_right _ (mem_pinsAt hb e)))).1, fun b hb => ?_, w7⟩
      obtain ⟨o, e, d⟩ := T.obj _ _ st5 b hb
      exact (I7.pin (b, o) (List.mem_append_right _ (List.mem_append_right _ (mem_pinsAt hb e)))).2.1
    cases f with
    | next => obtain ⟨σ7, H7, I7, n7⟩ := q7; exact again I7 n7
    | cont => obtain ⟨σ7, H7, I7, n7⟩ := q7; exact again I7 n7
    | brk => obtain ⟨σ7, H7, I7, q7⟩ := q7; exact ⟨σ7, H7, I7.unpinned, q7⟩
    | ret v => obtain ⟨x7, σ7, H7, I7, r7, q7⟩ := q7; exact ⟨x7, σ7, H7, I7.unpinned, r7, q7⟩
end

/-! ### the forms one uses -/
/-- over a list that the body leaves as it is -/
theorem for_list {K : PySem.W.Frag} {a : Addr} {xs : List V} {g : TG} {tb : TS} {D : Ends} {σ : St} {H : Hp} (Pv : Nat → St → Hp → Prop) (h0 : Pv 0 σ H) (hl : ∀ i σ H, i ≤ xs.length → Pv i σ H → SqL K H a xs)
    (hs : ∀ i x σ H, xs[i]? = some x → Pv i σ H → g x σ H fun σ2 H2 => tb { D with nx := Pv (i + 1), ct := Pv (i + 1), bk := D.nx } σ2 H2) (hd : ∀ σ H, Pv xs.length σ H → D.nx σ H) :
    ∃ W : Nat → Nat → St → Hp → Prop, (∃ m, W 0 m σ H) ∧ ∀ i m σ H, W i m σ H →
      ((Itl K a).stop i H ∧ D.nx σ H) ∨ ((Itl K a).go i H ∧ ∃ N : St → Hp → Prop, (∀ σ' H', N σ' H' → ∃ m', m' < m ∧ W (i + 1) m' σ' H') ∧ ∀ x H', (Itl K a).yld i H x H' → g x σ H' fun σ2 H2 => tb { D with nx := N, ct := N, bk := D.nx } σ2 H2) := by
  refine ⟨fun i m σ H => m = xs.length - i ∧ i ≤ xs.length ∧ Pv i σ H, ⟨xs.length, by simp, Nat.zero_le _, h0⟩, ?_⟩
  rintro i m σ H ⟨rfl, hi, p⟩
  have q := hl i σ H hi p
  by_cases hlt : i < xs.length
  · refine .inr ⟨⟨xs, xs[i], q, by simp [hlt]⟩, Pv (i + 1), fun σ' H' p' => ⟨xs.length - (i + 1), by omega, rfl, hlt, p'⟩, fun x H' y => ?_⟩
    obtain ⟨e, y⟩ := y
    subst e
    exact hs i x σ _ (y xs q) p
  · have e : i = xs.length := by omega
    subst e
    exact .inl ⟨⟨xs, q, Nat.le_refl _⟩, hd σ H p⟩
theorem for_tup {K : PySem.W.Frag} {a : Addr} {xs : List V} {g : TG} {tb : TS} {D : Ends} {σ : St} {H : Hp} (Pv : Nat → St → Hp → Prop) (h0 : Pv 0 σ H) (hl : ∀ i σ H, i ≤ xs.length → Pv i σ H → SqT K H a xs)
    (hs : ∀ i x σ H, xs[i]? = some x → Pv i σ H → g x σ H fun σ2 H2 => tb { D with nx := Pv (i + 1), ct := Pv (i + 1), bk := D.nx } σ2 H2) (hd : ∀ σ H, Pv xs.length σ H → D.nx σ H) :
    ∃ W : Nat → Nat → St → Hp → Prop, (∃ m, W 0 m σ H) ∧ ∀ i m σ H, W i m σ H →
      ((Itt K a).stop i H ∧ D.nx σ H) ∨ ((Itt K a).go i H ∧ ∃ N : St → Hp → Prop, (∀ σ' H', N σ' H' → ∃ m', m' < m ∧ W (i + 1) m' σ' H') ∧ ∀ x H', (Itt K a).yld i H x H' → g x σ H' fun σ2 H2 => tb { D with nx := N, ct := N, bk := D.nx } σ2 H2) := by
  refine ⟨fun i m σ H => m = xs.length - i ∧ i ≤ xs.length ∧ Pv i σ H, ⟨xs.length, by simp, Nat.zero_le _, h0⟩, ?_⟩
  rintro i m σ H ⟨rfl, hi, p⟩
  have q := hl i σ H hi p
  by_cases hlt : i < xs.length
  · refine .inr ⟨⟨xs, xs[i], q, by simp [hlt]⟩, Pv (i + 1), fun σ' H' p' => ⟨xs.length - (i + 1), by omega, rfl, hlt, p'⟩, fun x H' y => ?_⟩
    obtain ⟨e, y⟩ := y
    subst e
    exact hs i x σ _ (y xs q) p
  · have e : i = xs.length := by omega
    subst e
    exact .inl ⟨⟨xs, q, Nat.le_refl _⟩, hd σ H p⟩
theorem for_range {lo : Int} {n : Nat} {g : TG} {tb : TS} {D : Ends} {σ : St} {H : Hp} (Pv : Nat → St → Hp → Prop) (h0 : Pv 0 σ H)
    (hs : ∀ i σ H, i < n → Pv i σ H → g (.int (lo + i)) σ H fun σ2 H2 => tb { D with nx := Pv (i + 1), ct := Pv (i + 1), bk := D.nx } σ2 H2) (hd : ∀ σ H, Pv n σ H → D.nx σ H) :
    ∃ W : Nat → Nat → St → Hp → Prop, (∃ m, W 0 m σ H) ∧ ∀ i m σ H, W i m σ H →
      ((Itr lo n).stop i H ∧ D.nx σ H) ∨ ((Itr lo n).go i H ∧ ∃ N : St → Hp → Prop, (∀ σ' H', N σ' H' → ∃ m', m' < m ∧ W (i + 1) m' σ' H') ∧ ∀ x H', (Itr lo n).yld i H x H' → g x σ H' fun σ2 H2 => tb { D with nx := N, ct := N, bk := D.nx } σ2 H2) := by
  refine ⟨fun i m σ H => m = n - i ∧ i ≤ n ∧ Pv i σ H, ⟨n, by simp, Nat.zero_le _, h0⟩, ?_⟩
  rintro i m σ H ⟨rfl, hi, p⟩
  by_cases hlt : i < n
  · refine .inr ⟨hlt, Pv (i + 1), fun σ' H' p' => ⟨n - (i + 1), by omega, rfl, hlt, p'⟩, fun x H' y => ?_⟩
    obtain ⟨e, y⟩ := y
    subst e y
    exact hs i σ _ hlt p
  · have e : i = n := by omega
    subst e
    exact .inl ⟨Nat.le_refl _, hd σ H p⟩
/-- while, by a word and a measure of the state -/
theorem while_by {c : TT} {tb : TS} {D : Ends} {σ : St} {H : Hp} (Pv : St → Hp → Prop) (μ : St → Hp → Nat) (h0 : Pv σ H)
    (hs : ∀ σ H, Pv σ H → c σ H fun b H1 => if b = true then tb { D with nx := fun σ' H' => Pv σ' H' ∧ μ σ' H' < μ σ H, ct := fun σ' H' => Pv σ' H' ∧ μ σ' H' < μ σ H, bk := D.nx } σ H1 else D.nx σ H1)
    (mono : ∀ σ H Q Q', (∀ b H1, Q b H1 → Q' b H1) → c σ H Q → c σ H Q') : tWhile c tb D σ H := by
  refine ⟨fun m σ H => m = μ σ H ∧ Pv σ H, ⟨_, rfl, h0⟩, ?_⟩
  rintro m σ H ⟨rfl, p⟩
  refine mono σ H _ _ (fun b H1 q => ?_) (hs σ H p)
  cases b with
  | true => exact ⟨_, fun σ' H' ⟨p', l⟩ => ⟨_, l, rfl, p'⟩, q⟩
  | false => exact q
end L2

namespace L2
open PySem PySem.Spec PyProof.Rows

abbrev R2 := V → V → Hp → VK → Prop
/-- a two-place operation on values: f is binaryOp op, inplaceOp op or compareOp op -/
def OpR (X : Cx) (f : Value → Value → Sem Value) (r : R2) : Prop :=
  ∀ (pins : List (Addr × Obj)) (s : Shared) (σ : St) (H : Hp) (x y : V) (v u : Value) (Q : VK), Inv X pins σ H s → RelV x v → RelV y u → r x y H Q →
    wpAny (model X.prog X.w) X.A (f v u) (EP X pins σ Q) X.xe s
/-- a one-place operation -/
def UnR (X : Cx) (f : Value → Sem Value) (r : V → Hp → VK → Prop) : Prop :=
  ∀ (pins : List (Addr × Obj)) (s : Shared) (σ : St) (H : Hp) (x : V) (v : Value) (Q : VK), Inv X pins σ H s → RelV x v → r x H Q →
    wpAny (model X.prog X.w) X.A (f v) (EP X pins σ Q) X.xe s
/-- a call of a value that is known (a builtin, a type) with values -/
def CallR (X : Cx) (f : Value) (r : List V → Hp → VK → Prop) : Prop :=
  ∀ (pins : List (Addr × Obj)) (s : Shared) (σ : St) (H : Hp) (xs : List V) (us : List Value) (Q : VK), Inv X pins σ H s → Vals xs us → r xs H Q →
    wpAny (model X.prog X.w) X.A (call f us) (EP X pins σ Q) X.xe s
/-- a value's truth -/
def TruR (X : Cx) (r : V → Hp → (Bool → Hp → Prop) → Prop) : Prop :=
  ∀ (pins : List (Addr × Obj)) (s : Shared) (σ : St) (H : Hp) (x : V) (v : Value) (Q : Bool → Hp → Prop), Inv X pins σ H s → RelV x v → r x H Q →
    wpAny (model X.prog X.w) X.A (truthy v) (TP X pins σ Q) X.xe s

def tOp (r : R2) (ta tb : TE) : TE := fun σ H Q => ta σ H fun x H1 => tb σ H1 fun y H2 => r x y H2 Q
def tUn (r : V → Hp → VK → Prop) (ta : TE) : TE := fun σ H Q => ta σ H fun x H1 => r x H1 Q
/-- ints in, under C, and a value out -/
def rI (C : Int → Int → Prop) (g : Int → Int → V) : R2 := fun x y H Q => ∃ i j, x = .int i ∧ y = .int j ∧ C i j ∧ Q (g i j) H
def rI0 (g : Int → Int → V) : R2 := fun x y H Q => ∃ i j, x = .int i ∧ y = .int j ∧ Q (g i j) H
def rU (g : Int → V) : V → Hp → VK → Prop := fun x H Q => ∃ i, x = .int i ∧ Q (g i) H

section
variable {X : Cx} {a b c : Expr} {ta tb tc : TE} {pos : Pos}

theorem binT (ha : PE X a ta) (hb : PE X b tb) {pins : List (Addr × Obj)} {s : Shared} {σ : St} {H : Hp} {R : V → V → Hp → Prop} (I : Inv X pins σ H s)
    (h : ta σ H fun x H1 => tb σ H1 fun y H2 => R x y H2) {Q : Value → Shared → Prop} {f : Value → Value → Sem Value}
    (hf : ∀ v u s2 x y H2, Inv X pins σ H2 s2 → RelV x v → RelV y u → R x y H2 → wpAny (model X.prog X.w) X.A (f v u) Q X.xe s2) :
    wpAny (model X.prog X.w) X.A (eval a X.env) (fun v s₁ => wpAny (model X.prog X.w) X.A (eval b X.env) (fun u s₂ => wpAny (model X.prog X.w) X.A (f v u) Q X.xe s₂) X.xe s₁) X.xe s := by
  refine thn (ha pins s σ H _ I h) fun v s1 ⟨x, H1, I1, r1, q1⟩ => ?_
  refine thn (hb pins s1 σ H1 _ I1 q1) fun u s2 ⟨y, H2, I2, r2, q2⟩ => ?_
  exact hf v u s2 x y H2 I2 r1 r2 q2

theorem pe_op {op : Operator} {r : R2} (ho : OpR X (binaryOp op) r) (ha : PE X a ta) (hb : PE X b tb) : PE X (.BinOp a op b pos) (tOp r ta tb) := by
  intro pins s σ H Q I h
  exact wpAny_BinOp (binT ha hb I h fun v u s2 x y H2 I2 rx ry q => ho pins s2 σ H2 x y v u Q I2 rx ry q)
theorem pe_un {op : UnaryOp} {r : V → Hp → VK → Prop} (ho : UnR X (unaryOp op) r) (ha : PE X a ta) : PE X (.UnaryOp op a pos) (tUn r ta) := by
  intro pins s σ H Q I h
  exact UnaryOp_ (thn (ha pins s σ H _ I h) fun v s1 ⟨x, H1, I1, r1, q1⟩ => ho pins s1 σ H1 x v Q I1 r1 q1)
/-- a op= e at a name: the name's slot i -/
theorem augR {op : Operator} {r : R2} (ho : OpR X (inplaceOp op) r) {pins : List (Addr × Obj)} {s : Shared} {σ : St} {H : Hp} {x y : V} {v u : Value} {Q : VK} (I : Inv X pins σ H s)
    (rx : RelV x v) (ry : RelV y u) (q : r x y H Q) : wpAny (model X.prog X.w) X.A (inplaceOp op v u) (EP X pins σ Q) X.xe s := ho pins s σ H x y v u Q I rx ry q

/-! ### ints -/
theorem opI {f : Value → Value → Sem Value} {C : Int → Int → Prop} {g : Int → Int → Int}
    (rule : ∀ (i j : Int) (t u : Tok) (s : Shared) (Q : Value → Shared → Prop) (E : Value → Shared → Prop), C i j → Q (.int (g i j) s.toks) { s with toks := s.toks + 1 } → wpAny (model X.prog X.w) X.A (f (.int i t) (.int j u)) Q E s) :
    OpR X f (rI C fun i j => .int (g i j)) := by
  intro pins s σ H x y v u Q I rx ry h
  obtain ⟨i, j, rfl, rfl, hc, q⟩ := h
  obtain ⟨t, rfl⟩ := rx
  obtain ⟨t', rfl⟩ := ry
  exact rule i j t t' s _ _ hc ⟨.int (g i j), H, I.tok _, ⟨_, rfl⟩, q⟩
theorem opI0 {f : Value → Value → Sem Value} {g : Int → Int → Int}
    (rule : ∀ (i j : Int) (t u : Tok) (s : Shared) (Q : Value → Shared → Prop) (E : Value → Shared → Prop), Q (.int (g i j) s.toks) { s with toks := s.toks + 1 } → wpAny (model X.prog X.w) X.A (f (.int i t) (.int j u)) Q E s) :
    OpR X f (rI0 fun i j => .int (g i j)) := by
  intro pins s σ H x y v u Q I rx ry h
  obtain ⟨i, j, rfl, rfl, q⟩ := h
  obtain ⟨t, rfl⟩ := rx
  obtain ⟨t', rfl⟩ := ry
  exact rule i j t t' s _ _ ⟨.int (g i j), H, I.tok _, ⟨_, rfl⟩, q⟩
theorem opB0 {f : Value → Value → Sem Value} {g : Int → Int → Bool}
    (rule : ∀ (i j : Int) (t u : Tok) (s : Shared) (Q : Value → Shared → Prop) (E : Value → Shared → Prop), Q (.bool (g i j)) s → wpAny (model X.prog X.w) X.A (f (.int i t) (.int j u)) Q E s) :
    OpR X f (rI0 fun i j => .bl (g i j)) := by
  intro pins s σ H x y v u Q I rx ry h
  obtain ⟨i, j, rfl, rfl, q⟩ := h
  obtain ⟨t, rfl⟩ := rx
  obtain ⟨t', rfl⟩ := ry
  exact rule i j t t' s _ _ ⟨.bl (g i j), H, I, rfl, q⟩

def CDiv (i j : Int) : Prop := 0 < j ∧ j < 1073741824
def CDivN (i j : Int) : Prop := j ≠ 0 ∧ j.natAbs < 1073741824
def CPow (i j : Int) : Prop := 0 ≤ j ∧ j ≤ 1000000 ∧ i.natAbs < 2 ^ 64
def CMul (i j : Int) : Prop := (-(2 ^ 64) < i ∧ i < 2 ^ 64) ∨ (-(2 ^ 64) < j ∧ j < 2 ^ 64)
theorem CMul.ok {i j : Int} (h : CMul i j) : IntMulOk i j := by
  rcases h with ⟨h1, h2⟩ | ⟨h1, h2⟩
  · exact .of_left (intBits_le_64 h1 h2)
  · exact .of_right (intBits_le_64 h1 h2)
theorem two_pow_nn (k : Nat) : (0 : Int) ≤ 2 ^ k := by
  rw [two_pow_cast]
  exact Int.natCast_nonneg _

theorem op_add : OpR X (binaryOp .Add) (rI0 fun i j => .int (i + j)) := opI0 fun _ _ _ _ _ _ _ q => add_int q
theorem op_sub : OpR X (binaryOp .Sub) (rI0 fun i j => .int (i - j)) := opI0 fun _ _ _ _ _ _ _ q => sub_int q
theorem op_mul : OpR X (binaryOp .Mult) (rI CMul fun i j => .int (i * j)) := opI fun _ _ _ _ _ _ _ hc q => mul_int q hc.ok
/-- // by a positive divisor -/
theorem op_fdiv : OpR X (binaryOp .FloorDiv) (rI CDiv fun i j => .int (i / j)) := opI fun i j _ _ _ _ _ hc q => by
  have h1 : (0 : Int) < j := hc.1
  have h2 : j < 1073741824 := hc.2
  exact floordiv_int (by omega) (by rw [Int.fdiv_eq_ediv_of_nonneg i (by omega)]; exact q) (.inl (PyProof.noPylong_small (by omega)))
theorem op_fdivN : OpR X (binaryOp .FloorDiv) (rI CDivN fun i j => .int (i.fdiv j)) := opI fun _ _ _ _ _ _ _ hc q => floordiv_int hc.1 q (.inl (PyProof.noPylong_small hc.2))
/-- % by a positive divisor of any size -/
theorem op_mod : OpR X (binaryOp .Mod) (rI (fun _ j => 0 < j) fun i j => .int (i % j)) := opI fun i j _ _ _ _ _ hc q => by
  have h1 : (0 : Int) < j := hc
  exact mod_int' (by omega) (by rw [Int.fmod_eq_emod_of_nonneg i (by omega)]; exact q)
theorem op_modN : OpR X (binaryOp .Mod) (rI (fun _ j => j ≠ 0) fun i j => .int (i.fmod j)) := opI fun _ _ _ _ _ _ _ hc q => mod_int' hc q
theorem op_pow : OpR X (binaryOp .Pow) (rI CPow fun i j => .int (i ^ j.toNat)) := opI fun _ _ _ _ _ _ _ hc q => pow_int_small hc.1 hc.2.1 hc.2.2 q
theorem op_shl : OpR X (binaryOp .LShift) (rI CPow fun i j => .int (i * 2 ^ j.toNat)) := opI fun _ _ _ _ _ _ _ hc q => lshift_int_small hc.1 hc.2.1 hc.2.2 q
theorem op_shr : OpR X (binaryOp .RShift) (rI (fun _ j => 0 ≤ j) fun i j => .int (i / 2 ^ j.toNat)) := opI fun i j _ _ _ _ _ hc q =>
  rshift_int hc (by rw [Int.fdiv_eq_ediv_of_nonneg i (two_pow_nn _)]; exact q)
theorem op_and : OpR X (binaryOp .BitAnd) (rI0 fun i j => .int (Builtin.bitAnd i j)) := opI0 fun _ _ _ _ _ _ _ q => and_int q
theorem op_or : OpR X (binaryOp .BitOr) (rI0 fun i j => .int (Builtin.bitOr i j)) := opI0 fun _ _ _ _ _ _ _ q => or_int q
theorem op_xor : OpR X (binaryOp .BitXor) (rI0 fun i j => .int (Builtin.bitXor i j)) := opI0 fun _ _ _ _ _ _ _ q => xor_int q

theorem iop_add : OpR X (inplaceOp .Add) (rI0 fun i j => .int (i + j)) := opI0 fun _ _ _ _ _ _ _ q => iadd_int q
theorem iop_sub : OpR X (inplaceOp .Sub) (rI0 fun i j => .int (i - j)) := opI0 fun _ _ _ _ _ _ _ q => isub_int q
theorem iop_mul : OpR X (inplaceOp .Mult) (rI CMul fun i j => .int (i * j)) := opI fun _ _ _ _ _ _ _ hc q => imul_int q hc.ok
theorem iop_fdiv : OpR X (inplaceOp .FloorDiv) (rI CDiv fun i j => .int (i / j)) := opI fun i j _ _ _ _ _ hc q => by
  have h1 : (0 : Int) < j := hc.1
  have h2 : j < 1073741824 := hc.2
  exact ifloordiv_int (by omega) (by rw [Int.fdiv_eq_ediv_of_nonneg i (by omega)]; exact q) (.inl (PyProof.noPylong_small (by omega)))
theorem iop_mod : OpR X (inplaceOp .Mod) (rI (fun _ j => 0 < j) fun i j => .int (i % j)) := opI fun i j _ _ _ _ _ hc q => by
  have h1 : (0 : Int) < j := hc
  exact imod_int (by omega) (by rw [Int.fmod_eq_emod_of_nonneg i (by omega)]; exact q)
theorem iop_shl : OpR X (inplaceOp .LShift) (rI CPow fun i j => .int (i * 2 ^ j.toNat)) := opI fun _ _ _ _ _ _ _ hc q => ilshift_int_small hc.1 hc.2.1 hc.2.2 q
theorem iop_shr : OpR X (inplaceOp .RShift) (rI (fun _ j => 0 ≤ j) fun i j => .int (i / 2 ^ j.toNat)) := opI fun i j _ _ _ _ _ hc q =>
  irshift_int hc (by rw [Int.fdiv_eq_ediv_of_nonneg i (two_pow_nn _)]; exact q)
theorem iop_and : OpR X (inplaceOp .BitAnd) (rI0 fun i j => .int (Builtin.bitAnd i j)) := opI0 fun _ _ _ _ _ _ _ q => iand_int q
theorem iop_or : OpR X (inplaceOp .BitOr) (rI0 fun i j => .int (Builtin.bitOr i j)) := opI0 fun _ _ _ _ _ _ _ q => ior_int q
theorem iop_xor : OpR X (inplaceOp .BitXor) (rI0 fun i j => .int (Builtin.bitXor i j)) := opI0 fun _ _ _ _ _ _ _ q => ixor_int q

theorem unI {f : Value → Sem Value} {g : Int → Int}
    (rule : ∀ (i : Int) (t : Tok) (s : Shared) (Q : Value → Shared → Prop) (E : Value → Shared → Prop), Q (.int (g i) s.toks) { s with toks := s.toks + 1 } → wpAny (model X.prog X.w) X.A (f (.int i t)) Q E s) :
    UnR X f (rU fun i => .int (g i)) := by
  intro pins s σ H x v Q I rx h
  obtain ⟨i, rfl, q⟩ := h
  obtain ⟨t, rfl⟩ := rx
  exact rule i t s _ _ ⟨.int (g i), H, I.tok _, ⟨_, rfl⟩, q⟩
theorem un_neg : UnR X (unaryOp .USub) (rU fun i => .int (-i)) := unI fun _ _ _ _ _ q => neg_int q
theorem un_inv : UnR X (unaryOp .Invert) (rU fun i => .int (Builtin.bitNot i)) := unI fun _ _ _ _ _ q => invert_int q

/-! ### bools among ints: n += (a < b) -/
theorem op_add_ib : OpR X (binaryOp .Add) (fun x y H Q => ∃ i k, x = .int i ∧ y = .bl k ∧ Q (.int (i + b2i k)) H) := by
  intro pins s σ H x y v u Q I rx ry h
  obtain ⟨i, k, rfl, rfl, q⟩ := h
  obtain ⟨t, rfl⟩ := rx
  cases ry
  exact add_int_bool ⟨.int (i + b2i k), H, I.tok _, ⟨_, rfl⟩, q⟩
end

/-! ### comparisons -/
/-- the scalars that == tells apart as data does -/
def scal : V → V → Bool
  | .non, .non => true | .non, .int _ => true | .int _, .non => true | .non, .bl _ => true | .bl _, .non => true | .non, .str _ => true | .str _, .non => true
  | .int _, .int _ => true | .bl _, .bl _ => true | .str _, .str _ => true | .byt _, .byt _ => true
  | .int _, .str _ => true | .str _, .int _ => true | .bl _, .str _ => true | .str _, .bl _ => true
  | _, _ => false
def rEq : R2 := fun x y H Q => scal x y = true ∧ Q (.bl (decide (x = y))) H
def rNe : R2 := fun x y H Q => scal x y = true ∧ Q (.bl (!decide (x = y))) H

theorem dec_int {i j : Int} : decide (V.int i = V.int j) = (i == j) := by
  rw [Bool.eq_iff_iff]
  simp
theorem dec_bl {i j : Bool} : decide (V.bl i = V.bl j) = (i == j) := by
  rw [Bool.eq_iff_iff]
  simp
theorem dec_str {i j : Str} : decide (V.str i = V.str j) = (i == j) := by
  rw [Bool.eq_iff_iff]
  simp
theorem dec_byt {i j : Array UInt8} : decide (V.byt i = V.byt j) = (i.toList == j.toList) := by
  rw [Bool.eq_iff_iff]
  cases i
  cases j
  simp

section
variable {X : Cx} {a b c : Expr} {ta tb tc : TE} {pos : Pos}
theorem fin_bl {pins : List (Addr × Obj)} {σ : St} {H : Hp} {s : Shared} {Q : VK} {k k' : Bool} (I : Inv X pins σ H s) (q : Q (.bl k) H) (e : k = k') : EP X pins σ Q (.bool k') s := by
  subst e
  exact ⟨.bl k, H, I, rfl, q⟩
theorem op_eq : OpR X (compareOp .Eq) rEq := by
  intro pins s σ H x y v u Q I rx ry h
  obtain ⟨hs, q⟩ := h
  cases x with
  | non =>
    cases rx
    cases y with
    | non => cases ry; exact PySem.EqNone.eq_none_none (fin_bl I q (by simp))
    | bl j => cases ry; exact PySem.EqNone.eq_none_bool (fin_bl I q (by simp))
    | int j => obtain ⟨t', rfl⟩ := ry; exact PySem.EqNone.eq_none_int (fin_bl I q (by simp))
    | str j => obtain ⟨t', rfl⟩ := ry; exact PySem.EqNone.eq_none_str (fin_bl I q (by simp))
    | _ => exact absurd (show false = true from hs) Bool.false_ne_true
  | bl i =>
    cases rx
    cases y with
    | non => cases ry; exact PySem.EqNone.eq_bool_none (fin_bl I q (by simp))
    | bl j => cases ry; exact eq_bool (fin_bl I q dec_bl)
    | str j => obtain ⟨t', rfl⟩ := ry; exact PySem.EqMixed.eq_bool_str (fin_bl I q (by simp))
    | _ => exact absurd (show false = true from hs) Bool.false_ne_true
  | int i =>
    obtain ⟨t, rfl⟩ := rx
    cases y with
    | non => cases ry; exact PySem.EqNone.eq_int_none (fin_bl I q (by simp))
    | int j => obtain ⟨t', rfl⟩ := ry; exact eq_int (fin_bl I q dec_int)
    | str j => obtain ⟨t', rfl⟩ := ry; exact PySem.EqMixed.eq_int_str (fin_bl I q (by simp))
    | _ => exact absurd (show false = true from hs) Bool.false_ne_true
  | str i =>
    obtain ⟨t, rfl⟩ := rx
    cases y with
    | non => cases ry; exact PySem.EqNone.eq_str_none (fin_bl I q (by simp))
    | bl j => cases ry; exact PySem.EqMixed.eq_str_bool (fin_bl I q (by simp))
    | int j => obtain ⟨t', rfl⟩ := ry; exact PySem.EqMixed.eq_str_int (fin_bl I q (by simp))
    | str j => obtain ⟨t', rfl⟩ := ry; exact eq_str (fin_bl I q dec_str)
    | _ => exact absurd (show false = true from hs) Bool.false_ne_true
  | byt i =>
    obtain ⟨t, rfl⟩ := rx
    cases y with
    | byt j => obtain ⟨t', rfl⟩ := ry; exact PySem.W.eq_bytes (fin_bl I q dec_byt)
    | _ => exact absurd (show false = true from hs) Bool.false_ne_true
  | _ => cases y <;> exact absurd (show false = true from hs) Bool.false_ne_true
theorem op_ne : OpR X (compareOp .NotEq) rNe := by
  intro pins s σ H x y v u Q I rx ry h
  obtain ⟨hs, q⟩ := h
  cases x with
  | non =>
    cases rx
    cases y with
    | non => cases ry; exact PySem.EqNone.ne_none_none (fin_bl I q (by simp))
    | bl j => cases ry; exact PySem.EqNone.ne_none_bool (fin_bl I q (by simp))
    | int j => obtain ⟨t', rfl⟩ := ry; exact PySem.EqNone.ne_none_int (fin_bl I q (by simp))
    | str j => obtain ⟨t', rfl⟩ := ry; exact PySem.EqNone.ne_none_str (fin_bl I q (by simp))
    | _ => exact absurd (show false = true from hs) Bool.false_ne_true
  | bl i =>
    cases rx
    cases y with
    | non => cases ry; exact PySem.EqNone.ne_bool_none (fin_bl I q (by simp))
    | bl j => cases ry; exact ne_bool (fin_bl I q (congrArg not dec_bl))
    | str j => obtain ⟨t', rfl⟩ := ry; exact PySem.EqMixed.ne_bool_str (fin_bl I q (by simp))
    | _ => exact absurd (show false = true from hs) Bool.false_ne_true
  | int i =>
    obtain ⟨t, rfl⟩ := rx
    cases y with
    | non => cases ry; exact PySem.EqNone.ne_int_none (fin_bl I q (by simp))
    | int j => obtain ⟨t', rfl⟩ := ry; exact ne_int (fin_bl I q (congrArg not dec_int))
    | str j => obtain ⟨t', rfl⟩ := ry; exact PySem.EqMixed.ne_int_str (fin_bl I q (by simp))
    | _ => exact absurd (show false = true from hs) Bool.false_ne_true
  | str i =>
    obtain ⟨t, rfl⟩ := rx
    cases y with
    | non => cases ry; exact PySem.EqNone.ne_str_none (fin_bl I q (by simp))
    | bl j => cases ry; exact PySem.EqMixed.ne_str_bool (fin_bl I q (by simp))
    | int j => obtain ⟨t', rfl⟩ := ry; exact PySem.EqMixed.ne_str_int (fin_bl I q (by simp))
    | str j => obtain ⟨t', rfl⟩ := ry; exact ne_str (fin_bl I q (congrArg not dec_str))
    | _ => exact absurd (show false = true from hs) Bool.false_ne_true
  | byt i =>
    obtain ⟨t, rfl⟩ := rx
    cases y with
    | byt j => obtain ⟨t', rfl⟩ := ry; exact PySem.W.ne_bytes (fin_bl I q (congrArg not dec_byt))
    | _ => exact absurd (show false = true from hs) Bool.false_ne_true
  | _ => cases y <;> exact absurd (show false = true from hs) Bool.false_ne_true

theorem op_lt : OpR X (compareOp .Lt) (rI0 fun i j => .bl (decide (i < j))) := opB0 fun _ _ _ _ _ _ _ q => lt_int q
theorem op_le : OpR X (compareOp .LtE) (rI0 fun i j => .bl (decide (i ≤ j))) := opB0 fun _ _ _ _ _ _ _ q => le_int q
theorem op_gt : OpR X (compareOp .Gt) (rI0 fun i j => .bl (decide (j < i))) := opB0 fun _ _ _ _ _ _ _ q => gt_int q
theorem op_ge : OpR X (compareOp .GtE) (rI0 fun i j => .bl (decide (j ≤ i))) := opB0 fun _ _ _ _ _ _ _ q => ge_int q
theorem op_lt_str : OpR X (compareOp .Lt) (fun x y H Q => ∃ i j, x = .str i ∧ y = .str j ∧ Q (.bl (decide (i.cps.toList < j.cps.toList))) H) := by
  intro pins s σ H x y v u Q I rx ry h
  obtain ⟨i, j, rfl, rfl, q⟩ := h
  obtain ⟨t, rfl⟩ := rx
  obtain ⟨t', rfl⟩ := ry
  exact lt_str (fin_bl I q rfl)
/-- the one string within the other -/
theorem op_in_str : OpR X (compareOp .In) (fun x y H Q => ∃ i j, x = .str i ∧ y = .str j ∧ Q (.bl (!(Builtin.Str.occurrences j i 0 j.length 1).isEmpty)) H) := by
  intro pins s σ H x y v u Q I rx ry h
  obtain ⟨i, j, rfl, rfl, q⟩ := h
  obtain ⟨t, rfl⟩ := rx
  obtain ⟨t', rfl⟩ := ry
  exact in_str (fin_bl I q rfl)

/-- is None, is not None: the right side a value none -/
theorem op_isN : OpR X (compareOp .Is) (fun x y H Q => y = .non ∧ Q (.bl (decide (x = .non))) H) := by
  intro pins s σ H x y v u Q I rx ry h
  obtain ⟨rfl, q⟩ := h
  cases ry
  refine is_none_gen (fin_bl I q ?_)
  cases x <;> first
    | (cases rx; rfl)
    | (obtain ⟨t, rfl⟩ := rx; rfl)
theorem op_notN : OpR X (compareOp .IsNot) (fun x y H Q => y = .non ∧ Q (.bl (!decide (x = .non))) H) := by
  intro pins s σ H x y v u Q I rx ry h
  obtain ⟨rfl, q⟩ := h
  cases ry
  refine isnot_none_gen (fin_bl I q ?_)
  cases x <;> first
    | (cases rx; rfl)
    | (obtain ⟨t, rfl⟩ := rx; rfl)

theorem op_notin_str : OpR X (compareOp .NotIn) (fun x y H Q => ∃ i j, x = .str i ∧ y = .str j ∧ Q (.bl (!(!(Builtin.Str.occurrences j i 0 j.length 1).isEmpty))) H) := by
  intro pins s σ H x y v u Q I rx ry h
  obtain ⟨i, j, rfl, rfl, q⟩ := h
  obtain ⟨t, rfl⟩ := rx
  obtain ⟨t', rfl⟩ := ry
  exact notIn_str (fin_bl I q rfl)
/-- is, is not of two objects that are tracked lists or instances -/
def isObj : HO → Bool
  | .lst _ => true
  | .ins _ _ _ => true
  | _ => false
theorem obj_there {pins : List (Addr × Obj)} {s : Shared} {σ : St} {H : Hp} {a : Addr} {o : HO} (I : Inv X pins σ H s) (h : H a = some o) (p : isObj o = true) : ∃ ob, s.heap.get? a = some ob ∧ ob.cls ≠ .type "tuple" := by
  cases o with
  | lst xs =>
    obtain ⟨_, its, n, _, e⟩ : xs.length ≤ sizeLine ∧ ∃ (its : List Value) (n : Nat), Vals xs its ∧ s.heap.get? a = some { cls := .type "list", data := .seq its.toArray n } := I.hok a _ h
    exact ⟨_, e, (by show Value.type "list" ≠ .type "tuple"; decide +kernel)⟩
  | ins C dx fs =>
    have x := I.hok a _ h
    obtain ⟨_, _, _, e, _⟩ := x
    exact ⟨_, e, (by show Value.ref C ≠ .type "tuple"; exact fun z => by cases z)⟩
  | _ => exact absurd (show false = true from p) Bool.false_ne_true
theorem op_is_ref : OpR X (compareOp .Is) (fun x y H Q => ∃ a b oa ob, x = .ref a ∧ y = .ref b ∧ H a = some oa ∧ isObj oa = true ∧ H b = some ob ∧ isObj ob = true ∧ Q (.bl (decide (a = b))) H) := by
  intro pins s σ H x y v u Q I rx ry h
  obtain ⟨a, b, oa, ob, rfl, rfl, ha, pa, hb, pb, q⟩ := h
  cases rx
  cases ry
  obtain ⟨o1, e1, n1⟩ := obj_there I ha pa
  obtain ⟨o2, e2, _⟩ := obj_there I hb pb
  by_cases z : a = b
  · subst z
    exact wpAny_is_ref_self (fin_bl I q (by simp))
  · exact wpAny_is_ref_other z e1 e2 n1 (fin_bl I q (by simp [z]))
theorem op_isnot_ref : OpR X (compareOp .IsNot) (fun x y H Q => ∃ a b oa ob, x = .ref a ∧ y = .ref b ∧ H a = some oa ∧ isObj oa = true ∧ H b = some ob ∧ isObj ob = true ∧ Q (.bl (!decide (a = b))) H) := by
  intro pins s σ H x y v u Q I rx ry h
  obtain ⟨a, b, oa, ob, rfl, rfl, ha, pa, hb, pb, q⟩ := h
  cases rx
  cases ry
  obtain ⟨o1, e1, n1⟩ := obj_there I ha pa
  obtain ⟨o2, e2, _⟩ := obj_there I hb pb
  by_cases z : a = b
  · subst z
    exact wpAny_isNot_ref_self (fin_bl I q (by simp))
  · exact wpAny_isNot_ref_other z e1 e2 n1 (fin_bl I q (by simp [z]))

/-- two rules for one operation: by cases -/
theorem OpR.or {f : Value → Value → Sem Value} {r r' : R2} (h : OpR X f r) (h' : OpR X f r') : OpR X f (fun x y H Q => r x y H Q ∨ r' x y H Q) := by
  intro pins s σ H x y v u Q I rx ry q
  rcases q with q | q
  · exact h pins s σ H x y v u Q I rx ry q
  · exact h' pins s σ H x y v u Q I rx ry q

theorem nomark (b : Expr) {op : CmpOp} (h : op ≠ .In := by decide) (h2 : op ≠ .NotIn := by decide) : behindInMarks op b = false := by
  have e1 : (op == CmpOp.In) = false := by cases op <;> first | rfl | exact absurd rfl h
  have e2 : (op == CmpOp.NotIn) = false := by cases op <;> first | rfl | exact absurd rfl h2
  cases b <;> simp [behindInMarks, e1, e2]
/-- a comparison as a value; hm: nomark b, or (for in, not in) by with_unfolding_all rfl -/
theorem pe_cmpR {op : CmpOp} {r : R2} (ho : OpR X (compareOp op) r) (ha : PE X a ta) (hb : PE X b tb) (hm : behindInMarks op b = false) : PE X (.Compare a [op] [b] pos) (tOp r ta tb) := by
  intro pins s σ H Q I h
  exact wpAny_Compare1 (binT ha hb I h fun v u s2 x y H2 I2 rx ry q => ho pins s2 σ H2 x y v u Q I2 rx ry q) hm
/-- a reading of a value as a test -/
def tTest (t : TE) : TT := fun σ H Q => t σ H fun x H' => ∃ k, x = .bl k ∧ Q k H'
theorem pt_cmpR {op : CmpOp} {r : R2} (ho : OpR X (compareOp op) r) (ha : PE X a ta) (hb : PE X b tb) (hm : behindInMarks op b = false) : PT X (.Compare a [op] [b] pos) (tTest (tOp r ta tb)) := by
  intro pins s σ H Q I h
  refine wpAny_isTrue_Compare1 (thn (ha pins s σ H _ I h) fun v s1 ⟨x, H1, I1, r1, q1⟩ => thn (hb pins s1 σ H1 _ I1 q1) fun u s2 ⟨y, H2, I2, r2, q2⟩ =>
    thn (ho pins s2 σ H2 x y v u _ I2 r1 r2 q2) fun c s3 ⟨z, H3, I3, r3, k, e, q3⟩ => ?_) hm
  subst e
  cases r3
  exact wpAny_truthy_bool ⟨H3, I3, q3⟩
/-- a op1 b op2 c -/
def tChain (r r' : R2) (ta tb tc : TE) : TE := fun σ H Q => ta σ H fun x H1 => tb σ H1 fun y H2 => r x y H2 fun z H3 => ∃ k, z = .bl k ∧
  (if k = true then tc σ H3 fun w' H4 => r' y w' H4 Q else Q (.bl false) H3)
theorem pe_chain {op op' : CmpOp} {r r' : R2} (ho : OpR X (compareOp op) r) (ho' : OpR X (compareOp op') r') (ha : PE X a ta) (hb : PE X b tb) (hc : PE X c tc)
    (hm : lastMarks [op, op'] [b, c] = false := by with_unfolding_all rfl) : PE X (.Compare a [op, op'] [b, c] pos) (tChain r r' ta tb tc) := by
  intro pins s σ H Q I h
  refine Compare_chain (thn (ha pins s σ H _ I h) fun v s1 ⟨x, H1, I1, r1, q1⟩ => chain_link (thn (hb pins s1 σ H1 _ I1 q1) fun u s2 ⟨y, H2, I2, r2, q2⟩ =>
    thn (ho pins s2 σ H2 x y v u _ I2 r1 r2 q2) fun d s3 ⟨z, H3, I3, r3, k, e, q3⟩ => ?_)) hm
  subst e
  cases r3
  refine wpAny_truthy_bool ?_
  cases k with
  | false => exact ite_ff ⟨.bl false, H3, I3, rfl, q3⟩
  | true => exact ite_tt (chain_last (thn (hc pins s3 σ H3 _ I3 q3) fun w' s4 ⟨z', H4, I4, r4, q4⟩ => ho' pins s4 σ H4 y z' u w' Q I4 r2 r4 q4))
theorem pt_chain {op op' : CmpOp} {r r' : R2} (ho : OpR X (compareOp op) r) (ho' : OpR X (compareOp op') r') (ha : PE X a ta) (hb : PE X b tb) (hc : PE X c tc)
    (hm : lastMarks [op, op'] [b, c] = false := by with_unfolding_all rfl) : PT X (.Compare a [op, op'] [b, c] pos) (tTest (tChain r r' ta tb tc)) := by
  intro pins s σ H Q I h
  refine isTrue_chain (thn (ha pins s σ H _ I h) fun v s1 ⟨x, H1, I1, r1, q1⟩ => test_link (thn (hb pins s1 σ H1 _ I1 q1) fun u s2 ⟨y, H2, I2, r2, q2⟩ =>
    thn (ho pins s2 σ H2 x y v u _ I2 r1 r2 q2) fun d s3 ⟨z, H3, I3, r3, k, e, q3⟩ => ?_)) hm
  subst e
  cases r3
  refine wpAny_truthy_bool ?_
  cases k with
  | false =>
    obtain ⟨k', e', q'⟩ := q3
    cases e'
    exact ite_ff ⟨H3, I3, q'⟩
  | true =>
    refine ite_tt (test_last (thn (hc pins s3 σ H3 _ I3 q3) fun w' s4 ⟨z', H4, I4, r4, q4⟩ => thn (ho' pins s4 σ H4 y z' u w' _ I4 r2 r4 q4) fun d' s5 ⟨z2, H5, I5, r5, k2, e2, q5⟩ => ?_))
    subst e2
    cases r5
    exact wpAny_truthy_bool ⟨H5, I5, q5⟩

/-! ### truth -/
/-- a value's truth by the abstract heap -/
def TruV (K : PySem.W.Frag) (x : V) (H : Hp) (k : Bool) : Prop :=
  match x with
  | .non => k = false
  | .bl b => k = b
  | .int i => k = (i != 0)
  | .str y => y.length ≤ sizeLine ∧ k = ((y.length : Int) != 0)
  | .byt y => y.size ≤ sizeLine ∧ k = ((y.size : Int) != 0)
  | .ref p => (∃ xs, SqL K H p xs ∧ k = !xs.isEmpty) ∨ (∃ xs, SqT K H p xs ∧ k = !xs.isEmpty) ∨ ∃ kvs, H p = some (.dK kvs) ∧ k = !kvs.isEmpty
  | _ => False
theorem isEmpty_kv {κ : Type} {kvs : List (κ × V)} {vs : List (κ × Value)} (r : KV kvs vs) : (!vs.isEmpty) = !kvs.isEmpty := by
  cases r <;> rfl
theorem isEmpty_of {xs : List V} {its : List Value} (r : Vals xs its) : (!its.toArray.isEmpty) = !xs.isEmpty := by
  cases r <;> simp
theorem line63 : (sizeLine : Nat) < 2 ^ 63 := by rw [sizeLine_eq]; decide
theorem tru_ok : TruR X (fun x H Q => ∃ k, TruV X.K x H k ∧ Q k H) := by
  intro pins s σ H x v Q I rx h
  obtain ⟨k, e, q⟩ := h
  have hl := line63
  have hs : sizeLine = 16777216 := sizeLine_eq
  cases x with
  | non =>
    cases rx
    have e' : k = false := e
    subst e'
    exact truthy_none ⟨H, I, q⟩
  | bl b =>
    cases rx
    have e' : k = b := e
    subst e'
    exact wpAny_truthy_bool ⟨H, I, q⟩
  | int i =>
    obtain ⟨t, rfl⟩ := rx
    have e' : k = (i != 0) := e
    subst e'
    exact PySem.P.truthy_int ⟨H, I, q⟩
  | str y =>
    obtain ⟨t, rfl⟩ := rx
    obtain ⟨hy, e'⟩ : y.length ≤ sizeLine ∧ k = ((y.length : Int) != 0) := e
    subst e'
    exact PySem.P.truthy_str (by omega) ⟨H, I.tok _, q⟩
  | byt y =>
    obtain ⟨t, rfl⟩ := rx
    obtain ⟨hy, e'⟩ : y.size ≤ sizeLine ∧ k = ((y.size : Int) != 0) := e
    subst e'
    exact PySem.W.truthy_bytes (by omega) ⟨H, I.tok _, q⟩
  | ref p =>
    cases rx
    have e' : (∃ xs, SqL X.K H p xs ∧ k = !xs.isEmpty) ∨ (∃ xs, SqT X.K H p xs ∧ k = !xs.isEmpty) ∨ ∃ kvs, H p = some (.dK kvs) ∧ k = !kvs.isEmpty := e
    rcases e' with ⟨xs, hx, e'⟩ | ⟨xs, hx, e'⟩ | ⟨kvs, hx, e'⟩
    · subst e'
      obtain ⟨its, r, pl, hz⟩ := I.list hx
      have hlen := r.length
      exact wpAny_truthy_list pl.isList (by simp only [List.size_toArray]; omega) ⟨H, I.tok _, by rw [isEmpty_of r]; exact q⟩
    · subst e'
      obtain ⟨its, r, pl, hz⟩ := I.tuple hx
      have hlen := r.length
      exact truthy_tuple pl (by simp only [List.size_toArray]; omega) ⟨H, I.tok _, by rw [isEmpty_of r]; exact q⟩
    · subst e'
      obtain ⟨hz, hS, vs, r, m⟩ : kvs.length ≤ sizeLine ∧ (p == sysModules) = false ∧ ∃ vs, KV kvs vs ∧ s.heap.DictOf (mixKind X.prog X.w) p vs := I.hok p _ hx
      have hlen : kvs.length = vs.length := Paired.length r
      exact wpAny_truthy_dict hS m (by omega) ⟨H, I.tok _, by rw [isEmpty_kv r]; exact q⟩
  | _ => exact (show False from e).elim
/-- any expression whose test is its value's truth (a name, a call, a subscript, a field ..: he by fun _ => rfl) -/
theorem pt_truth (ha : PE X a ta) (he : ∀ whole, isTrue a X.env whole = (do let v ← whole; standAt a.pos; holding [v] (truthy v))) :
    PT X a (fun σ H Q => ta σ H fun x H' => ∃ k, TruV X.K x H' k ∧ Q k H') := by
  intro pins s σ H Q I h
  exact isTrue_plain (thn (ha pins s σ H _ I h) fun v s1 ⟨x, H1, I1, r1, q1⟩ => tru_ok pins s1 σ H1 x v Q I1 r1 q1) (he _)

/-! ### strs and bytes -/
theorem pe_byt {x : List UInt8} {k : Nat} : PE X (.Constant (.bytes x) k pos) (fun _ H Q => Q (.byt x.toArray) H) := fun _ _ _ H _ I h => PySem.W.Constant_bytes ⟨.byt x.toArray, H, I.tok _, ⟨_, rfl⟩, h⟩
theorem op_add_str : OpR X (binaryOp .Add) (fun x y H Q => ∃ i j, x = .str i ∧ y = .str j ∧ i.length + j.length ≤ sizeLine ∧ Q (.str (i ++ j)) H) := by
  intro pins s σ H x y v u Q I rx ry h
  obtain ⟨i, j, rfl, rfl, hz, q⟩ := h
  obtain ⟨t, rfl⟩ := rx
  obtain ⟨t', rfl⟩ := ry
  exact add_str (fun t' tk => ⟨.str (i ++ j), H, I.tok _, ⟨_, rfl⟩, q⟩) hz
theorem iop_add_str : OpR X (inplaceOp .Add) (fun x y H Q => ∃ i j, x = .str i ∧ y = .str j ∧ i.length + j.length ≤ sizeLine ∧ Q (.str (i ++ j)) H) := by
  intro pins s σ H x y v u Q I rx ry h
  obtain ⟨i, j, rfl, rfl, hz, q⟩ := h
  obtain ⟨t, rfl⟩ := rx
  obtain ⟨t', rfl⟩ := ry
  exact iadd_str (fun t' tk => ⟨.str (i ++ j), H, I.tok _, ⟨_, rfl⟩, q⟩) hz
theorem op_add_byt : OpR X (binaryOp .Add) (fun x y H Q => ∃ i j, x = .byt i ∧ y = .byt j ∧ i.size + j.size ≤ 16777216 ∧ Q (.byt (i ++ j)) H) := by
  intro pins s σ H x y v u Q I rx ry h
  obtain ⟨i, j, rfl, rfl, hz, q⟩ := h
  obtain ⟨t, rfl⟩ := rx
  obtain ⟨t', rfl⟩ := ry
  exact PySem.W.KBy.add_bytes hz (fun t' tk => ⟨.byt (i ++ j), H, I.tok _, ⟨_, rfl⟩, q⟩)

def PlainIxT (b : Expr) : Prop := ∀ o i, subscripted b false o i = operate [o, i] (getItem o i)
/-- s[i], 0 ≤ i < len -/
theorem pe_item_str (ha : PE X a ta) (hb : PE X b tb) (hs : PlainIxT b) :
    PE X (.Subscript a b pos) (tOp (fun x y H Q => ∃ z i c, x = .str z ∧ y = .int i ∧ 0 ≤ i ∧ i < 2 ^ 63 ∧ i < z.length ∧ z.cps[i.toNat]? = some c ∧ Q (.str ⟨#[c]⟩) H) ta tb) := by
  intro pins s σ H Q I h
  refine Subscript_ (binT ha hb I h fun v u s2 x y H2 I2 rx ry q => ?_)
  obtain ⟨z, i, c, rfl, rfl, h0, h63, h1, hc, q⟩ := q
  obtain ⟨t, rfl⟩ := rx
  obtain ⟨t', rfl⟩ := ry
  have e : seqIndex? i z.length = some i.toNat := PySem.StrLaws.seqIndex_nonneg h0 h1
  exact tail_any (typeIs_str s2 z t) slot_str_getitem.lookup (getItem_str (c := c) (by
    have e1 : decide (i < -(2 ^ 63 : Int)) = false := decide_eq_false (by omega)
    have e2 : decide (i ≥ 2 ^ 63) = false := decide_eq_false (by omega)
    rw [e1, e2] <;> rfl) (by rw [e]; exact hc) ⟨.str ⟨#[c]⟩, H2, I2.tok _, ⟨_, rfl⟩, q⟩) (hs _ _)
/-- b[i], 0 ≤ i < len -/
theorem pe_item_byt (ha : PE X a ta) (hb : PE X b tb) (hs : PlainIxT b) :
    PE X (.Subscript a b pos) (tOp (fun x y H Q => ∃ (z : List UInt8) (i : Int), x = .byt z.toArray ∧ y = .int i ∧ z.length ≤ sizeLine ∧ 0 ≤ i ∧ i < z.length ∧ Q (.int ((z.getD i.toNat 0).toNat : Nat)) H) ta tb) := by
  intro pins s σ H Q I h
  refine Subscript_ (binT ha hb I h fun v u s2 x y H2 I2 rx ry q => ?_)
  obtain ⟨z, i, rfl, rfl, hz, h0, h1, q⟩ := q
  obtain ⟨t, rfl⟩ := rx
  obtain ⟨t', rfl⟩ := ry
  have hl : sizeLine = 16777216 := sizeLine_eq
  exact tail_any (PySem.W.typeIs_bytes s2 z.toArray t) PySem.W.FB.slot_bytes_getitem.lookup (PySem.W.getItem_bytes (by omega) h0 h1 ⟨.int ((z.getD i.toNat 0).toNat : Nat), H2, I2.tok _, ⟨_, rfl⟩, q⟩) (hs _ _)

/-! ### scalar builtins, by CallR -/
theorem vals1 {x : V} {us : List Value} (r : Vals [x] us) : ∃ u, us = [u] ∧ RelV x u := by
  cases r with
  | cons r1 r2 => cases r2; exact ⟨_, rfl, r1⟩
theorem vals2 {x y : V} {us : List Value} (r : Vals [x, y] us) : ∃ u w', us = [u, w'] ∧ RelV x u ∧ RelV y w' := by
  cases r with
  | cons r1 r2 =>
    cases r2 with
    | cons r3 r4 => cases r4; exact ⟨_, _, rfl, r1, r3⟩
theorem call_abs : CallR X (.builtin "abs") (fun xs H Q => ∃ i, xs = [.int i] ∧ Q (.int (if i < 0 then -i else i)) H) := by
  intro pins s σ H xs us Q I r h
  obtain ⟨i, rfl, q⟩ := h
  obtain ⟨u, rfl, t, rfl⟩ := vals1 r
  exact call_abs_int fun u tk => ⟨.int (if i < 0 then -i else i), H, I.tok _, ⟨_, rfl⟩, q⟩
theorem call_max2 (hc : X.calm = true) : CallR X (.builtin "max") (fun xs H Q => ∃ i j, xs = [.int i, .int j] ∧ Q (.int (if j > i then j else i)) H) := by
  intro pins s σ H xs us Q I r h
  obtain ⟨i, j, rfl, q⟩ := h
  obtain ⟨u, w', rfl, ⟨t, rfl⟩, ⟨t', rfl⟩⟩ := vals2 r
  refine max_two_ints (I.ok.hd hc) fun h' tk k => ⟨_, H, I.kept k, ?_, q⟩
  by_cases hj : j > i
  · rw [if_pos hj, if_pos hj]; exact ⟨_, rfl⟩
  · rw [if_neg hj, if_neg hj]; exact ⟨_, rfl⟩
theorem call_min2 (hc : X.calm = true) : CallR X (.builtin "min") (fun xs H Q => ∃ i j, xs = [.int i, .int j] ∧ Q (.int (if j < i then j else i)) H) := by
  intro pins s σ H xs us Q I r h
  obtain ⟨i, j, rfl, q⟩ := h
  obtain ⟨u, w', rfl, ⟨t, rfl⟩, ⟨t', rfl⟩⟩ := vals2 r
  refine min_two_ints (I.ok.hd hc) fun h' tk k => ⟨_, H, I.kept k, ?_, q⟩
  by_cases hj : j < i
  · rw [if_pos hj, if_pos hj]; exact ⟨_, rfl⟩
  · rw [if_neg hj, if_neg hj]; exact ⟨_, rfl⟩
theorem call_int1 : CallR X (.type "int") (fun xs H Q => (∃ i, xs = [.int i] ∧ Q (.int i) H) ∨ ∃ k, xs = [.bl k] ∧ Q (.int (if k then 1 else 0)) H) := by
  intro pins s σ H xs us Q I r h
  rcases h with ⟨i, rfl, q⟩ | ⟨k, rfl, q⟩
  · obtain ⟨u, rfl, t, rfl⟩ := vals1 r
    exact call_int_int ⟨.int i, H, I, ⟨_, rfl⟩, q⟩
  · obtain ⟨u, rfl, r1⟩ := vals1 r
    cases r1
    exact call_int_bool ⟨.int (if k then 1 else 0), H, I.tok _, ⟨_, rfl⟩, q⟩
theorem call_bool1 : CallR X (.type "bool") (fun xs H Q => (∃ i, xs = [.int i] ∧ Q (.bl (i != 0)) H) ∨ ∃ k, xs = [.bl k] ∧ Q (.bl k) H) := by
  intro pins s σ H xs us Q I r h
  rcases h with ⟨i, rfl, q⟩ | ⟨k, rfl, q⟩
  · obtain ⟨u, rfl, t, rfl⟩ := vals1 r
    exact call_bool_int ⟨.bl (i != 0), H, I, rfl, q⟩
  · obtain ⟨u, rfl, r1⟩ := vals1 r
    cases r1
    exact call_bool_bool ⟨.bl k, H, I, rfl, q⟩
theorem call_str_int : CallR X (.type "str") (fun xs H Q => ∃ i, xs = [.int i] ∧ i.natAbs.log2 < 1920 ∧ Q (.str (toString i)) H) := by
  intro pins s σ H xs us Q I r h
  obtain ⟨i, rfl, hz, q⟩ := h
  obtain ⟨u, rfl, t, rfl⟩ := vals1 r
  exact PySem.P.str_of_int hz ⟨.str _, H, I.tok _, ⟨_, rfl⟩, q⟩
theorem call_ord : CallR X (.builtin "ord") (fun xs H Q => ∃ x, xs = [.str x] ∧ x.length = 1 ∧ Q (.int (x.cps.getD 0 0 : Nat)) H) := by
  intro pins s σ H xs us Q I r h
  obtain ⟨x, rfl, hz, q⟩ := h
  obtain ⟨u, rfl, t, rfl⟩ := vals1 r
  exact ord_of_one hz ⟨.int _, H, I.tok _, ⟨_, rfl⟩, q⟩
theorem call_chr : CallR X (.builtin "chr") (fun xs H Q => ∃ i, xs = [.int i] ∧ 0 ≤ i ∧ i ≤ 1114111 ∧ Q (.str ⟨#[i.toNat]⟩) H) := by
  intro pins s σ H xs us Q I r h
  obtain ⟨i, rfl, h0, h1, q⟩ := h
  obtain ⟨u, rfl, t, rfl⟩ := vals1 r
  exact chr_of_range h0 h1 ⟨.str _, H, I.tok _, ⟨_, rfl⟩, q⟩
/-- len of a str, a bytes, a list, a tuple -/
def LenV (K : PySem.W.Frag) (x : V) (H : Hp) (n : Nat) : Prop :=
  match x with
  | .str y => y.length ≤ sizeLine ∧ n = y.length
  | .byt y => y.size ≤ sizeLine ∧ n = y.size
  | .ref p => (∃ xs, SqL K H p xs ∧ n = xs.length) ∨ ∃ xs, SqT K H p xs ∧ n = xs.length
  | _ => False
theorem call_len : CallR X (.builtin "len") (fun xs H Q => ∃ x n, xs = [x] ∧ LenV X.K x H n ∧ Q (.int n) H) := by
  intro pins s σ H xs us Q I r h
  obtain ⟨x, n, rfl, e, q⟩ := h
  obtain ⟨u, rfl, rx⟩ := vals1 r
  have hl := line63
  have hs : sizeLine = 16777216 := sizeLine_eq
  cases x with
  | str y =>
    obtain ⟨t, rfl⟩ := rx
    obtain ⟨hy, e'⟩ : y.length ≤ sizeLine ∧ n = y.length := e
    subst e'
    exact len_str (by omega) ⟨.int _, H, I.tok _, ⟨_, rfl⟩, q⟩
  | byt y =>
    obtain ⟨t, rfl⟩ := rx
    obtain ⟨hy, e'⟩ : y.size ≤ sizeLine ∧ n = y.size := e
    subst e'
    exact PySem.W.len_bytes (by omega) ⟨.int _, H, I.tok _, ⟨_, rfl⟩, q⟩
  | ref p =>
    cases rx
    have e' : (∃ xs, SqL X.K H p xs ∧ n = xs.length) ∨ ∃ xs, SqT X.K H p xs ∧ n = xs.length := e
    rcases e' with ⟨xs, hx, e'⟩ | ⟨xs, hx, e'⟩
    · subst e'
      obtain ⟨its, r', pl, hz⟩ := I.list hx
      have hlen := r'.length
      exact Calls.call_len_list pl.isList (by simp only [List.size_toArray]; omega) ⟨.int xs.length, H, I.tok _, ⟨_, by simp only [List.size_toArray]; rw [hlen]⟩, q⟩
    · subst e'
      obtain ⟨its, r', pl, hz⟩ := I.tuple hx
      have hlen := r'.length
      exact len_tuple pl (by simp only [List.size_toArray]; omega) ⟨.int xs.length, H, I.tok _, ⟨_, by simp only [List.size_toArray]; rw [hlen]⟩, q⟩
  | _ => exact (show False from e).elim
/-- divmod: a new tuple -/
theorem call_divmod : CallR X (.builtin "divmod") (fun xs H Q => ∃ i j, xs = [.int i, .int j] ∧ CDiv i j ∧ ∀ p, H p = none → Q (.ref p) (upd H p (.tup [.int (i / j), .int (i % j)]))) := by
  intro pins s σ H xs us Q I r h
  obtain ⟨i, j, rfl, ⟨h1, h2⟩, q⟩ := h
  obtain ⟨u, w', rfl, ⟨t, rfl⟩, ⟨t', rfl⟩⟩ := vals2 r
  refine divmod_int (by omega) ?_ (.inl (PyProof.noPylong_small (by omega)))
  rw [Int.fdiv_eq_ediv_of_nonneg i (by omega), Int.fmod_eq_emod_of_nonneg i (by omega)]
  have hn : H s.heap.objs.size = none := I.hok.fresh (Nat.le_refl _)
  refine ⟨.ref s.heap.objs.size, _, ?_, rfl, q _ hn⟩
  refine I.laid (fun b o e => Heap.get?_push_of_some _ e) (Nat.le_refl _) ⟨by simp only [List.length_cons, List.length_nil]; rw [sizeLine_eq]; decide, [.int (i / j) s.toks, .int (i % j) (s.toks + 1)], .cons ⟨_, rfl⟩ (.cons ⟨_, rfl⟩ .nil), ?_⟩
  exact ⟨_, Heap.get?_push_size s.heap rfl, rfl, 0, rfl⟩
end
end L2

namespace L2
open PySem PySem.Spec PyProof.Rows

/-! ### an instance, its attributes a map -/
structure ObjM (h : Heap) (x dx C : Addr) (mA : Str → Option Value) : Prop where
  obj : h.get? x = some (PySem.W.instObj C dx)
  ns : h.Ns1 dx mA
  ne : dx ≠ x

theorem lookIn_ns {h : Heap} {dx : Addr} {mA : Str → Option Value} (n : h.Ns1 dx mA) : ∃ od, h.get? dx = some od ∧ ∀ name, PySem.W.lookIn name od = some (mA name) := by
  obtain ⟨o, es, ep, ho, hd, hk, _, hm⟩ := n
  refine ⟨o, ho, fun name => ?_⟩
  have e := hm name
  unfold nsFind findBy at e
  rw [← Array.find?_toList] at e
  unfold PySem.W.lookIn
  rw [hd]
  dsimp only
  split
  · rename_i y q
    rw [q] at e
    exact congrArg some e
  · rename_i q
    rw [q] at e
    have a : es.toList.any (·.refKey) = false := by
      rw [List.any_eq_false]
      intro y hy
      obtain ⟨z, t, hkey⟩ := hk y (Array.mem_toList_iff.mp hy)
      simp [DictEntry.refKey, hkey]
    have a' : ¬ es.toList.any (·.refKey) = true := by rw [a]; exact Bool.false_ne_true
    rw [if_neg a']
    exact congrArg some e

theorem ObjM.look {h : Heap} {x dx C : Addr} {mA : Str → Option Value} (I : ObjM h x dx C mA) : ∃ od, PySem.W.InstAt h x (PySem.W.instObj C dx) C (some od) ∧ ∀ name, PySem.W.lookIn name od = some (mA name) :=
  let ⟨od, ho, hl⟩ := lookIn_ns I.ns
  ⟨od, ⟨I.obj, rfl, rfl, ho⟩, hl⟩

section
variable {prog : Program} {w : World} {A : Around} {E : Value → Shared → Prop} {s : Shared} {K : PySem.W.Frag} {x dx C f : Addr} {mA : Str → Option Value} {name : Str} {v : Value}

theorem get_map {expr : Bool} {Q : Value → Shared → Prop} (X : K.In s.heap) (I : ObjM s.heap x dx C mA) (hg : PySem.W.plainGet K C name = true) (hh : PySem.W.hasDictIn K C = true)
    (ha : PySem.W.findIn K (.ref C) name = some none) (hv : mA name = some v) (hv' : PySem.W.handedIn v = true) (h : Q v { s with toks := s.toks + 1 }) :
    wpAny (model prog w) A (getAttr (.ref x) name expr) Q E s := by
  obtain ⟨od, J, hl⟩ := I.look
  exact PySem.W.get_value X J (PySem.W.plainGet_of hg).1 (PySem.W.findObj_own hh ha rfl (by rw [hl, hv])) hv' h

theorem get_const {expr : Bool} {a : Value} {Q : Value → Shared → Prop} (X : K.In s.heap) (I : ObjM s.heap x dx C mA) (hg : PySem.W.plainGet K C name = true) (hh : PySem.W.hasDictIn K C = true)
    (ha : PySem.W.findIn K (.ref C) name = some (some a)) (hn : PySem.W.specialIn K a "__get__" = some none) (hc : PySem.W.copiedNames.contains name = false) (hv : mA name = none) (hv' : PySem.W.handedIn a = true)
    (h : Q a { s with toks := s.toks + 1 }) : wpAny (model prog w) A (getAttr (.ref x) name expr) Q E s := by
  obtain ⟨od, J, hl⟩ := I.look
  exact PySem.W.get_value X J (PySem.W.plainGet_of hg).1 (PySem.W.findObj_cls hh ha hn hv' hc (by rw [hl, hv])) hv' h

theorem get_meth {pl : Sem Bool} {Q : Value × List Value → Shared → Prop} (X : K.In s.heap) (I : ObjM s.heap x dx C mA) (hg : PySem.W.plainGet K C name = true)
    (hf : PySem.W.findIn K (.ref C) name = some (some (.ref f))) (ht : PySem.W.isFn K (.ref f) = true) (hv : mA name = none) (h : Q (.ref f, [.ref x]) s) :
    wpAny (model prog w) A (getMethod (.ref x) name pl) Q E s := by
  obtain ⟨od, J, hl⟩ := I.look
  exact PySem.W.method_fn X J (PySem.W.plainGet_of hg).1 (PySem.W.plainGet_of hg).2 hf (beq_iff_eq.mp ht) (by show (PySem.W.lookIn name od).map (·.isSome) = some false; rw [hl, hv]; rfl) h

theorem set_map {ns : List Str} {Q : Unit → Shared → Prop} (X : K.In s.heap) (I : ObjM s.heap x dx C mA)
    (hs : PySem.W.findIn K (.ref C) "__setattr__" = some (some (.builtin "object.__setattr__"))) (hp : PySem.W.plainOver K C = true) (ht : PySem.W.takerIn K C name = some none) (hh : PySem.W.hasDictIn K C = true)
    (hw : PySem.Within mA ns) (hsz : ns.length ≤ sizeLine)
    (h : ∀ h', ObjM h' x dx C (fun y => if y = name then some v else mA y) → Heap.SameBut dx s.heap h' → Q () { s with heap := h', toks := s.toks + 2 }) :
    wpAny (model prog w) A (setAttr (.ref x) name v) Q E s := by
  obtain ⟨od, J, hl⟩ := I.look
  refine PySem.W.set_plain X J hs (PySem.W.osa_open (s := { s with toks := s.toks + 1 }) (r := none) X J hp ht fun b => ?_)
  obtain ⟨cd, hc, hd'⟩ := PySem.W.any_some hh
  have hx : s.heap.get? x = some ⟨.ref C, some dx, .plain, #[]⟩ := I.obj
  refine wpAny_bind (wpAny_pure (wpAny_bind (wpAny_bind (wpAny_loadPart hx (wpAny_bind (PySem.W.Looks.here (s := { s with toks := s.toks + 1 }) (PySem.W.looks_clsIn X hc) ?_))))))
  rw [hd']
  refine wpAny_pure (a := some dx) (wpAny_bind (wpAny_pure (wpAny_bind ?_)))
  refine wpAny_nsSet1 (s := { s with toks := s.toks + 1 }) I.ns fun h' hn2 hs2 => ?_
  obtain ⟨oD, esD, epD, hoD, hdD, hcD⟩ := hn2.count (PySem.Within.cons name v hw)
  refine wpAny_bind (wpAny_lookBehind hoD (by rw [hdD]; exact pastItsLine_dict (Nat.le_trans hcD (by rw [List.length_cons]; omega))) ?_)
  exact wpAny_pure (h _ ⟨(hs2.2 _ (Ne.symm I.ne)).trans I.obj, hn2, I.ne⟩ hs2)

/-- C(..): the dict at the heap's end, the instance behind it; then its __init__ -/
theorem make_map {R : Result → Shared → Prop} {vs : List Value} {kw : List (Str × Value)} (X : K.In s.heap) (hm : PySem.W.makesIn K C = true)
    (hi : PySem.W.findIn K (.ref C) "__init__" = some (some (.ref f))) (hf : PySem.W.typeIn K (.ref f) = some (.type "function"))
    (h : codeAny (model prog w) (A.under (.builtin "type.__call__" ⟨.ref C :: vs, kw⟩)) (.call (.ref f) ⟨.ref (s.heap.objs.size + 1) :: vs, kw⟩) (PySem.W.InitBack (s.heap.objs.size + 1) R)
      { s with heap := (s.heap.push PySem.W.emptyDict).push (PySem.W.instObj C s.heap.objs.size) }) :
    codeAny (model prog w) A (.call (.ref C) ⟨vs, kw⟩) R s := by
  obtain ⟨hh, g, d, t, os⟩ := s
  exact PySem.W.make_core (PySem.W.makes_of X hm) (PySem.W.looks_findIn X hi) (fun self => PySem.W.bind_fn X self hf) (.inl rfl) h
/-- C() where there is no __init__ but object's -/
theorem make_map0 {R : Result → Shared → Prop} (X : K.In s.heap) (hm : PySem.W.makesIn K C = true)
    (hi : PySem.W.findIn K (.ref C) "__init__" = some (some (.builtin "object.__init__")))
    (hb : ∀ self, PySem.W.Looks (model prog w) s.heap (bindSpecial (.builtin "object.__init__") self) (.builtin "object.__init__", [self]))
    (h : codeAny (model prog w) (A.under (.builtin "type.__call__" ⟨[.ref C], []⟩)) (.call (.builtin "object.__init__") ⟨[.ref (s.heap.objs.size + 1)], []⟩) (PySem.W.InitBack (s.heap.objs.size + 1) R)
      { s with heap := (s.heap.push PySem.W.emptyDict).push (PySem.W.instObj C s.heap.objs.size) }) :
    codeAny (model prog w) A (.call (.ref C) ⟨[], []⟩) R s := by
  obtain ⟨hh, g, d, t, os⟩ := s
  exact PySem.W.make_core (PySem.W.makes_of X hm) (PySem.W.looks_findIn X hi) hb (.inr ⟨rfl, rfl⟩) h
end

/-! ### the attributes as a list of pairs -/
def putF (f : Str) (v : V) : List (Str × V) → List (Str × V)
  | [] => [(f, v)]
  | (g, x) :: r => if g = f then (g, v) :: r else (g, x) :: putF f v r
theorem lookup_putF (f g : Str) (v : V) : ∀ fs : List (Str × V), (putF f v fs).lookup g = if g = f then some v else fs.lookup g
  | [] => by
    show List.lookup g [(f, v)] = _
    by_cases h : g = f
    · have hb : (g == f) = true := beq_iff_eq.mpr h
      simp only [List.lookup, hb, if_pos h]
    · have hb : (g == f) = false := beq_eq_false_iff_ne.mpr h
      simp only [List.lookup, hb, if_neg h]
  | (k, x) :: r => by
    have ih := lookup_putF f g v r
    rw [show putF f v ((k, x) :: r) = (if k = f then (k, v) :: r else (k, x) :: putF f v r) from rfl]
    by_cases hk : k = f
    · rw [if_pos hk]
      by_cases h : g = k
      · have hb : (g == k) = true := beq_iff_eq.mpr h
        simp only [List.lookup, hb, if_pos (h.trans hk)]
      · have hb : (g == k) = false := beq_eq_false_iff_ne.mpr h
        simp only [List.lookup, hb, if_neg (fun e : g = f => h (e.trans hk.symm))]
    · rw [if_neg hk]
      by_cases h : g = k
      · have hb : (g == k) = true := beq_iff_eq.mpr h
        simp only [List.lookup, hb, if_neg (fun e : g = f => hk (h.symm.trans e))]
      · have hb : (g == k) = false := beq_eq_false_iff_ne.mpr h
        simp only [List.lookup, hb]
        exact ih
theorem keys_putF (f : Str) (v : V) : ∀ fs : List (Str × V), f ∈ (putF f v fs).map (·.1) ∧ ∀ g, g ∈ fs.map (·.1) → g ∈ (putF f v fs).map (·.1)
  | [] => ⟨by simp [putF], fun g h => by simp at h⟩
  | (k, x) :: r => by
    obtain ⟨i1, i2⟩ := keys_putF f v r
    rw [show putF f v ((k, x) :: r) = (if k = f then (k, v) :: r else (k, x) :: putF f v r) from rfl]
    by_cases hk : k = f
    · rw [if_pos hk]
      subst hk
      exact ⟨by simp, fun g h => by simpa using h⟩
    · rw [if_neg hk]
      refine ⟨?_, fun g h => ?_⟩
      · rw [List.map_cons]
        exact List.mem_cons_of_mem _ i1
      · rw [List.map_cons] at h ⊢
        rcases List.mem_cons.mp h with e | e
        · exact List.mem_cons.mpr (.inl e)
        · exact List.mem_cons_of_mem _ (i2 g e)
theorem length_putF (f : Str) (v : V) : ∀ fs : List (Str × V), (putF f v fs).length ≤ fs.length + 1
  | [] => by simp [putF]
  | (k, x) :: r => by
    have ih := length_putF f v r
    rw [show putF f v ((k, x) :: r) = (if k = f then (k, v) :: r else (k, x) :: putF f v r) from rfl]
    by_cases hk : k = f
    · rw [if_pos hk, List.length_cons, List.length_cons]; omega
    · rw [if_neg hk, List.length_cons, List.length_cons]; omega

theorem RelO.some_of {v : V} {o : Option Value} (r : RelO (some v) o) : ∃ u, o = some u ∧ RelV v u := by
  cases o with
  | none => exact (show False from r).elim
  | some u => exact ⟨u, rfl, r⟩
theorem RelO.none_of {o : Option Value} (r : RelO none o) : o = none := by
  cases o with
  | none => rfl
  | some u => exact (show False from r).elim
theorem handed_of {v : V} {u : Value} (r : RelV v u) : PySem.W.handedIn u = true := by
  cases v with
  | non => cases (show u = Value.none from r); rfl
  | bl b => cases (show u = Value.bool b from r); rfl
  | int i => obtain ⟨t, e⟩ := (show ∃ t, u = Value.int i t from r); cases e; rfl
  | str x => obtain ⟨t, e⟩ := (show ∃ t, u = Value.str x t from r); cases e; rfl
  | byt b => obtain ⟨t, e⟩ := (show ∃ t, u = Value.bytes b t from r); cases e; rfl
  | flt b => obtain ⟨t, e⟩ := (show ∃ t, u = Value.float b t from r); cases e; rfl
  | ref a => cases (show u = Value.ref a from r); rfl
  | ty n => cases (show u = Value.type n from r); rfl

section
variable {P : Program} {w : World} {H H' : Hp} {h h' : Heap} {a C dx : Addr} {fs fs' : List (Str × V)}
theorem ins_get (hok : HOk P w H h) (e : H a = some (.ins C dx fs)) : ∃ mA, ObjM h a dx C mA ∧ (∀ f, RelO (fs.lookup f) (mA f)) ∧ PySem.Within mA (fs.map (·.1)) ∧ fs.length ≤ 1000 ∧ H dx = some (.own a) := by
  obtain ⟨d, z, ne, ob, mA, n, r, q⟩ := (show ObjOk P w H h a (.ins C dx fs) from hok a _ e)
  exact ⟨mA, ⟨ob, n, ne⟩, r, q, z, d⟩
end

/-! ### what of the text a class must have -/
structure Cls (K : PySem.W.Frag) (C : Addr) : Prop where
  pg : PySem.W.plainGet K C Str.empty = true
  hd : PySem.W.hasDictIn K C = true
  po : PySem.W.plainOver K C = true
  sa : PySem.W.findIn K (.ref C) "__setattr__" = some (some (.builtin "object.__setattr__"))
theorem Cls.get {K : PySem.W.Frag} {C : Addr} (c : Cls K C) (f : Str) : PySem.W.plainGet K C f = true := c.pg
/-- no class of it has the name -/
def NoAttr (K : PySem.W.Frag) (C : Addr) (f : Str) : Prop := PySem.W.findIn K (.ref C) f = some none
theorem NoAttr.taker {K : PySem.W.Frag} {C : Addr} {f : Str} (n : NoAttr K C f) : PySem.W.takerIn K C f = some none := by
  unfold PySem.W.takerIn
  rw [show PySem.W.findIn K (.ref C) f = some none from n]
  rfl
/-- a constant of the class -/
structure Con (K : PySem.W.Frag) (C : Addr) (f : Str) (v : V) (u : Value) : Prop where
  at_ : PySem.W.findIn K (.ref C) f = some (some u)
  rel : RelV v u
  get : PySem.W.specialIn K u "__get__" = some none
  cp : PySem.W.copiedNames.contains f = false
/-- a method: a plain def of the class or of one above it -/
structure Meth (K : PySem.W.Frag) (C : Addr) (m : Str) (f : Addr) : Prop where
  at_ : PySem.W.findIn K (.ref C) m = some (some (.ref f))
  fn : PySem.W.isFn K (.ref f) = true
  kp : PySem.W.keepIn K (.ref f) = true

section
variable {X : Cx} {pins : List (Addr × Obj)} {σ : St} {H : Hp} {s : Shared} {a C dx : Addr} {fs : List (Str × V)} {f : Str} {v : V} {A : Around} {E : Value → Shared → Prop}

theorem getattr_ok {b : Bool} {Q : Value → Shared → Prop} (I : Inv X pins σ H s) (e : H a = some (.ins C dx fs)) (c : Cls X.K C) (n : NoAttr X.K C f) (l : fs.lookup f = some v)
    (h : ∀ u s', Inv X pins σ H s' → RelV v u → Q u s') : wpAny (model X.prog X.w) A (getAttr (.ref a) f b) Q E s := by
  obtain ⟨mA, O, r, _, _, _⟩ := ins_get I.hok e
  obtain ⟨u, hu, ru⟩ := RelO.some_of (v := v) (o := mA f) (by rw [← l]; exact r f)
  exact get_map I.kIn O (c.get f) c.hd n hu (handed_of ru) (h u _ (I.tok _) ru)

theorem getcon_ok {b : Bool} {u : Value} {Q : Value → Shared → Prop} (I : Inv X pins σ H s) (e : H a = some (.ins C dx fs)) (c : Cls X.K C) (k : Con X.K C f v u) (l : fs.lookup f = none)
    (h : ∀ s', Inv X pins σ H s' → Q u s') : wpAny (model X.prog X.w) A (getAttr (.ref a) f b) Q E s := by
  obtain ⟨mA, O, r, _, _, _⟩ := ins_get I.hok e
  have hn : mA f = none := RelO.none_of (by rw [← l]; exact r f)
  exact get_const I.kIn O (c.get f) c.hd k.at_ k.get k.cp hn (handed_of k.rel) (h _ (I.tok _))

theorem getmeth_ok {m : Str} {g : Addr} {pl : Sem Bool} {Q : Value × List Value → Shared → Prop} (I : Inv X pins σ H s) (e : H a = some (.ins C dx fs)) (c : Cls X.K C) (k : Meth X.K C m g) (l : fs.lookup m = none)
    (h : Q (.ref g, [.ref a]) s) : wpAny (model X.prog X.w) A (getMethod (.ref a) m pl) Q E s := by
  obtain ⟨mA, O, r, _, _, _⟩ := ins_get I.hok e
  have hn : mA m = none := RelO.none_of (by rw [← l]; exact r m)
  exact get_meth I.kIn O (c.get m) k.at_ k.fn hn h

theorem setattr_ok {y : V} {u : Value} {Q : Unit → Shared → Prop} (I : Inv X pins σ H s) (e : H a = some (.ins C dx fs)) (c : Cls X.K C) (n : NoAttr X.K C f) (hl : fs.length < 1000) (ry : RelV y u)
    (h : ∀ s', Inv X pins σ (upd H a (.ins C dx (putF f y fs))) s' → Q () s') : wpAny (model X.prog X.w) A (setAttr (.ref a) f u) Q E s := by
  obtain ⟨mA, O, r, wi, _, ho⟩ := ins_get I.hok e
  have hz : (fs.map (·.1)).length ≤ sizeLine := by rw [List.length_map, sizeLine_eq]; omega
  refine set_map I.kIn O c.sa c.po n.taker c.hd wi hz fun h' O' sb => h _ ?_
  have hd : ∃ o, h'.get? dx = some o := let ⟨o, _, _, e', _⟩ := O'.ns; ⟨o, e'⟩
  refine I.write (x := a) (e := dx) (by rw [e]; exact True.intro) (.inr ho) (fun b q hb z => (sb.2 b hb).trans z) hd ?_
  refine ⟨by rw [upd_ne O.ne]; exact ho, ?_, O.ne, O'.obj, _, O'.ns, fun g => ?_, fun g hg => ?_⟩
  · have := length_putF f y fs; omega
  · show RelO ((putF f y fs).lookup g) (if g = f then some u else mA g)
    rw [lookup_putF]
    by_cases q : g = f
    · rw [if_pos q, if_pos q]; exact ry
    · rw [if_neg q, if_neg q]; exact r g
  · by_cases q : g = f
    · rw [q]; exact (keys_putF f y fs).1
    · refine (keys_putF f y fs).2 g (wi g fun z => hg ?_)
      show (if g = f then some u else mA g) = none
      rw [if_neg q]; exact z

/-- a new instance, tracked, without attributes -/
theorem Inv.made (I : Inv X pins σ H s) : Inv X pins σ (upd (upd H s.heap.objs.size (.own (s.heap.objs.size + 1))) (s.heap.objs.size + 1) (.ins C s.heap.objs.size []))
    { s with heap := (s.heap.push PySem.W.emptyDict).push (PySem.W.instObj C s.heap.objs.size) } := by
  have e1 : (s.heap.push PySem.W.emptyDict).get? s.heap.objs.size = some PySem.W.emptyDict := Heap.get?_push_size s.heap rfl
  have e2 : ((s.heap.push PySem.W.emptyDict).push (PySem.W.instObj C s.heap.objs.size)).get? (s.heap.objs.size + 1) = some (PySem.W.instObj C s.heap.objs.size) := by
    have := Heap.get?_push_size (s.heap.push PySem.W.emptyDict) (o := PySem.W.instObj C s.heap.objs.size) rfl
    rwa [Heap.size_push] at this
  have e3 : (s.heap.push PySem.W.emptyDict).Ns s.heap.objs.size (fun _ => none) := ⟨PySem.W.emptyDict, #[], _, e1, rfl, (fun e he => absurd he (by simp)), fun _ => rfl⟩
  have I1 := I.laid (a := s.heap.objs.size) (o := .own (s.heap.objs.size + 1)) (h' := s.heap.push PySem.W.emptyDict) (t' := s.toks) (fun b u q => Heap.get?_push_of_some _ q) (Nat.le_refl _) ⟨_, e1⟩
  refine I1.laid (a := s.heap.objs.size + 1) (o := .ins C s.heap.objs.size []) (t' := s.toks) (fun b u q => Heap.get?_push_of_some _ q) (Nat.le_of_eq (Heap.size_push _ _)) ?_
  have ne : s.heap.objs.size ≠ s.heap.objs.size + 1 := Nat.ne_of_lt (Nat.lt_succ_self _)
  refine ⟨by rw [upd_ne ne, upd_same], Nat.zero_le _, ne, e2, fun _ => none, (Heap.Ns1.of_empty e3).at fun o q => Heap.get?_push_of_some _ q, fun _ => True.intro, fun y hy => absurd rfl hy⟩

/-- e.f where nothing but the object is asked: through attributeBase (super) and the last hold -/
theorem attr_of {prog : Program} {w : World} {env : Env} {e : Expr} {f : Str} {pos : Pos} {s : Shared} {Q : Value → Shared → Prop} (hb : attributeBase e f env (eval e env) = eval e env)
    (h : wpAny (model prog w) A (eval e env) (fun o s₁ => wpAny (model prog w) A (getAttr o f true) Q E s₁) E s) : wpAny (model prog w) A (eval (.Attribute e f pos) env) Q E s :=
  Attribute_any_ h (by rw [arm_eval_Attribute, hb])
end

/-! ### readings and rules -/
/-- e.f, an attribute of the instance -/
def tFld (K : PySem.W.Frag) (ta : TE) (f : Str) : TE := fun σ H Q => ta σ H fun x H1 => ∃ a C dx fs v, x = .ref a ∧ H1 a = some (.ins C dx fs) ∧ Cls K C ∧ NoAttr K C f ∧ fs.lookup f = some v ∧ Q v H1
/-- e.f, a constant of the class -/
def tCon (K : PySem.W.Frag) (ta : TE) (f : Str) : TE := fun σ H Q => ta σ H fun x H1 => ∃ a C dx fs v u, x = .ref a ∧ H1 a = some (.ins C dx fs) ∧ Cls K C ∧ Con K C f v u ∧ fs.lookup f = none ∧ Q v H1
/-- e.f = value -/
def sFld (K : PySem.W.Frag) (ta tv : TE) (f : Str) : TS := fun D σ H => tv σ H fun y H1 => ta σ H1 fun x H2 => ∃ a C dx fs, x = .ref a ∧ H2 a = some (.ins C dx fs) ∧ Cls K C ∧ NoAttr K C f ∧ fs.length < 1000 ∧
  D.nx σ (upd H2 a (.ins C dx (putF f y fs)))
/-- an augmented operator on two values -/
def InOp (X : Cx) (op : Operator) (rd : V → V → Hp → VK → Prop) : Prop :=
  ∀ (pins : List (Addr × Obj)) (s : Shared) (σ : St) (H : Hp) (x y : V) (u v : Value) (Q : VK), Inv X pins σ H s → RelV x u → RelV y v → rd x y H Q → wpAny (model X.prog X.w) X.A (inplaceOp op u v) (EP X pins σ Q) X.xe s
/-- e.f op= value -/
def sFldAug (K : PySem.W.Frag) (ta tv : TE) (rd : V → V → Hp → VK → Prop) (f : Str) : TS := fun D σ H => ta σ H fun x H1 => ∃ a C dx fs v, x = .ref a ∧ H1 a = some (.ins C dx fs) ∧ Cls K C ∧ NoAttr K C f ∧ fs.lookup f = some v ∧
  tv σ H1 fun y H2 => rd v y H2 fun z H3 => ∃ dx' fs', H3 a = some (.ins C dx' fs') ∧ fs'.length < 1000 ∧ D.nx σ (upd H3 a (.ins C dx' (putF f z fs')))

section
variable {X : Cx} {o e value : Expr} {f : Str} {pos pos' tpos : Pos} {ta tv : TE}
theorem pe_fld (he : PE X e ta) (hb : attributeBase e f X.env (eval e X.env) = eval e X.env) : PE X (.Attribute e f pos) (tFld X.K ta f) := by
  intro pins s σ H Q I h
  refine attr_of hb (thn (he pins s σ H _ I h) fun u s1 ⟨x, H1, I1, rx, a, C, dx, fs, v, ex, ea, c, n, l, q⟩ => ?_)
  subst ex
  obtain rfl : u = Value.ref a := rx
  exact getattr_ok I1 ea c n l fun u' s2 I2 ru => ⟨v, H1, I2, ru, q⟩
theorem pe_con (he : PE X e ta) (hb : attributeBase e f X.env (eval e X.env) = eval e X.env) : PE X (.Attribute e f pos) (tCon X.K ta f) := by
  intro pins s σ H Q I h
  refine attr_of hb (thn (he pins s σ H _ I h) fun u s1 ⟨x, H1, I1, rx, a, C, dx, fs, v, u0, ex, ea, c, k, l, q⟩ => ?_)
  subst ex
  obtain rfl : u = Value.ref a := rx
  exact getcon_ok I1 ea c k l fun s2 I2 => ⟨v, H1, I2, k.rel, q⟩
theorem ps_fld (ha : PE X o ta) (hv : PE X value tv) (hs : swapsWith value (some (.Attribute o f pos')) pos.line X.env = pure false) : PS X (.Assign [.Attribute o f pos'] value pos) (sFld X.K ta tv f) := by
  intro pins s σ H D I h
  refine plainObj_wpAny_Assign_Attribute (thn (hv pins s σ H _ I h) fun u s1 ⟨y, H1, I1, ry, q⟩ => thn (ha pins s1 σ H1 _ I1 q) fun ov s2 ⟨x, H2, I2, rx, a, C, dx, fs, ex, ea, c, n, l, q2⟩ => ?_) hs
  subst ex
  obtain rfl : ov = Value.ref a := rx
  exact setattr_ok I2 ea c n l ry fun s3 I3 => ⟨σ, _, I3, q2⟩
theorem ps_fldaug {op : Operator} {rd : V → V → Hp → VK → Prop} (ha : PE X o ta) (hv : PE X value tv) (hop : InOp X op rd) : PS X (.AugAssign (.Attribute o f tpos) op value pos) (sFldAug X.K ta tv rd f) := by
  intro pins s σ H D I h
  refine wpAny_AugAssign_AttributeAny (thn (ha pins s σ H _ I h) fun ov s1 ⟨x, H1, I1, rx, a, C, dx, fs, v, ex, ea, c, n, l, q⟩ => ?_)
  subst ex
  obtain rfl : ov = Value.ref a := rx
  refine getattr_ok I1 ea c n l fun u s2 I2 ru => thn (hv pins s2 σ H1 _ I2 q) fun w3 s3 ⟨y, H2, I3, ry, q3⟩ => thn (hop pins s3 σ H2 v y u w3 _ I3 ru ry q3) fun w4 s4 ⟨z, H3, I4, rz, dx', fs', ea', l', q4⟩ => ?_
  exact setattr_ok I4 ea' c n l' rz fun s5 I5 => ⟨σ, _, I5, q4⟩
def rAdd : V → V → Hp → VK → Prop := fun x y H Q => ∃ i j, x = .int i ∧ y = .int j ∧ Q (.int (i + j)) H
def rSub : V → V → Hp → VK → Prop := fun x y H Q => ∃ i j, x = .int i ∧ y = .int j ∧ Q (.int (i - j)) H
theorem in_add : InOp X .Add rAdd := by
  rintro pins s σ H x y u v Q I rx ry ⟨i, j, rfl, rfl, q⟩
  obtain ⟨t, rfl⟩ := (show ∃ t, u = Value.int i t from rx)
  obtain ⟨t', rfl⟩ := (show ∃ t', v = Value.int j t' from ry)
  exact PyProof.Rows.iadd_int ⟨.int (i + j), H, I.tok _, ⟨_, rfl⟩, q⟩
theorem in_sub : InOp X .Sub rSub := by
  rintro pins s σ H x y u v Q I rx ry ⟨i, j, rfl, rfl, q⟩
  obtain ⟨t, rfl⟩ := (show ∃ t, u = Value.int i t from rx)
  obtain ⟨t', rfl⟩ := (show ∃ t', v = Value.int j t' from ry)
  exact PyProof.Rows.isub_int ⟨.int (i - j), H, I.tok _, ⟨_, rfl⟩, q⟩

/-- what is between an instance and its method: the tree of a method call -/
theorem methcall_of {pl : Sem Bool} {m : Str} {apos : Pos} {args : List Expr} {pins : List (Addr × Obj)} {s : Shared} {σ : St} {H : Hp} {Q : Value → Shared → Prop} {te : TE} (he : PE X e te) (I : Inv X pins σ H s)
    (h : te σ H fun x H1 => ∃ a C dx fs g, x = .ref a ∧ H1 a = some (.ins C dx fs) ∧ Cls X.K C ∧ Meth X.K C m g ∧ fs.lookup m = none ∧
      ∀ s1, Inv X pins σ H1 s1 → wpAny (model X.prog X.w) X.A (callWith pos (.ref g) [.ref a] (backTo pos (starEach args X.env)) (backToKw pos (keywordEach [] X.env))) Q X.xe s1)
    (ht : eval (.Call (.Attribute e m apos) args [] pos) X.env = (do
      let ov ← eval e X.env
      standAt apos.atName
      let (f, first) ← holding [ov] (getMethod ov m pl)
      callWith pos f first (backTo pos (starEach args X.env)) (backToKw pos (keywordEach [] X.env)))) :
    wpAny (model X.prog X.w) X.A (eval (.Call (.Attribute e m apos) args [] pos) X.env) Q X.xe s := by
  refine PySem.W.methodCall_KW (pl := pl) (thn (he pins s σ H _ I h) fun u s1 ⟨x, H1, I1, rx, a, C, dx, fs, g, ex, ea, c, k, l, q⟩ => ?_) ht
  subst ex
  obtain rfl : u = Value.ref a := rx
  exact getmeth_ok I1 ea c k l (q s1 I1)
end

/-! ### isinstance -/
section
variable {X : Cx} {pins : List (Addr × Obj)} {σ : St} {H : Hp} {s : Shared} {A : Around} {E : Value → Shared → Prop} {Q : Value → Shared → Prop} {c : Value} {b : Bool}
/-- the type of a value, as the fragment's deciders take it; for an instance its class -/
inductive TyOf (K : PySem.W.Frag) (H : Hp) : V → Value → Prop where
  | non : TyOf K H .non (.type "NoneType")
  | bl (x : Bool) : TyOf K H (.bl x) (.type "bool")
  | int (i : Int) : TyOf K H (.int i) (.type "int")
  | str (x : Str) : TyOf K H (.str x) (.type "str")
  | flt (x : UInt64) : TyOf K H (.flt x) (.type "float")
  | lst {a : Addr} {xs : List V} (e : H a = some (.lst xs)) : TyOf K H (.ref a) (.type "list")
  | frz {a : Addr} {o : Obj} {xs : List V} (e : H a = some (.frz o (.lst xs))) : TyOf K H (.ref a) (.type "list")
  | tup {a : Addr} {xs : List V} (e : H a = some (.tup xs)) : TyOf K H (.ref a) (.type "tuple")
  | dK {a : Addr} {kvs : List (Key × V)} (e : H a = some (.dK kvs)) : TyOf K H (.ref a) (.type "dict")
  | dT {a : Addr} {kvs : List (List Key × V)} (e : H a = some (.dT kvs)) : TyOf K H (.ref a) (.type "dict")
  | ins {a C dx : Addr} {fs : List (Str × V)} (e : H a = some (.ins C dx fs)) (cl : Cls K C) (ha : PySem.W.findIn K (.ref C) "__class__" = some (some (.builtin "object.__class__")))
      (hn : PySem.W.specialIn K (.builtin "object.__class__") "__get__" = some (some (.builtin "getset_descriptor.__get__"))) (htk : PySem.W.takesIn K (.builtin "object.__class__") = some true)
      (hm : PySem.W.mroIn K C (.type "object") = some true) : TyOf K H (.ref a) (.ref C)
/-- isinstance(x, c) for one class c, a built-in or an own one: kitOne's answer -/
theorem isinst_ok {x : V} {u t : Value} (I : Inv X pins σ H s) (rx : RelV x u) (ty : TyOf X.K H x t) (e : PySem.W.kitOne X.K t c = some b) (h : ∀ tk, Q (.bool b) { s with toks := tk }) :
    wpAny (model X.prog X.w) A (call (.builtin "isinstance") [u, c]) Q E s := by
  cases ty with
  | non => cases (show u = Value.none from rx); exact PySem.W.kia_one PySem.W.kitx_none I.kIn True.intro e (fun z => nomatch z) h
  | bl y => cases (show u = Value.bool y from rx); exact PySem.W.kia_one PySem.W.kitx_bool I.kIn True.intro e (fun z => nomatch z) h
  | int i => obtain ⟨t, q⟩ := (show ∃ t, u = Value.int i t from rx); cases q; exact PySem.W.kia_one PySem.W.kitx_int I.kIn True.intro e (fun z => nomatch z) h
  | str y => obtain ⟨t, q⟩ := (show ∃ t, u = Value.str y t from rx); cases q; exact PySem.W.kia_one PySem.W.kitx_str I.kIn True.intro e (fun z => nomatch z) h
  | flt y => obtain ⟨t, q⟩ := (show ∃ t, u = Value.float y t from rx); cases q; exact PySem.W.kia_one PySem.W.kitx_float I.kIn True.intro e (fun z => nomatch z) h
  | @lst a xs ea =>
    cases (show u = Value.ref a from rx)
    obtain ⟨_, _, n, _, h1⟩ := (show ObjOk X.prog X.w H s.heap a (.lst xs) from I.hok a _ ea)
    exact PySem.W.kia_one PySem.W.kitx_list I.kIn ⟨_, h1, rfl⟩ e (fun z => nomatch z) h
  | @frz a ob xs ea =>
    cases (show u = Value.ref a from rx)
    obtain ⟨_, _, _, n, _, h1⟩ := (show ObjOk X.prog X.w H s.heap a (.frz ob (.lst xs)) from I.hok a _ ea)
    exact PySem.W.kia_one PySem.W.kitx_list I.kIn ⟨_, h1, rfl⟩ e (fun z => nomatch z) h
  | @tup a xs ea =>
    cases (show u = Value.ref a from rx)
    obtain ⟨_, _, _, p⟩ := (show ObjOk X.prog X.w H s.heap a (.tup xs) from I.hok a _ ea)
    obtain ⟨o, h1, h2, _⟩ := p
    exact PySem.W.kia_one PySem.W.kitx_tuple I.kIn ⟨o, h1, h2⟩ e (fun z => nomatch z) h
  | @dK a kvs ea =>
    cases (show u = Value.ref a from rx)
    obtain ⟨_, _, vs, _, p⟩ := (show ObjOk X.prog X.w H s.heap a (.dK kvs) from I.hok a _ ea)
    obtain ⟨o, es, ep, h1, h2, _⟩ := p
    exact PySem.W.kia_one PySem.W.kitx_dict I.kIn ⟨o, h1, h2.1⟩ e (fun z => nomatch z) h
  | @dT a kvs ea =>
    cases (show u = Value.ref a from rx)
    obtain ⟨_, _, xs, _, o, es, ep, h1, h2, _⟩ := (show ObjOk X.prog X.w H s.heap a (.dT kvs) from I.hok a _ ea)
    exact PySem.W.kia_one PySem.W.kitx_dict I.kIn ⟨o, h1, h2.1⟩ e (fun z => nomatch z) h
  | @ins a C dx fs ea cl ha hn htk hm =>
    cases (show u = Value.ref a from rx)
    obtain ⟨mA, O, _⟩ := ins_get I.hok ea
    obtain ⟨od, J, _⟩ := O.look
    exact PySem.W.kia_one (PySem.W.kitx_own (cl.get _) cl.hd ha hn htk hm) I.kIn J e (fun z => nomatch z) h
end
end L2

namespace L2
open PySem PySem.Spec PyProof.Rows

/-! ### room -/
structure Room (k : Nat) (A : Around) : Prop where
  hd : A.handled = none
  dp : A.depth + 3 * k + 5 < recursionLimit
  un : A.units + 16 * k + 200 < cLine
theorem Room.mono {j k : Nat} {A : Around} (r : Room k A) (h : j ≤ k) : Room j A := ⟨r.hd, by have := r.dp; omega, by have := r.un; omega⟩
theorem Room.deeper {k : Nat} {A : Around} (r : Room (k + 1) A) (env : Env) : Room k (A.deeper env) :=
  ⟨r.hd, by have := r.dp; show A.depth + 1 + 3 * k + 5 < _; omega, by have := r.un; show A.units + 3 + 16 * k + 200 < _; omega⟩
theorem Room.in1 {k : Nat} {A : Around} (r : Room (k + 1) A) : Room k A.in1 :=
  ⟨r.hd, by have := r.dp; show A.depth + 3 * k + 5 < _; omega, by have := r.un; show A.units + 1 + 16 * k + 200 < _; omega⟩
theorem make_depth {A : Around} {C : Addr} {us : List Value} {kw : List (Str × Value)} : (A.under (.builtin "type.__call__" ⟨.ref C :: us, kw⟩)).depth = A.depth + 1 := by
  first | rfl | simp [Around.under, Code.weight, Code.isCreation, Code.isGuard, Code.isCaller, Code.frames, Code.isFrame, guardIds]
theorem make_units {A : Around} {C : Addr} {us : List Value} {kw : List (Str × Value)} : (A.under (.builtin "type.__call__" ⟨.ref C :: us, kw⟩)).units = A.units + 1 := by
  first | rfl | simp [Around.under, Code.cUnits, Code.frames, Code.isFrame]
theorem Room.make {k : Nat} {A : Around} (r : Room (k + 1) A) (C : Addr) (us : List Value) (kw : List (Str × Value)) : Room k (A.under (.builtin "type.__call__" ⟨.ref C :: us, kw⟩)) :=
  ⟨r.hd, by have := r.dp; rw [make_depth]; omega, by have := r.un; rw [make_units]; omega⟩
theorem Room.depth {k : Nat} {A : Around} (r : Room k A) : A.depth < recursionLimit := by have := r.dp; omega
theorem Room.units {k : Nat} {A : Around} (r : Room k A) : A.units + 64 < cLine := by have := r.un; omega
theorem Room.units0 {k : Nat} {A : Around} (r : Room k A) : A.units < cLine := by have := r.un; omega

/-! ### argument lists and displays -/
def tNil : TA := fun _ H Q => Q [] H
def tCons (ta : TE) (tr : TA) : TA := fun σ H Q => ta σ H fun x H1 => tr σ H1 fun xs H2 => Q (x :: xs) H2
section
variable {X : Cx} {e : Expr} {es : List Expr} {te : TE} {t : TA} {pos : Pos}
theorem pa_nil : PA X [] tNil := fun _ _ _ _ H Q I h => Calls.spliced_nil ⟨[], H, I, .nil, h⟩
theorem pa_cons (ha : PE X e te) (hr : PA X es t) (hs : starEach (e :: es) X.env = (false, eval e X.env) :: starEach es X.env := by rfl) : PA X (e :: es) (tCons te t) := by
  intro pos pins s σ H Q I h
  rw [hs]
  show wpAny _ _ (spliced ((false, eval e X.env) :: backTo pos (starEach es X.env))) _ _ s
  refine Calls.spliced_cons (thn (ha pins s σ H _ I h) fun u s1 ⟨x, H1, I1, r1, q1⟩ => ?_)
  exact thn (hr pos pins s1 σ H1 _ I1 q1) fun us s2 ⟨xs, H2, I2, r2, q2⟩ => ⟨x :: xs, H2, I2, .cons r1 r2, q2⟩

/-- a tuple, a list of written items -/
def tTup (t : TA) : TE := fun σ H Q => t σ H fun xs H1 => xs.length ≤ sizeLine ∧ ∀ p, H1 p = none → Q (.ref p) (upd H1 p (.tup xs))
def tLst (t : TA) : TE := fun σ H Q => t σ H fun xs H1 => xs.length ≤ sizeLine ∧ ∀ p, H1 p = none → Q (.ref p) (upd H1 p (.lst xs))
theorem pe_tup {x1} (h : PA X es t) : PE X (.Tuple es x1 pos) (tTup t) := by
  intro pins s σ H Q I hq
  refine wpAny_Tuple_spliced (thn (h pos pins s σ H _ I hq) fun us s1 ⟨xs, H1, I1, r, z, q⟩ => ⟨by rw [← r.length]; exact z, ?_⟩)
  have hf : H1 s1.heap.objs.size = none := I1.hok.fresh (Nat.le_refl _)
  refine ⟨.ref s1.heap.objs.size, upd H1 s1.heap.objs.size (.tup xs), I1.laid (t' := s1.toks) (fun b u e => Heap.get?_push_of_some _ e) (Nat.le_refl _) ?_, rfl, q _ hf⟩
  exact ⟨z, us, r, ⟨_, Heap.get?_push_size _ rfl, rfl, _, rfl⟩⟩
theorem pe_lst (h : PA X es t) : PE X (.List es pos) (tLst t) := by
  intro pins s σ H Q I hq
  refine wpAny_List_spliced (thn (h pos pins s σ H _ I hq) fun us s1 ⟨xs, H1, I1, r, z, q⟩ => ⟨by rw [← r.length]; exact z, ?_⟩)
  have hf : H1 s1.heap.objs.size = none := I1.hok.fresh (Nat.le_refl _)
  refine ⟨.ref s1.heap.objs.size, upd H1 s1.heap.objs.size (.lst xs), I1.laid (t' := s1.toks) (fun b u e => Heap.get?_push_of_some _ e) (Nat.le_refl _) ?_, rfl, q _ hf⟩
  exact ⟨z, us, 0, r, Heap.get?_push_size _ rfl⟩
end

/-! ### what a def promises -/
/-- a def's promise: the bound arguments in the parameters' order, the heap, the wanted end, the wanted exception -/
abbrev Sp := List V → Hp → VK → XK → Prop
/-- how an exception lies behind a call (file 08 gives it): the callers' frames, abstract heap and state ahead of the call, the wish, the exception, the state -/
abbrev CXT := List Env → Hp → Shared → XK → Value → Shared → Prop

/-- the state at a call -/
structure Env0 (P : Program) (w : World) (K : PySem.W.Frag) (mg : Str → Option Value) (base : Heap) (A : Around) (outer : List Env) (s : Shared) (H : Hp) : Prop where
  frames : A.frames = some outer
  mod : Mod K mg base
  bs : ∀ b o, base.get? b = some o → s.heap.get? b = some o ∧ H b = none
  bsz : base.objs.size ≤ s.heap.objs.size
  funs : s.heap.FunFrames base outer
  frf : ∀ b ∈ frs outer, H b = none
  hok : HOk P w H s.heap
  bare : AllBare s.gens
/-- a call's end -/
def CE (outer : List Env) (P : Program) (w : World) (H : Hp) (s : Shared) (Q : VK) (u : Value) (s' : Shared) : Prop :=
  ∃ v H', s'.os = s.os ∧ AllBare s'.gens ∧ Un (frs outer) [] H H' s.heap s'.heap ∧ HOk P w H' s'.heap ∧ RelV v u ∧ Q v H'
def CR (CX : CXT) (outer : List Env) (P : Program) (w : World) (H : Hp) (s : Shared) (Q : VK) (E : XK) (r : Result) (s' : Shared) : Prop :=
  match r with
  | .ok (.ret u) => CE outer P w H s Q u s'
  | .ok _ => False
  | .error e => CX outer H s E e s'
structure FnOk (P : Program) (w : World) (K : PySem.W.Frag) (mg : Str → Option Value) (base : Heap) (CX : CXT) (k : Nat) (f : Addr) (fd : FuncData) (ps : List Str) (sp : Sp) : Prop where
  len : ∀ vs H Q E, sp vs H Q E → vs.length = ps.length
  run : ∀ (A : Around) (outer : List Env) (s : Shared) (H : Hp) (args : Args) (us : List Value) (vs : List V) (Q : VK) (E : XK), Room k A → Env0 P w K mg base A outer s H → BindsTo s fd args (ps.zip us) → Vals vs us → sp vs H Q E →
    codeAny (model P w) A (.call (.ref f) args) (CR CX outer P w H s Q E) s
theorem FnOk.mono {P : Program} {w : World} {K : PySem.W.Frag} {mg : Str → Option Value} {base : Heap} {CX : CXT} {j k : Nat} {f : Addr} {fd : FuncData} {ps : List Str} {sp : Sp} (F : FnOk P w K mg base CX j f fd ps sp) (h : j ≤ k) :
    FnOk P w K mg base CX k f fd ps sp := ⟨F.len, fun A outer s H args us vs Q E hr => F.run A outer s H args us vs Q E (hr.mono h)⟩
/-- a weaker promise -/
theorem FnOk.imp {P : Program} {w : World} {K : PySem.W.Frag} {mg : Str → Option Value} {base : Heap} {CX : CXT} {k : Nat} {f : Addr} {fd : FuncData} {ps : List Str} {sp sp' : Sp} (F : FnOk P w K mg base CX k f fd ps sp)
    (h : ∀ vs H Q E, sp' vs H Q E → sp vs H Q E) : FnOk P w K mg base CX k f fd ps sp' :=
  ⟨fun vs H Q E q => F.len vs H Q E (h _ _ _ _ q), fun A outer s H args us vs Q E hr he hb hv hs => F.run A outer s H args us vs Q E hr he hb hv (h _ _ _ _ hs)⟩

theorem Env0.make {P : Program} {w : World} {K : PySem.W.Frag} {mg : Str → Option Value} {base : Heap} {A : Around} {outer : List Env} {s : Shared} {H : Hp} (e : Env0 P w K mg base A outer s H) (C : Addr) (us : List Value) (kw : List (Str × Value)) :
    Env0 P w K mg base (A.under (.builtin "type.__call__" ⟨.ref C :: us, kw⟩)) outer s H := ⟨by first | exact e.frames | (simpa [Around.under, Code.envs, Code.isFrame, pushEnvs] using e.frames), e.mod, e.bs, e.bsz, e.funs, e.frf, e.hok, e.bare⟩
theorem Env0.in1 {P : Program} {w : World} {K : PySem.W.Frag} {mg : Str → Option Value} {base : Heap} {A : Around} {outer : List Env} {s : Shared} {H : Hp} (e : Env0 P w K mg base A outer s H) :
    Env0 P w K mg base A.in1 outer s H := ⟨e.frames, e.mod, e.bs, e.bsz, e.funs, e.frf, e.hok, e.bare⟩

section
variable {X : Cx} {pins : List (Addr × Obj)} {σ : St} {H : Hp} {s s' : Shared}
/-- from a body: what a callee wants -/
theorem Inv.env0 (I : Inv X pins σ H s) : Env0 X.prog X.w X.K X.mg X.base X.A X.stack s H :=
  ⟨I.ok.frames, I.ok.mod, I.bs, Nat.le_trans I.ok.bsz I.sz, I.stack, I.stkFree, I.hok, I.bare⟩
/-- behind a call -/
theorem Inv.after {Q : VK} {u : Value} (I : Inv X pins σ H s) (h : CE X.stack X.prog X.w H s Q u s') : EP X pins σ Q u s' := by
  obtain ⟨v, H', os, bare, un, hok, r, q⟩ := h
  obtain ⟨hh, g, d, t, os'⟩ := s'
  obtain rfl : os' = s.os := os
  exact ⟨v, H', I.call (h' := hh) (g' := g) (d' := d) (t' := t) (ch := []) un hok bare (fun b z => absurd z (by simp)), r, q⟩
end

/-! ### calls -/
/-- f(..): the written arguments, then the defaults dvs; E: what is wanted of an exception -/
def tCall (sp : Sp) (dvs : List V) (E : XK) (t : TA) : TE := fun σ H Q => t σ H fun vs H1 => sp (vs ++ dvs) H1 Q E
/-- o.m(..) of an instance of the class at C -/
def tMeth (C : Addr) (m : Str) (sp : Sp) (dvs : List V) (E : XK) (ta : TE) (t : TA) : TE := fun σ H Q => ta σ H fun x H1 => ∃ a dx fs, x = .ref a ∧ H1 a = some (.ins C dx fs) ∧ fs.lookup m = none ∧
  t σ H1 fun vs H2 => sp (x :: (vs ++ dvs)) H2 Q E
/-- C(..): a new instance and its dict, then __init__ -/
def tMake (C : Addr) (sp : Sp) (dvs : List V) (E : XK) (t : TA) : TE := fun σ H Q => t σ H fun vs H1 => ∀ x dx, H1 x = none → H1 dx = none → dx ≠ x →
  sp (.ref x :: (vs ++ dvs)) (upd (upd H1 dx (.own x)) x (.ins C dx [])) (fun v H2 => v = .non ∧ Q (.ref x) H2) E

/-- how the parameters are bound: us the positional arguments, kw the keywords' values by name, ds the defaults that fill up -/
def Binds (K : PySem.W.Frag) (fd : FuncData) (ps : List Str) (ds : List Value) : Prop :=
  ∀ (s : Shared) (us : List Value), K.In s.heap → (us ++ ds).length = ps.length → BindsTo s fd ⟨us, []⟩ (ps.zip (us ++ ds))
/-- every parameter is given -/
theorem Binds.all {K : PySem.W.Frag} {fd : FuncData} {ps : List Str} (h : ∀ us : List Value, us.length = ps.length → bindArgs fd ⟨us, []⟩ = pure (ps.zip us)) : Binds K fd ps [] := fun s us _ hl => by
  rw [List.append_nil] at hl ⊢
  exact .of_eq (h us hl)

/-- an exception of a callee reaches what this body wants of exceptions -/
def Passes (CX : CXT) (X : Cx) (E : XK) : Prop := ∀ (pins : List (Addr × Obj)) (σ : St) (H : Hp) (s : Shared) (e : Value) (s' : Shared), Inv X pins σ H s → CX X.stack H s E e s' → X.xe e s'

section
variable {X : Cx} {CX : CXT} {k : Nat} {f C : Addr} {fd : FuncData} {ps : List Str} {sp : Sp} {dvs : List V} {ds : List Value} {E : XK} {x m : Str} {p pos apos : Pos} {e o : Expr} {es : List Expr} {ta : TE} {t : TA}

/-- the callee runs -/
theorem run_fn {pins : List (Addr × Obj)} {σ : St} {H : Hp} {s : Shared} {Q : VK} {us : List Value} {vs : List V} (F : FnOk X.prog X.w X.K X.mg X.base CX k f fd ps sp) (hr : Room k X.A) (hb : Binds X.K fd ps ds) (hd : Vals dvs ds) (hx : Passes CX X E)
    (I : Inv X pins σ H s) (r : Vals vs us) (h : sp (vs ++ dvs) H Q E) : wpAny (model X.prog X.w) X.A (call (.ref f) us) (EP X pins σ Q) X.xe s := by
  have r2 : Vals (vs ++ dvs) (us ++ ds) := r.append hd
  have hl : (us ++ ds).length = ps.length := by rw [← r2.length]; exact F.len _ _ _ _ h
  refine wpAny_call (codeAny_mono (F.run X.A X.stack s H ⟨us, []⟩ (us ++ ds) (vs ++ dvs) Q E hr I.env0 (hb s us I.kIn hl) r2 h) fun r s' hq => ?_)
  cases r with
  | error e => exact hx pins σ H s e s' I hq
  | ok fl =>
    cases fl with
    | ret u => exact I.after hq
    | next => exact False.elim hq
    | brk => exact False.elim hq
    | cont => exact False.elim hq

theorem pe_call (F : FnOk X.prog X.w X.K X.mg X.base CX k f fd ps sp) (hr : Room k X.A) (hg : Gl X x) (hm : X.mg x = some (.ref f)) (hk : PySem.W.keepIn X.K (.ref f) = true) (hb : Binds X.K fd ps ds) (hd : Vals dvs ds) (hx : Passes CX X E)
    (ha : PA X (e :: es) t) (hdb : (x == ("__debug__" : Str)) = false := by decide) (he : starEach (e :: es) X.env = (false, eval e X.env) :: starEach es X.env := by rfl) (hpl : (backTo pos (starEach es X.env)).any (·.1) = false := by rfl) :
    PE X (.Call (.Name x p) (e :: es) [] pos) (tCall sp dvs E t) := by
  intro pins s σ H Q I h
  refine wpAny_Call_Name_kw (ld_glob I hg hm ?_ hdb)
  refine PySem.W.callWith_K (h₀ := X.base) I.ok.mod.kin hk (thn (ha pos pins s σ H _ I h) fun us s1 ⟨vs, H1, I1, r, q⟩ => ⟨I1.kIn, ?_⟩) he hpl
  exact run_fn F hr hb hd hx I1 r q
theorem pe_call0 (F : FnOk X.prog X.w X.K X.mg X.base CX k f fd ps sp) (hr : Room k X.A) (hg : Gl X x) (hm : X.mg x = some (.ref f)) (hk : PySem.W.keepIn X.K (.ref f) = true) (hb : Binds X.K fd ps ds) (hd : Vals dvs ds) (hx : Passes CX X E)
    (hdb : (x == ("__debug__" : Str)) = false := by decide) : PE X (.Call (.Name x p) [] [] pos) (tCall sp dvs E tNil) := by
  intro pins s σ H Q I h
  refine wpAny_Call_Name_kw (ld_glob I hg hm ?_ hdb)
  exact PySem.W.callWith_K0 I.kIn hk (run_fn (us := []) F hr hb hd hx I .nil h)

/-- o.m(e, ..) -/
theorem pe_meth {pl : Sem Bool} (he : PE X o ta) (c : Cls X.K C) (hm : Meth X.K C m f) (F : FnOk X.prog X.w X.K X.mg X.base CX k f fd ps sp) (hr : Room k X.A) (hb : Binds X.K fd ps ds) (hd : Vals dvs ds) (hx : Passes CX X E) (ha : PA X (e :: es) t)
    (hst : starEach (e :: es) X.env = (false, eval e X.env) :: starEach es X.env := by rfl) (hpl : (backTo pos (starEach es X.env)).any (·.1) = false := by rfl)
    (ht : eval (.Call (.Attribute o m apos) (e :: es) [] pos) X.env = (do
      let ov ← eval o X.env
      standAt apos.atName
      let (f, first) ← holding [ov] (getMethod ov m pl)
      callWith pos f first (backTo pos (starEach (e :: es) X.env)) (backToKw pos (keywordEach [] X.env))) := by rfl) :
    PE X (.Call (.Attribute o m apos) (e :: es) [] pos) (tMeth C m sp dvs E ta t) := by
  intro pins s σ H Q I h
  refine PySem.W.methodCall_KW (pl := pl) (thn (he pins s σ H _ I h) fun u s1 ⟨x, H1, I1, rx, a, dx, fs, ex, ea, l, q⟩ => ?_) ht
  subst ex
  obtain rfl : u = Value.ref a := rx
  refine getmeth_ok I1 ea c hm l ?_
  refine PySem.W.callWith_K (first := [.ref a]) (h₀ := X.base) I.ok.mod.kin hm.kp (thn (ha pos pins s1 σ H1 _ I1 q) fun us s2 ⟨vs, H2, I2, r, q2⟩ => ⟨I2.kIn, ?_⟩) hst hpl
  exact run_fn (us := .ref a :: us) (vs := .ref a :: vs) F hr hb hd hx I2 (.cons rfl r) q2
/-- o.m() -/
theorem pe_meth0 {pl : Sem Bool} (he : PE X o ta) (c : Cls X.K C) (hm : Meth X.K C m f) (F : FnOk X.prog X.w X.K X.mg X.base CX k f fd ps sp) (hr : Room k X.A) (hb : Binds X.K fd ps ds) (hd : Vals dvs ds) (hx : Passes CX X E)
    (ht : eval (.Call (.Attribute o m apos) [] [] pos) X.env = (do
      let ov ← eval o X.env
      standAt apos.atName
      let (f, first) ← holding [ov] (getMethod ov m pl)
      callWith pos f first (backTo pos (starEach [] X.env)) (backToKw pos (keywordEach [] X.env))) := by rfl) :
    PE X (.Call (.Attribute o m apos) [] [] pos) (tMeth C m sp dvs E ta tNil) := by
  intro pins s σ H Q I h
  refine PySem.W.methodCall_KW (pl := pl) (thn (he pins s σ H _ I h) fun u s1 ⟨x, H1, I1, rx, a, dx, fs, ex, ea, l, q⟩ => ?_) ht
  subst ex
  obtain rfl : u = Value.ref a := rx
  refine getmeth_ok I1 ea c hm l ?_
  exact PySem.W.callWith_K0 (first := [.ref a]) I1.kIn hm.kp (run_fn (us := [.ref a]) (vs := [.ref a]) F hr hb hd hx I1 (.cons rfl .nil) q)

/-- what a class must have to be made -/
structure Mk (K : PySem.W.Frag) (C f : Addr) : Prop where
  makes : PySem.W.makesIn K C = true
  init : PySem.W.findIn K (.ref C) "__init__" = some (some (.ref f))
  fn : PySem.W.isFn K (.ref f) = true
  kp : PySem.W.keepIn K (.ref C) = true

theorem run_make {pins : List (Addr × Obj)} {σ : St} {H : Hp} {s : Shared} {Q : VK} {us : List Value} {vs : List V} (M : Mk X.K C f) (F : FnOk X.prog X.w X.K X.mg X.base CX k f fd ps sp) (hr : Room (k + 1) X.A) (hb : Binds X.K fd ps ds) (hd : Vals dvs ds)
    (hx : Passes CX X E) (I : Inv X pins σ H s) (r : Vals vs us)
    (h : ∀ x dx, H x = none → H dx = none → dx ≠ x → sp (.ref x :: (vs ++ dvs)) (upd (upd H dx (.own x)) x (.ins C dx [])) (fun v H2 => v = .non ∧ Q (.ref x) H2) E) :
    wpAny (model X.prog X.w) X.A (call (.ref C) us) (EP X pins σ Q) X.xe s := by
  have hq := h (s.heap.objs.size + 1) s.heap.objs.size (I.hok.fresh (Nat.le_succ _)) (I.hok.fresh (Nat.le_refl _)) (Nat.ne_of_lt (Nat.lt_succ_self _))
  have I2 := Inv.made (C := C) I
  have r2 : Vals (V.ref (s.heap.objs.size + 1) :: (vs ++ dvs)) (Value.ref (s.heap.objs.size + 1) :: (us ++ ds)) := .cons rfl (r.append hd)
  have hl : (Value.ref (s.heap.objs.size + 1) :: us ++ ds).length = ps.length := by
    have e := r2.length
    rw [F.len _ _ _ _ hq] at e
    exact e.symm
  refine wpAny_call (make_map (f := f) I.kIn M.makes M.init (beq_iff_eq.mp M.fn) (codeAny_mono (F.run _ X.stack _ _ ⟨Value.ref (s.heap.objs.size + 1) :: us, []⟩ (Value.ref (s.heap.objs.size + 1) :: (us ++ ds)) _ _ E (hr.make C us [])
    (I2.env0.make C us []) (hb _ (Value.ref (s.heap.objs.size + 1) :: us) I2.kIn hl) r2 hq) fun r s' hq' => ?_))
  cases r with
  | error e => exact hx pins σ _ _ e s' I2 hq'
  | ok fl =>
    cases fl with
    | ret u =>
      obtain ⟨v, H', I3, rv, ev, q3⟩ := I2.after hq'
      subst ev
      exact ⟨rv, ⟨V.ref (s.heap.objs.size + 1), H', I3, rfl, q3⟩⟩
    | next => exact False.elim hq'
    | brk => exact False.elim hq'
    | cont => exact False.elim hq'
theorem pe_make (M : Mk X.K C f) (F : FnOk X.prog X.w X.K X.mg X.base CX k f fd ps sp) (hr : Room (k + 1) X.A) (hg : Gl X x) (hm : X.mg x = some (.ref C)) (hb : Binds X.K fd ps ds) (hd : Vals dvs ds) (hx : Passes CX X E)
    (ha : PA X (e :: es) t) (hdb : (x == ("__debug__" : Str)) = false := by decide) (he : starEach (e :: es) X.env = (false, eval e X.env) :: starEach es X.env := by rfl) (hpl : (backTo pos (starEach es X.env)).any (·.1) = false := by rfl) :
    PE X (.Call (.Name x p) (e :: es) [] pos) (tMake C sp dvs E t) := by
  intro pins s σ H Q I h
  refine wpAny_Call_Name_kw (ld_glob I hg hm ?_ hdb)
  refine PySem.W.callWith_K (h₀ := X.base) I.ok.mod.kin M.kp (thn (ha pos pins s σ H _ I h) fun us s1 ⟨vs, H1, I1, r, q⟩ => ⟨I1.kIn, ?_⟩) he hpl
  exact run_make M F hr hb hd hx I1 r q
theorem pe_make0 (M : Mk X.K C f) (F : FnOk X.prog X.w X.K X.mg X.base CX k f fd ps sp) (hr : Room (k + 1) X.A) (hg : Gl X x) (hm : X.mg x = some (.ref C)) (hb : Binds X.K fd ps ds) (hd : Vals dvs ds) (hx : Passes CX X E)
    (hdb : (x == ("__debug__" : Str)) = false := by decide) : PE X (.Call (.Name x p) [] [] pos) (tMake C sp dvs E tNil) := by
  intro pins s σ H Q I h
  refine wpAny_Call_Name_kw (ld_glob I hg hm ?_ hdb)
  exact PySem.W.callWith_K0 I.kIn M.kp (run_make (us := []) M F hr hb hd hx I .nil h)
end

/-! ### keywords -/
/-- the values of the keywords, from the left -/
def PK (X : Cx) (kws : List Keyword) (t : TA) : Prop :=
  ∀ (pos : Pos) (pins : List (Addr × Obj)) (s : Shared) (σ : St) (H : Hp) (Q : List V → Hp → Prop), Inv X pins σ H s → t σ H Q → wpAny (model X.prog X.w) X.A (evalAll ((backToKw pos (keywordEach kws X.env)).map (·.2))) (AP X pins σ Q) X.xe s
section
variable {X : Cx} {CX : CXT} {k : Nat} {f C : Addr} {fd : FuncData} {ps ks : List Str} {sp : Sp} {E : XK} {x m : Str} {p pos apos kpos : Pos} {e o : Expr} {es : List Expr} {kws : List Keyword} {te ta : TE} {t tk : TA} {nm : Option Str}
theorem pk_nil : PK X [] tNil := fun _ _ _ _ H Q I h => wpAny_evalAll_nil ⟨[], H, I, .nil, h⟩
theorem pk_cons (ha : PE X e te) (hr : PK X kws t) : PK X (⟨nm, e, kpos⟩ :: kws) (tCons te t) := by
  intro pos pins s σ H Q I h
  show wpAny _ _ (evalAll ((do let v ← eval e X.env; standAt pos; pure v) :: (backToKw pos (keywordEach kws X.env)).map (·.2))) _ _ s
  refine wpAny_evalAll_cons (wpAny_bind (thn (ha pins s σ H _ I h) fun u s1 ⟨x, H1, I1, r1, q1⟩ => wpAny_bind (wpAny_standAt (wpAny_pure ?_))))
  exact thn (hr pos pins s1 σ H1 _ I1 q1) fun us s2 ⟨xs, H2, I2, r2, q2⟩ => ⟨x :: xs, H2, I2, .cons r1 r2, q2⟩

/-- how a call with keywords binds: g puts the positional values us and the keywords' values ws (names ks) in the parameters' order, defaults among them -/
structure KBinds (K : PySem.W.Frag) (fd : FuncData) (ps ks : List Str) (g : List Value → List Value → List Value) (gV : List V → List V → List V) : Prop where
  to : ∀ (s : Shared) (us ws : List Value), K.In s.heap → (g us ws).length = ps.length → BindsTo s fd ⟨us, ks.zip ws⟩ (ps.zip (g us ws))
  rel : ∀ {vs : List V} {us : List Value} {zs : List V} {ws : List Value}, Vals vs us → Vals zs ws → Vals (gV vs zs) (g us ws)
def tCallK (sp : Sp) (gV : List V → List V → List V) (E : XK) (t tk : TA) : TE := fun σ H Q => t σ H fun vs H1 => tk σ H1 fun zs H2 => sp (gV vs zs) H2 Q E
variable {g : List Value → List Value → List Value} {gV : List V → List V → List V}
theorem run_fnk {pins : List (Addr × Obj)} {σ : St} {H : Hp} {s : Shared} {Q : VK} {us ws : List Value} {vs zs : List V} (F : FnOk X.prog X.w X.K X.mg X.base CX k f fd ps sp) (hr : Room k X.A) (hb : KBinds X.K fd ps ks g gV) (hx : Passes CX X E)
    (I : Inv X pins σ H s) (r : Vals vs us) (rz : Vals zs ws) (h : sp (gV vs zs) H Q E) : wpAny (model X.prog X.w) X.A (call (.ref f) us (ks.zip ws)) (EP X pins σ Q) X.xe s := by
  have r2 := hb.rel r rz
  have hl : (g us ws).length = ps.length := by rw [← r2.length]; exact F.len _ _ _ _ h
  refine wpAny_call (codeAny_mono (F.run X.A X.stack s H ⟨us, ks.zip ws⟩ (g us ws) (gV vs zs) Q E hr I.env0 (hb.to s us ws I.kIn hl) r2 h) fun r s' hq => ?_)
  cases r with
  | error e => exact hx pins σ H s e s' I hq
  | ok fl =>
    cases fl with
    | ret u => exact I.after hq
    | next => exact False.elim hq
    | brk => exact False.elim hq
    | cont => exact False.elim hq
/-- f(e, .., k = v, ..) -/
theorem pe_callK (F : FnOk X.prog X.w X.K X.mg X.base CX k f fd ps sp) (hr : Room k X.A) (hg : Gl X x) (hm : X.mg x = some (.ref f)) (hk : PySem.W.keepIn X.K (.ref f) = true) (hb : KBinds X.K fd ps ks g gV) (hx : Passes CX X E)
    (ha : PA X (e :: es) t) (hkw : PK X kws tk) (hall : (backToKw pos (keywordEach kws X.env)).all (·.1.isSome) = true := by rfl) (hks : (backToKw pos (keywordEach kws X.env)).filterMap (·.1) = ks := by rfl)
    (hdb : (x == ("__debug__" : Str)) = false := by decide) (he : starEach (e :: es) X.env = (false, eval e X.env) :: starEach es X.env := by rfl)
    (hpl : ((backTo pos (starEach (e :: es) X.env)).any (·.1) || (backToKw pos (keywordEach kws X.env)).any (·.1.isNone)) = false := by rfl) :
    PE X (.Call (.Name x p) (e :: es) kws pos) (tCallK sp gV E t tk) := by
  intro pins s σ H Q I h
  refine wpAny_Call_Name_kw (ld_glob I hg hm ?_ hdb)
  refine PySem.W.callWith_KW (h₀ := X.base) I.ok.mod.kin hk hall (thn (ha pos pins s σ H _ I h) fun us s1 ⟨vs, H1, I1, r, q⟩ => ?_) hpl he
  refine thn (hkw pos pins s1 σ H1 _ I1 q) fun ws s2 ⟨zs, H2, I2, rz, q2⟩ => ⟨I2.kIn, ?_⟩
  rw [hks]
  exact run_fnk F hr hb hx I2 r rz q2
end

/-! ### a def's body keeps its promise -/
/-- names: the parameters first -/
structure FnScope (N P : List Str) (sc : Scope) : Prop where
  kind : sc.kind = .function
  co : sc.isCoroutine = false
  gen : sc.isGenerator = false
  nd : N.Nodup
  pre : N.take P.length = P
  par : ∀ x ∈ P, sc.names.lookup x = some .local ∨ sc.names.lookup x = some .cell
  nofree : ∀ y ∈ sc.names, y.2 ≠ .free

theorem bindL_out {kindOf : Str → Option NameKind} {x : Str} : ∀ {binds : List (Str × Value)} {m : Str → Option Value}, (∀ v, (x, v) ∉ binds) → bindL kindOf binds m x = m x
  | [], _, _ => rfl
  | (n, v) :: r, m, h => by
    unfold bindL
    rw [bindL_out fun w hw => h w (List.mem_cons_of_mem _ hw)]
    split
    · have : x ≠ n := by rintro rfl; exact h v List.mem_cons_self
      simp [this]
    · rfl
theorem bindC_out {kindOf : Str → Option NameKind} {x : Str} : ∀ {binds : List (Str × Value)} {m : Str → Option Value}, (∀ v, (x, v) ∉ binds) → bindC kindOf binds m x = m x
  | [], _, _ => rfl
  | (n, v) :: r, m, h => by
    unfold bindC
    rw [bindC_out fun w hw => h w (List.mem_cons_of_mem _ hw)]
    split
    · rfl
    · have : x ≠ n := by rintro rfl; exact h v List.mem_cons_self
      simp [this]
theorem bindL_get {kindOf : Str → Option NameKind} {x : Str} {v : Value} : ∀ {P : List Str} {vs : List Value} {i : Nat} {m : Str → Option Value}, P.Nodup → P[i]? = some x → vs[i]? = some v → kindOf x = some .local →
    bindL kindOf (P.zip vs) m x = some v
  | [], _, _, _, _, h, _, _ => by simp at h
  | _ :: _, [], _, _, _, _, h, _ => by simp at h
  | p :: P, w :: vs, 0, m, nd, h1, h2, hk => by
    simp at h1 h2; subst h1; subst h2
    show bindL kindOf ((p, w) :: P.zip vs) m p = _
    unfold bindL
    rw [bindL_out fun v hv => (List.nodup_cons.mp nd).1 (List.of_mem_zip hv).1, if_pos hk]
    simp
  | p :: P, w :: vs, i + 1, m, nd, h1, h2, hk => by
    show bindL kindOf ((p, w) :: P.zip vs) m x = _
    unfold bindL
    exact bindL_get (i := i) (List.nodup_cons.mp nd).2 (by simpa using h1) (by simpa using h2) hk
theorem bindC_get {kindOf : Str → Option NameKind} {x : Str} {v : Value} : ∀ {P : List Str} {vs : List Value} {i : Nat} {m : Str → Option Value}, P.Nodup → P[i]? = some x → vs[i]? = some v → kindOf x ≠ some .local →
    bindC kindOf (P.zip vs) m x = some v
  | [], _, _, _, _, h, _, _ => by simp at h
  | _ :: _, [], _, _, _, _, h, _ => by simp at h
  | p :: P, w :: vs, 0, m, nd, h1, h2, hk => by
    simp at h1 h2; subst h1; subst h2
    show bindC kindOf ((p, w) :: P.zip vs) m p = _
    unfold bindC
    rw [bindC_out fun v hv => (List.nodup_cons.mp nd).1 (List.of_mem_zip hv).1, if_neg hk]
    simp
  | p :: P, w :: vs, i + 1, m, nd, h1, h2, hk => by
    show bindC kindOf ((p, w) :: P.zip vs) m x = _
    unfold bindC
    exact bindC_get (i := i) (List.nodup_cons.mp nd).2 (by simpa using h1) (by simpa using h2) hk

/-- the names' values at the entry -/
def start (N : List Str) (vs : List V) : St := vs.map some ++ List.replicate (N.length - vs.length) none

/-- the context of a def's body, at its entry; an exception leaves the frame, then lies as CX says -/
def cxOf (CX : CXT) (P : Program) (w : World) (K : PySem.W.Frag) (mg : Str → Option Value) (base : Heap) (N : List Str) (qual : Str) (scope : Scope) (f : Addr) (cd : Value) (A : Around) (outer : List Env) (s : Shared) (H : Hp) (E : XK) : Cx where
  prog := P
  w := w
  K := K
  mg := mg
  base := base
  A := A.deeper (envOfC qual scope s.heap.objs.size f cd)
  N := N
  s₀ := s
  H₀ := H
  env := envOfC qual scope s.heap.objs.size f cd
  outer := outer
  stack := envOfC qual scope s.heap.objs.size f cd :: outer
  ex := []
  calm := true
  fn := fun _ => true
  pn := []
  xe := fun e s' => wpAny (model P w) (A.deeper (envOfC qual scope s.heap.objs.size f cd)) (leaving (envOfC qual scope s.heap.objs.size f cd) e) (fun _ s'' => CX outer H s E e s'') (fun e' s'' => CX outer H s E e' s'') s'

theorem cell_has {sc : Scope} {n : Nat} {x : Str} (h : sc.names.lookup x = some .cell) : ∃ c, (cellsFrom n sc.names []).lookup x = some c := by
  have q := PySem.W.cellsFrom_some sc.names n [] (.inl h)
  exact Option.isSome_iff_exists.mp q

theorem inv_start {CX : CXT} {P : Program} {w : World} {K : PySem.W.Frag} {mg : Str → Option Value} {base : Heap} {N ps : List Str} {qual : Str} {scope : Scope} {f : Addr} {cd : Value} {A : Around} {outer : List Env} {s s1 : Shared} {H : Hp} {E : XK} {us : List Value} {vs : List V}
    (S : FnScope N ps scope) (hd : A.handled = none) (e0 : Env0 P w K mg base A outer s H) (hl : vs.length = ps.length) (r : Vals vs us)
    (x : InCallC s s.heap.objs.size (bindL (envOfC qual scope s.heap.objs.size f cd).kindOf (ps.zip us) fun _ => none) (cellsFrom (s.heap.objs.size + 1) scope.names []) (bindC (envOfC qual scope s.heap.objs.size f cd).kindOf (ps.zip us) fun _ => none) s1) :
    Inv (cxOf CX P w K mg base N qual scope f cd A outer s H E) [] (start N vs) H s1 := by
  have hpl : ps.length ≤ N.length := by have := congrArg List.length S.pre; rw [List.length_take] at this; omega
  obtain ⟨h1, tk, rfl, hk⟩ := x.done
  have noA : ∀ b : Addr, b ∉ (cxOf CX P w K mg base N qual scope f cd A outer s H E).ex := fun b z => absurd (show b ∈ ([] : List Addr) from z) (by simp)
  refine ⟨⟨e0.mod, S.kind, rfl, rfl, Nat.le_refl _, fun y z c h1 h2 => ?_, fun y hy => ?_, fun y c _ h => ?_, fun _ => hd, Around.frames_deeper e0.frames, .inr ⟨rfl, rfl⟩, fun b z => absurd z (noA b), e0.bs, e0.bsz, fun b _ _ => noA b, fun b z => absurd z (noA b), e0.funs, e0.frf⟩,
    rfl, e0.bare, Un.kept hk, ⟨_, x.toInCall.ns, fun i y v h1 h2 h3 => ?_⟩, fun y c h => ⟨_, x.cell y c h⟩, e0.hok.fresh (Nat.le_refl _), fun y c h => ?_, fun p hp => absurd (show p ∈ ([] : List (Addr × Obj)) from hp) (by simp), e0.hok.kept hk, ?_⟩
  · exact name_of_addr x.apart (PySem.mem_of_lookup h1) (PySem.mem_of_lookup h2)
  · have hy : scope.names.lookup y = some .cell ∨ scope.names.lookup y = some .free := hy
    rcases hy with hy | hy
    · exact cell_has hy
    · exact absurd rfl (S.nofree _ (PySem.mem_of_lookup hy))
  · exact Nat.le_of_lt (x.above y c (PySem.mem_of_lookup h))
  · have hi : i < vs.length := by
      unfold start at h2
      by_cases hi : i < vs.length
      · exact hi
      · rw [List.getElem?_append_right (by simpa using hi)] at h2
        rw [List.getElem?_replicate] at h2
        split at h2 <;> cases h2
    have ha : vs[i]? = some v := by
      unfold start at h2
      rw [List.getElem?_append_left (by simpa using hi), List.getElem?_map] at h2
      cases e : vs[i]? with
      | none => rw [e] at h2; cases h2
      | some a => rw [e] at h2; cases h2; rfl
    obtain ⟨u, hu, rv⟩ := r.get ha
    have hp : ps[i]? = some y := by
      rw [← S.pre, List.getElem?_take_of_lt (by omega)]; exact h1
    have ndP : ps.Nodup := by rw [← S.pre]; exact S.nd.sublist (List.take_sublist _ _)
    refine ⟨u, rv, ?_⟩
    rcases S.par y (List.mem_of_getElem? hp) with k | k
    · exact .inl ⟨k, bindL_get ndP hp hu k⟩
    · obtain ⟨c, e⟩ := cell_has (n := s.heap.objs.size + 1) k
      refine .inr ⟨.inl k, c, e, ?_⟩
      have q := x.cell y c e
      rw [bindC_get ndP hp hu (by show scope.names.lookup y ≠ _; rw [k]; decide)] at q
      exact q
  · exact e0.hok.fresh (Nat.le_of_lt (x.above y c (PySem.mem_of_lookup h)))
  · unfold start
    show _ = N.length
    rw [List.length_append, List.length_map, List.length_replicate]
    omega

/-- THE RULE: a def (or a method) of the text, by its body. The body's reading t is chosen for each entry; it is run at the parameters' values -/
theorem fn_of {CX : CXT} {P : Program} {w : World} {K : PySem.W.Frag} {mg : Str → Option Value} {base : Heap} {k : Nat} {f : Addr} {name qual : Str} {params : Arguments} {body : List Stmt} {scope : Scope} {dV kV doc pm cdv ct oc : Value} {an od : Option Addr}
    {osl : Array (Option Value)} {N ps : List Str} {sp : Sp} (lk : K.lookup f = some ⟨oc, od, .func (PySem.W.fnOf name qual params body scope dV kV doc pm an cdv ct), osl⟩) (hcd : PySem.W.codeIn K cdv qual = true) (S : FnScope N ps scope)
    (len : ∀ vs H Q E, sp vs H Q E → vs.length = ps.length)
    (hbody : ∀ (A : Around) (outer : List Env) (s : Shared) (H : Hp) (vs : List V) (Q : VK) (E : XK), Room k (A.deeper (envOfC qual scope s.heap.objs.size f cdv)) → sp vs H Q E →
      ∃ t, PSs (cxOf CX P w K mg base N qual scope f cdv A outer s H E) body t ∧ t { nx := fun _ H' => Q .non H', rt := Q } (start N vs) H) :
    FnOk P w K mg base CX (k + 1) f (PySem.W.fnOf name qual params body scope dV kV doc pm an cdv ct) ps sp := by
  refine ⟨len, fun A outer s H args us vs Q E hr e0 hb r hsp => ?_⟩
  have hl := len _ _ _ _ hsp
  have KX : K.In s.heap := e0.mod.kin.keeps fun b o e => (e0.bs b o e).1
  have lim : s.heap.NoLimit := e0.mod.nolimit.keeps fun b o e => (e0.bs b o e).1
  have hkind : ∀ y ∈ ps.zip us, scope.names.lookup y.1 = some .local ∨ (scope.names.lookup y.1 = some .cell ∧ ((cellsFrom (s.heap.objs.size + 1) scope.names []).lookup y.1).isSome = true) := fun ⟨n, v⟩ hy => by
    rcases S.par n (List.of_mem_zip hy).1 with q | q
    · exact .inl q
    · exact .inr ⟨q, PySem.W.cellsFrom_some _ _ _ (.inl q)⟩
  refine codeAny_call_function hr.depth (KX _ _ lk) rfl S.co S.gen rfl (PySem.W.codeRec_of KX hcd) (hb _ _ _ _ ?_)
  refine wpAny_newFunctionEnv_cells S.kind hkind fun env he s1 x => ?_
  subst he
  refine ⟨lim.keeps x.toInCall.keep, codeAny_func ?_⟩
  obtain ⟨t, ht, hq⟩ := hbody A outer s H vs Q E (hr.deeper _) hsp
  have I : Inv (cxOf CX P w K mg base N qual scope f cdv A outer s H E) [] (start N vs) H s1 := inv_start S hr.hd e0 hl r x
  refine wpAny_mono (ht [] s1 (start N vs) H _ I hq) (fun fl s' hs => ?_) fun e s' hs => hs
  have fin : ∀ {σ' : St} {H' : Hp} {v : V} {u : Value}, Inv (cxOf CX P w K mg base N qual scope f cdv A outer s H E) [] σ' H' s' → RelV v u → Q v H' → CE outer P w H s Q u s' :=
    fun {σ' H' v u} J rv q => ⟨v, H', J.os, J.bare, J.base, J.hok, rv, q⟩
  cases fl with
  | ret u =>
    obtain ⟨v, σ', H', J, rv, q⟩ := hs
    exact fin J rv q
  | next =>
    obtain ⟨σ', H', J, q⟩ := hs
    exact fin (v := V.non) (u := Value.none) J rfl q
  | brk =>
    obtain ⟨_, _, _, q⟩ := hs
    exact False.elim q
  | cont =>
    obtain ⟨_, _, _, q⟩ := hs
    exact False.elim q
end L2

namespace L2
open PySem PySem.Spec PyProof.Rows
section
variable {X : Cx} {x : Str} {p pos : Pos} {e : Expr} {es : List Expr} {t : TA} {id T : String} {r : List V → Hp → VK → Prop}

def tCB (r : List V → Hp → VK → Prop) (t : TA) : TE := fun σ H Q => t σ H fun vs H1 => r vs H1 Q
/-- f(e, ..), f a built-in function -/
theorem pe_callB (hc : CallR X (.builtin id) r) (hg : Gl X x) (hm : X.mg x = none) (hv : bootBuiltins x = some (.builtin id)) (ha : PA X (e :: es) t) (hn : x ≠ "__name__" := by decide) (hdb : (x == ("__debug__" : Str)) = false := by decide)
    (he : starEach (e :: es) X.env = (false, eval e X.env) :: starEach es X.env := by rfl) (hpl : (backTo pos (starEach es X.env)).any (·.1) = false := by rfl) : PE X (.Call (.Name x p) (e :: es) [] pos) (tCB r t) := by
  intro pins s σ H Q I h
  refine wpAny_Call_Name_kw (ld_blt I hg hm hv ?_ hn hdb)
  exact PyProof.Rows.callWith_builtin1 (thn (ha pos pins s σ H _ I h) fun us s1 ⟨vs, H1, I1, r1, q1⟩ => hc pins s1 σ H1 vs us Q I1 r1 q1) he hpl
/-- T(e, ..), T a built-in type -/
theorem pe_callTy (hc : CallR X (.type T) r) (hg : Gl X x) (hm : X.mg x = none) (hv : bootBuiltins x = some (.type T)) (ha : PA X (e :: es) t) (hn : x ≠ "__name__" := by decide) (hdb : (x == ("__debug__" : Str)) = false := by decide)
    (he : starEach (e :: es) X.env = (false, eval e X.env) :: starEach es X.env := by rfl) (hpl : (backTo pos (starEach es X.env)).any (·.1) = false := by rfl) : PE X (.Call (.Name x p) (e :: es) [] pos) (tCB r t) := by
  intro pins s σ H Q I h
  refine wpAny_Call_Name_kw (ld_blt I hg hm hv ?_ hn hdb)
  exact PyProof.Rows.callWith_type1 (thn (ha pos pins s σ H _ I h) fun us s1 ⟨vs, H1, I1, r1, q1⟩ => hc pins s1 σ H1 vs us Q I1 r1 q1) he hpl
/-- T() -/
theorem pe_callTy0 (hc : CallR X (.type T) r) (hg : Gl X x) (hm : X.mg x = none) (hv : bootBuiltins x = some (.type T)) (hn : x ≠ "__name__" := by decide) (hdb : (x == ("__debug__" : Str)) = false := by decide) :
    PE X (.Call (.Name x p) [] [] pos) (tCB r tNil) := by
  intro pins s σ H Q I h
  refine wpAny_Call_Name_kw (ld_blt I hg hm hv ?_ hn hdb)
  exact PyProof.Rows.callWith_type0 (hc pins s σ H [] [] Q I .nil h)
end
end L2

namespace HT
open PySem PyProof.Rows

/-- t < u of tuples of ints -/
def lexLt : List Int → List Int → Bool
  | [], [] => false
  | [], _ :: _ => true
  | _ :: _, [] => false
  | x :: xs, y :: ys => if x = y then lexLt xs ys else decide (x < y)
theorem lexLt_cons (x y : Int) (xs ys : List Int) : lexLt (x :: xs) (y :: ys) = if x = y then lexLt xs ys else decide (x < y) := rfl
theorem lexLt_nil_nil : lexLt [] [] = false := rfl
theorem lexLt_nil_cons (y : Int) (ys : List Int) : lexLt [] (y :: ys) = true := rfl
theorem lexLt_cons_nil (x : Int) (xs : List Int) : lexLt (x :: xs) [] = false := rfl

theorem eqAt_int (A : Around) (s : Shared) (a : Int) (t : Tok) (c : Int) (u : Tok) : ∃ e, SeqAt.EqAt A s (.int a t) (.int c u) e ∧ (e = true ↔ a = c) :=
  ⟨(a == c), SeqAt.EqAt.int_int a t c u, by simp⟩
theorem rcLt_int (A : Around) (s : Shared) (a : Int) (t : Tok) (c : Int) (u : Tok) (prog : Program) (w : World) (E : Value → Shared → Prop) (Q : Value → Shared → Prop) (h : Q (.bool (decide (a < c))) s) :
    wpAny (model prog w) A (richCompare .Lt (.int a t) (.int c u)) Q E s :=
  (PyProof.Rows.lt_int h : wpAny (model prog w) A (compareOp .Lt (.int a t) (.int c u)) Q E s)

section
open PySem.SeqAt
open PySem.AutoSeq1 (wpAny_loadPart')
open PySem.MeetsSeq PySem.MeetsSeq2 PySem.MeetsSeq3

theorem tuple_lt_ints (l b : Addr) (items items2 : Array Value) (n n2 : Nat) (dd dd2 : Option Addr) (sl sl2 : Array (Option Value)) (ns ms : List Int) (hi : IntsAre items.toList ns) (hj : IntsAre items2.toList ms) :
    Meets (Builtin.«tuple.__lt__» ⟨[.ref l, .ref b], []⟩)
      (fun _ R s => s.heap.get? l = some { cls := .type "tuple", dict := dd, data := .seq items n, slots := sl } ∧ s.heap.get? b = some { cls := .type "tuple", dict := dd2, data := .seq items2 n2, slots := sl2 } ∧
        R (.ok (.ret (.bool (lexLt ns ms)))) s) :=
  .of_wp fun prog w A R s h => by
    obtain ⟨hp, g, d, tk, os⟩ := s; obtain ⟨hl, hb, h⟩ := h
    have f2 := AutoSeq1.sub_tuple_tuple
    have z1 : items.size = ns.length := by rw [← hi.length]; simp
    have z2 : items2.size = ms.length := by rw [← hj.length]; simp
    wp_walk using wpAny_loadPart' hl, wpAny_loadPart' hb, wpAny_forIn_list _ (fun rest b s' => b.1 = none ∧ s' = ⟨hp, g, d, tk, os⟩ ∧ ∃ (vs ws : List Value) (ns' ms' : List Int), rest = vs.zip ws ∧
      IntsAre vs ns' ∧ IntsAre ws ms' ∧ ns'.length + items2.size = ms'.length + items.size ∧ R (.ok (.ret (.bool (lexLt ns' ms')))) ⟨hp, g, d, tk, os⟩) _
    case turn =>
      rintro ⟨y, x⟩ rest b s' ⟨hb', rfl, vs, ws, ns', ms', hz, hvi, hwi, hlen, hR⟩
      cases hvi with
      | nil => rw [List.zip_nil_left] at hz; cases hz
      | cons a t hvi' =>
        cases hwi with
        | nil => rw [List.zip_nil_right] at hz; cases hz
        | cons c u hwi' =>
          rw [List.zip_cons_cons] at hz
          injection hz with hyx hrest
          injection hyx with hy hx
          subst hy hx
          rw [lexLt_cons] at hR
          simp only [List.length_cons] at hlen
          obtain ⟨e, he, hiff⟩ := eqAt_int A.in1 ⟨hp, g, d, tk, os⟩ a t c u
          refine wpAny_bind (he prog w _ _ ?_)
          cases e with
          | true =>
            rw [if_pos (hiff.mp rfl)] at hR
            wp_walk
            exact ⟨rfl, rfl, _, _, _, _, hrest, hvi', hwi', by omega, hR⟩
          | false =>
            rw [if_neg (fun q => absurd (hiff.mpr q) Bool.false_ne_true)] at hR
            have hri := rcLt_int A.in1 ⟨hp, g, d, tk, os⟩ a t c u prog w
            wp_walk using hri
            exact ⟨_, rfl, by simpa using hR⟩
    case fin =>
      rintro ⟨b1, b2⟩ s' ⟨hb', rfl, vs, ws, ns', ms', hz, hvi, hwi, hlen, hR⟩
      simp only at hb'
      subst hb'
      have hv : lexLt ns' ms' = decide (items.size < items2.size) := by
        cases hvi with
        | nil =>
          cases hwi with
          | nil =>
            simp only [List.length_nil] at hlen
            rw [lexLt_nil_nil]
            exact (decide_eq_false (by omega)).symm
          | cons c u hw =>
            simp only [List.length_nil, List.length_cons] at hlen
            rw [lexLt_nil_cons]
            exact (decide_eq_true (by omega)).symm
        | cons a t hv =>
          cases hwi with
          | nil =>
            simp only [List.length_nil, List.length_cons] at hlen
            rw [lexLt_cons_nil]
            exact (decide_eq_false (by omega)).symm
          | cons c u hw =>
            rw [List.zip_cons_cons] at hz
            cases hz
      rw [hv] at hR
      wp_walk
      exact ⟨_, rfl, by simpa [Builtin.Tuple.tupleCompareSizes] using hR⟩
    case h =>
      exact ⟨rfl, rfl, items.toList, items2.toList, ns, ms, rfl, hi, hj, by omega, h⟩
end

section
variable {prog : Program} {w : World} {A : Around} {E : Value → Shared → Prop} {s : Shared}

theorem lt_tupInts {l b : Addr} {items items2 : Array Value} {ns ms : List Int} {Q : Value → Shared → Prop} (hl : IsTup s.heap l items) (hb : IsTup s.heap b items2) (hi : IntsAre items.toList ns) (hj : IntsAre items2.toList ms)
    (hu : A.units < cLine) (h : Q (.bool (lexLt ns ms)) s) : wpAny (model prog w) A (compareOp .Lt (.ref l) (.ref b)) Q E s := by
  obtain ⟨⟨cls, dd, data, sl⟩, ho, hc, n, hd⟩ := id hl
  obtain ⟨⟨cls2, dd2, data2, sl2⟩, ho2, hc2, n2, hd2⟩ := id hb
  simp only at hc hd hc2 hd2
  subst hc hd hc2 hd2
  exact richCompare_meets_room (op := .Lt) ⟨_, ho, rfl⟩ ⟨_, ho2, rfl⟩ PySem.F.slot_tuple_lt PySem.F.entry_tuple_lt (PySem.F.args_tuple_lt_2 _ _) (tuple_lt_ints l b items items2 n n2 dd dd2 sl sl2 ns ms hi hj)
    ⟨ho, ho2, show Value.bool (lexLt ns ms) ≠ Value.notImplemented ∧ Q (.bool (lexLt ns ms)) s from ⟨(fun x => nomatch x), h⟩⟩ hu

/-- t + u, t not empty -/
theorem cat_tup {t b : Addr} {vs ws : List Value} {Q : Value → Shared → Prop} (ht : IsTup s.heap t vs.toArray) (hb : IsTup s.heap b ws.toArray) (hv : vs ≠ [])
    (h1 : ws = [] → Q (.ref t) s) (h2 : ws ≠ [] → Q (.ref s.heap.objs.size) { s with heap := s.heap.push { cls := .type "tuple", data := .seq (vs ++ ws).toArray } })
    (hsz : vs.length + ws.length ≤ sizeLine) : wpAny (model prog w) A (binaryOp .Add (.ref t) (.ref b)) Q E s := by
  obtain ⟨⟨cls, dd, data, sl⟩, ho, hc, n, hd⟩ := id ht
  obtain ⟨⟨cls2, dd2, data2, sl2⟩, ho2, hc2, n2, hd2⟩ := id hb
  simp only at hc hd hc2 hd2
  subst hc hd hc2 hd2
  have e : vs.toArray ++ ws.toArray = (vs ++ ws).toArray := by simp
  by_cases hw : ws = []
  · exact concat_meets ⟨_, ho, rfl⟩ ⟨_, ho2, rfl⟩ noFill_tuple_add seq_tuple_add PySem.F.slot_tuple_add PySem.F.entry_tuple_add (PySem.F.args_tuple_add_2 _ _)
      (tuple_addW1 t b vs.toArray ws.toArray n n2 dd dd2 sl sl2 (by simpa using hv) (by simp [hw])) ⟨ho, ho2, h1 hw⟩
  · refine concat_meets ⟨_, ho, rfl⟩ ⟨_, ho2, rfl⟩ noFill_tuple_add seq_tuple_add PySem.F.slot_tuple_add PySem.F.entry_tuple_add (PySem.F.args_tuple_add_2 _ _)
      (tuple_addW2 t b vs.toArray ws.toArray n n2 dd dd2 sl sl2 (by simpa using hv) (by simpa using hw) (by rw [List.size_toArray, List.size_toArray]; exact hsz)) ⟨ho, ho2, ?_⟩
    rw [e]
    exact h2 hw

/-! ### t[a:b], not the whole -/
/-- a slice's bound as a place among n (d where it is left out) -/
def sIx (n d : Nat) : Option Int → Nat
  | none => d
  | some v => if v < 0 then (v + (n : Int)).toNat else min v.toNat n
theorem sIx_none (n d : Nat) : sIx n d none = d := rfl
theorem sIx_nat (n d k : Nat) : sIx n d (some (k : Int)) = min k n := by
  show (if (k : Int) < 0 then ((k : Int) + (n : Int)).toNat else min (k : Int).toNat n) = min k n
  rw [if_neg (by omega), Int.toNat_natCast]
theorem sIx_le (n d : Nat) (hd : d ≤ n) (o : Option Int) : sIx n d o ≤ n := by
  cases o with
  | none => exact hd
  | some v =>
    show (if v < 0 then (v + (n : Int)).toNat else min v.toNat n) ≤ n
    by_cases hv : v < 0
    · rw [if_pos hv]; omega
    · rw [if_neg hv]; exact Nat.min_le_right _ _
theorem clip_eq (v : Int) (n d : Nat) : (if v < 0 then max (v + (n : Int)) 0 else min v (n : Int)) = ((sIx n d (some v) : Nat) : Int) := by
  show (if v < 0 then max (v + (n : Int)) 0 else min v (n : Int)) = (((if v < 0 then (v + (n : Int)).toNat else min v.toNat n) : Nat) : Int)
  by_cases hv : v < 0
  · simp only [if_pos hv]; omega
  · simp only [if_neg hv]; omega
theorem adjust_gen (lo hi : Option Int) (n : Nat) : Builtin.Slice.sliceAdjust lo hi 1 (n : Int) = (((sIx n 0 lo : Nat) : Int), ((sIx n n hi : Nat) : Int)) := by
  have h1 : ¬ ((1 : Int) < 0) := by omega
  unfold Builtin.Slice.sliceAdjust
  simp only [h1, if_false]
  refine Prod.ext ?_ ?_
  · cases lo with
    | none => rfl
    | some v => exact clip_eq v n 0
  · cases hi with
    | none => rfl
    | some v => exact clip_eq v n n
theorem places_gen (i j : Nat) : Builtin.Slice.slicePlaces (i : Int) (j : Int) 1 = j - i := by
  unfold Builtin.Slice.slicePlaces
  have h1 : (1 : Int) > 0 := by omega
  simp only [h1, if_true, Int.ediv_one]
  split <;> omega
theorem slicePart_ {v : Value} {o : Option Int} {Q : Option Int → Shared → Prop} (p : IsPart v o) (h : Q o s) : wpAny (model prog w) A (Builtin.Slice.slicePartIndex v) Q E s := by
  cases p with
  | none => exact slicePart_none h
  | int i t => exact slicePart_int h
theorem sliceApplied_gen {sl : Addr} {vl vu : Value} {lo hi : Option Int} {n : Nat} {Q : Int × Int × Nat → Shared → Prop} (hs : s.heap.IsSliceOf sl vl vu .none) (pl : IsPart vl lo) (pu : IsPart vu hi)
    (h : Q (((sIx n 0 lo : Nat) : Int), 1, sIx n n hi - sIx n 0 lo) s) : wpAny (model prog w) A (Builtin.Slice.sliceApplied (.ref sl) (pure (n : Int))) Q E s := by
  obtain ⟨os, hos, hcs, hds⟩ := id hs
  unfold Builtin.Slice.sliceApplied Builtin.Slice.sliceFields
  refine wpAny_bind (wpAny_bind (wpAny_field hos hds (x := vl) rfl (wpAny_bind (wpAny_field hos hds (x := vu) rfl (wpAny_bind (wpAny_field hos hds (x := .none) rfl (wpAny_pure ?_)))))))
  refine wpAny_bind (slicePart_none ?_)
  show wpAny _ _ (if ((1 : Int) == 0) = true then _ else _) _ _ s
  rw [if_neg (by decide)]
  refine wpAny_bind (slicePart_ pl (wpAny_bind (slicePart_ pu (wpAny_bind (wpAny_pure ?_)))))
  show wpAny _ _ (match Builtin.Slice.sliceAdjust lo hi 1 (n : Int) with | (lo, hi) => pure (lo, (1 : Int), Builtin.Slice.slicePlaces lo hi 1)) _ _ s
  rw [adjust_gen lo hi n]
  show wpAny _ _ (pure (((sIx n 0 lo : Nat) : Int), (1 : Int), Builtin.Slice.slicePlaces ((sIx n 0 lo : Nat) : Int) ((sIx n n hi : Nat) : Int) 1)) _ _ s
  rw [places_gen]
  exact wpAny_pure h
theorem pick_gen (xs : Array Value) (i k : Nat) : ((List.range k).filterMap fun (m : Nat) => xs[((i : Int) + (m : Int) * 1).toNat]?).toArray = ((xs.toList.drop i).take k).toArray := by
  have e : (fun (m : Nat) => xs[((i : Int) + (m : Int) * 1).toNat]?) = fun m => xs[i + m]? := by
    funext m
    have : ((i : Int) + (m : Int) * 1).toNat = i + m := by omega
    rw [this]
  rw [e]
  have := pick_run xs i k
  rw [List.filterMap_map] at this
  have e2 : ((fun x => xs[x]?) ∘ fun x => i + x) = fun m => xs[i + m]? := rfl
  rw [e2] at this
  rw [this]

theorem getItem_tuple_cut {t sl : Addr} {items : Array Value} {vl vu : Value} {lo hi : Option Int} {Q : Value → Shared → Prop} (ht : IsTup s.heap t items) (hs : s.heap.IsSliceOf sl vl vu .none) (pl : IsPart vl lo) (pu : IsPart vu hi)
    (hw : ¬ (sIx items.size 0 lo = 0 ∧ sIx items.size items.size hi = items.size))
    (h : Q (.ref s.heap.objs.size) { s with heap := s.heap.push { cls := .type "tuple", data := .seq ((items.toList.drop (sIx items.size 0 lo)).take (sIx items.size items.size hi - sIx items.size 0 lo)).toArray } })
    (hsz : items.size ≤ sizeLine) : wpAny (model prog w) A (getItem (.ref t) (.ref sl)) Q E s := by
  have htake : sizeOk (.seq ((items.toList.drop (sIx items.size 0 lo)).take (sIx items.size items.size hi - sIx items.size 0 lo)).toArray) := by
    show ((items.toList.drop (sIx items.size 0 lo)).take (sIx items.size items.size hi - sIx items.size 0 lo)).toArray.size ≤ sizeLine
    rw [List.size_toArray, List.length_take, List.length_drop, Array.length_toList]
    omega
  have hj : sIx items.size items.size hi ≤ items.size := sIx_le _ _ (Nat.le_refl _) hi
  obtain ⟨os, hos, hcs, hds⟩ := id hs
  have hTs : s.TypeIs (.ref sl) "slice" := ⟨os, hos, hcs⟩
  unfold getItem
  try with_reducible refine wpAny_holding ?_
  first | refine wpAny_bind (wpAny_pure ?_) | skip
  refine wpAny_bind (wpAny_sequenceKey ht.typeIs (by decide) ?_)
  refine wpAny_bind (wpAny_callSpecial?_slot (name := Str.ofString "__getitem__") ht.typeIs PyProof.Rows.slot_tuple_getitem
    (wpAny_call_entry PyProof.Rows.slot_tuple_getitem ht.typeIs entry_tuple_getitem ?_ (args_tuple_getitem _ _)))
  show wpAny _ _ (Builtin.Tuple.tupleItemsOf (.ref t) >>= _) _ _ s
  refine wpAny_bind (tupleItemsOf_ ht ?_)
  refine wpAny_bind (wpAny_typeOf hTs ?_)
  rw [if_pos (by decide)]
  refine wpAny_bind (sliceApplied_gen hs pl pu ?_)
  have hno : ¬ ((((sIx items.size 0 lo : Nat) : Int) == 0 && (1 : Int) == 1 && (sIx items.size items.size hi - sIx items.size 0 lo) == items.size) = true) := by
    intro q
    rw [Bool.and_eq_true, Bool.and_eq_true] at q
    have q1 : ((sIx items.size 0 lo : Nat) : Int) = 0 := eq_of_beq q.1.1
    have q2 : sIx items.size items.size hi - sIx items.size 0 lo = items.size := eq_of_beq q.2
    exact hw ⟨by omega, by omega⟩
  show wpAny _ _ (if (((sIx items.size 0 lo : Nat) : Int) == 0 && (1 : Int) == 1 && (sIx items.size items.size hi - sIx items.size 0 lo) == items.size) = true then _ else _) _ _ s
  rw [if_neg hno, pick_gen]
  first
    | exact wpAny_bind (m := Builtin.Tuple.tupleExact _) (wpAny_newObj_type (wpAny_pure ⟨_, rfl, wpAny_pure h⟩) htake)
    | exact wpAny_bind (m := Builtin.Tuple.tupleExact _) (wpAny_newObj_type (wpAny_bind (wpAny_pure (wpAny_pure ⟨_, rfl, wpAny_pure h⟩))) htake)
    | exact wpAny_bind (wpAny_bind (m := Builtin.Tuple.tupleExact _) (wpAny_newObj_type (wpAny_pure (wpAny_pure ⟨_, rfl, wpAny_pure h⟩)) htake))
    | exact wpAny_bind (wpAny_bind (m := Builtin.Tuple.tupleExact _) (wpAny_newObj_type (wpAny_pure ⟨_, rfl, wpAny_pure h⟩) htake))
end
end HT

namespace L2
open PySem PySem.Spec PyProof.Rows

/-! ### the parts of a slice -/
abbrev TO := St → Hp → (Option Int → Hp → Prop) → Prop
/-- a slice's part (left out, or an int) -/
def PO (X : Cx) (e : Option Expr) (t : TO) : Prop :=
  ∀ (pins : List (Addr × Obj)) (s : Shared) (σ : St) (H : Hp) (Q : Option Int → Hp → Prop), Inv X pins σ H s → t σ H Q →
    wpAny (model X.prog X.w) X.A (evalPart e X.env) (fun u s' => ∃ o H', Inv X pins σ H' s' ∧ IsPart u o ∧ Q o H') X.xe s
def tNoPart : TO := fun _ H Q => Q none H
def tPart (t : TE) : TO := fun σ H Q => t σ H fun x H1 => ∃ i, x = .int i ∧ Q (some i) H1

theorem intsAre_of {ns : List Int} : ∀ {us : List Value}, Vals (ns.map V.int) us → IntsAre us ns := by
  induction ns with
  | nil => intro us r; rw [List.map_nil] at r; cases r; exact .nil
  | cons n ns ih =>
    intro us r
    rw [List.map_cons] at r
    cases r with
    | cons r1 r2 =>
      obtain ⟨t, e⟩ := r1
      subst e
      exact .cons n t (ih r2)

section
variable {X : Cx} {e : Expr} {te : TE} {lo hi : Option Expr} {tl th : TO} {pos p2 : Pos}

theorem po_none : PO X none tNoPart := by
  intro pins s σ H Q I h
  rw [evalPart_none]
  exact wpAny_pure ⟨none, H, I, .none, h⟩
theorem po_some (h : PE X e te) : PO X (some e) (tPart te) := by
  intro pins s σ H Q I hw
  rw [evalPart_some]
  refine thn (h pins s σ H _ I hw) fun u s1 ⟨x, H1, I1, r1, q1⟩ => ?_
  obtain ⟨i, rfl, q⟩ := q1
  obtain ⟨t, rfl⟩ := r1
  exact ⟨some i, H1, I1, .int i t, q⟩

/-- what a slice of a value is, by values: the slice object stands at sl -/
def SlR (X : Cx) (r : V → Option Int → Option Int → Hp → VK → Prop) : Prop :=
  ∀ (pins : List (Addr × Obj)) (s : Shared) (σ : St) (H : Hp) (x : V) (v vl vu : Value) (lo hi : Option Int) (sl : Addr) (Q : VK), Inv X pins σ H s → RelV x v → s.heap.IsSliceOf sl vl vu .none → IsPart vl lo → IsPart vu hi → r x lo hi H Q →
    ∃ T id, typeLookup (.type T) "__getitem__" = pure (some (.builtin id)) ∧ s.TypeIs v T ∧ wpAny (model X.prog X.w) X.A (getItem v (.ref sl)) (EP X pins σ Q) X.xe s
theorem SlR.or {r r' : V → Option Int → Option Int → Hp → VK → Prop} (h : SlR X r) (h' : SlR X r') : SlR X (fun x lo hi H Q => r x lo hi H Q ∨ r' x lo hi H Q) := by
  intro pins s σ H x v vl vu lo hi sl Q I rx hs pl pu q
  rcases q with q | q
  · exact h pins s σ H x v vl vu lo hi sl Q I rx hs pl pu q
  · exact h' pins s σ H x v vl vu lo hi sl Q I rx hs pl pu q
def tSl (r : V → Option Int → Option Int → Hp → VK → Prop) (te : TE) (tl th : TO) : TE := fun σ H Q => te σ H fun x H1 => tl σ H1 fun l H2 => th σ H2 fun u H3 => r x l u H3 Q
/-- a[lo:hi], any a -/
theorem pe_slice {r : V → Option Int → Option Int → Hp → VK → Prop} (hr : SlR X r) (he : PE X e te) (hl : PO X lo tl) (hu : PO X hi th) : PE X (.Subscript e (.Slice lo hi none p2) pos) (tSl r te tl th) := by
  intro pins s σ H Q I h
  refine Subscript_ (thn (he pins s σ H _ I h) fun v s1 ⟨x, H1, I1, r1, q1⟩ => ?_)
  refine wpAny_Slice (thn (hl pins s1 σ H1 _ I1 q1) fun vl s2 ⟨l, H2, I2, pl, q2⟩ => thn (hu pins s2 σ H2 _ I2 q2) fun vu s3 ⟨u, H3, I3, pu, q3⟩ => ?_)
  rw [evalPart_none]
  refine wpAny_pure ?_
  have I4 : Inv X pins σ H3 { s3 with heap := s3.heap.push { cls := .type "slice", data := .fields #[vl, vu, .none] } } := I3.kept (t' := s3.toks) fun b ob q => Heap.get?_push_of_some _ q
  obtain ⟨T, id, hT, ht, hg⟩ := hr pins { s3 with heap := s3.heap.push { cls := .type "slice", data := .fields #[vl, vu, .none] } } σ H3 x v vl vu l u s3.heap.objs.size Q I4 r1 (Heap.IsSliceOf.new ..) pl pu q3
  show wpAny (model X.prog X.w) X.A (subscriptTail e (.Slice lo hi none p2) v (.ref s3.heap.objs.size)) (EP X pins σ Q) X.xe { s3 with heap := s3.heap.push { cls := .type "slice", data := .fields #[vl, vu, .none] } }
  exact tail_any (ops := [.ref s3.heap.objs.size, v]) ht hT hg (by with_unfolding_all rfl)

/-- the items of xs[lo:hi] -/
def cutV (xs : List V) (lo hi : Option Int) : List V := (xs.drop (HT.sIx xs.length 0 lo)).take (HT.sIx xs.length xs.length hi - HT.sIx xs.length 0 lo)
theorem cutV_length (xs : List V) (lo hi : Option Int) : (cutV xs lo hi).length ≤ xs.length := by
  unfold cutV
  rw [List.length_take, List.length_drop]
  omega
/-- t[lo:hi], not the whole of it (the whole would be t itself) -/
def rSlT (K : PySem.W.Frag) : V → Option Int → Option Int → Hp → VK → Prop := fun x lo hi H Q => ∃ a xs, x = .ref a ∧ SqT K H a xs ∧
  ¬ (HT.sIx xs.length 0 lo = 0 ∧ HT.sIx xs.length xs.length hi = xs.length) ∧ ∀ p, H p = none → Q (.ref p) (upd H p (.tup (cutV xs lo hi)))
theorem sl_tup : SlR X (rSlT X.K) := by
  intro pins s σ H x v vl vu lo hi sl Q I rx hs pl pu h
  obtain ⟨a, xs, rfl, hx, hw, q⟩ := h
  cases rx
  obtain ⟨its, r, ht, hz⟩ := I.tuple hx
  have hlen : its.toArray.size = xs.length := by rw [List.size_toArray]; exact r.length.symm
  refine ⟨"tuple", _, PyProof.Rows.slot_tuple_getitem.lookup, ht.typeIs, ?_⟩
  refine HT.getItem_tuple_cut ht hs pl pu (by rw [hlen]; exact hw) ?_ (by rw [hlen]; exact hz)
  rw [hlen]
  refine ⟨.ref s.heap.objs.size, _, I.laid (t' := s.toks) (o := .tup (cutV xs lo hi)) (fun b ob q => Heap.get?_push_of_some _ q) (Nat.le_refl _) ?_, rfl, q _ (I.hok.fresh (Nat.le_refl _))⟩
  exact ⟨Nat.le_trans (cutV_length xs lo hi) hz, _, (r.drop (HT.sIx xs.length 0 lo)).take (HT.sIx xs.length xs.length hi - HT.sIx xs.length 0 lo), IsTup.new _ _⟩

/-! ### t < u, t + u -/
def rLtT (K : PySem.W.Frag) : R2 := fun x y H Q => ∃ a b ns ms, x = .ref a ∧ y = .ref b ∧ SqT K H a (ns.map V.int) ∧ SqT K H b (ms.map V.int) ∧ Q (.bl (HT.lexLt ns ms)) H
theorem op_ltT (hu : X.A.units < cLine) : OpR X (compareOp .Lt) (rLtT X.K) := by
  intro pins s σ H x y v u Q I rx ry h
  obtain ⟨a, b, ns, ms, rfl, rfl, ha, hb, q⟩ := h
  cases rx
  cases ry
  obtain ⟨its, r1, p1, _⟩ := I.tuple ha
  obtain ⟨its2, r2, p2, _⟩ := I.tuple hb
  have i1 : IntsAre its.toArray.toList ns := intsAre_of r1
  have i2 : IntsAre its2.toArray.toList ms := intsAre_of r2
  exact HT.lt_tupInts p1 p2 i1 i2 hu ⟨.bl (HT.lexLt ns ms), H, I, rfl, q⟩
/-- t + u, t not empty: u empty gives t itself -/
def rCatT (K : PySem.W.Frag) : R2 := fun x y H Q => ∃ a b xs ys, x = .ref a ∧ y = .ref b ∧ SqT K H a xs ∧ SqT K H b ys ∧ xs ≠ [] ∧ xs.length + ys.length ≤ sizeLine ∧
  (ys = [] → Q (.ref a) H) ∧ (ys ≠ [] → ∀ p, H p = none → Q (.ref p) (upd H p (.tup (xs ++ ys))))
theorem Vals.nil_iff {xs : List V} {us : List Value} (r : Vals xs us) : us = [] ↔ xs = [] := by
  cases r with
  | nil => simp
  | cons _ _ => simp
theorem op_catT : OpR X (binaryOp .Add) (rCatT X.K) := by
  intro pins s σ H x y v u Q I rx ry h
  obtain ⟨a, b, xs, ys, rfl, rfl, ha, hb, hx, hz, q1, q2⟩ := h
  cases rx
  cases ry
  obtain ⟨its, r1, p1, _⟩ := I.tuple ha
  obtain ⟨its2, r2, p2, _⟩ := I.tuple hb
  refine HT.cat_tup p1 p2 (fun z => hx (r1.nil_iff.mp z)) (fun z => ⟨.ref a, H, I, rfl, q1 (r2.nil_iff.mp z)⟩) (fun z => ?_) (by rw [← r1.length, ← r2.length]; exact hz)
  refine ⟨.ref s.heap.objs.size, _, I.laid (t' := s.toks) (o := .tup (xs ++ ys)) (fun b ob q => Heap.get?_push_of_some _ q) (Nat.le_refl _) ?_, rfl, q2 (fun w => z (r2.nil_iff.mpr w)) _ (I.hok.fresh (Nat.le_refl _))⟩
  exact ⟨by rw [List.length_append]; exact hz, _, r1.append r2, IsTup.new _ _⟩
/-- tuple(t) -/
theorem call_tupleT : CallR X (.type "tuple") (fun xs H Q => ∃ a ys, xs = [.ref a] ∧ SqT X.K H a ys ∧ Q (.ref a) H) := by
  intro pins s σ H xs us Q I r h
  obtain ⟨a, ys, rfl, ha, q⟩ := h
  obtain ⟨u, rfl, ru⟩ := vals1 r
  cases ru
  obtain ⟨its, _, p1, _⟩ := I.tuple ha
  exact call_tuple_same (items := its.toArray) p1 ⟨.ref a, H, I, rfl, q⟩
end
end L2

namespace L2
open PySem PySem.Spec PyProof.Rows

/-! ### places -/
/-- the place that an index of any sign means -/
def ixN (n : Nat) (i : Int) : Option Nat := if 0 ≤ i then (if i < n then some i.toNat else none) else if -(n : Int) ≤ i then some (i + n).toNat else none
def atI {α : Type} (xs : List α) (i : Int) : Option α := (ixN xs.length i).bind fun j => xs[j]?
theorem ixN_seq {n : Nat} {i : Int} {j : Nat} (h : ixN n i = some j) : seqIndex? i n = some j ∧ j < n ∧ -(n : Int) ≤ i ∧ i < n := by
  unfold ixN at h
  by_cases h0 : 0 ≤ i
  · rw [if_pos h0] at h
    by_cases h1 : i < n
    · rw [if_pos h1] at h
      have e : i.toNat = j := Option.some.inj h
      exact ⟨by rw [seqIndex_of h0 h1, e], by omega, by omega, h1⟩
    · rw [if_neg h1] at h; cases h
  · rw [if_neg h0] at h
    by_cases h1 : -(n : Int) ≤ i
    · rw [if_pos h1] at h
      have e : (i + n).toNat = j := Option.some.inj h
      exact ⟨by rw [seqIndex_neg (by omega) h1, e], by omega, h1, by omega⟩
    · rw [if_neg h1] at h; cases h
theorem atI_get {α : Type} {xs : List α} {i : Int} {v : α} (h : atI xs i = some v) : ∃ j, seqIndex? i xs.length = some j ∧ xs[j]? = some v ∧ j < xs.length ∧ -(xs.length : Int) ≤ i ∧ i < xs.length := by
  unfold atI at h
  cases e : ixN xs.length i with
  | none => rw [e] at h; cases h
  | some j =>
    rw [e] at h
    obtain ⟨h1, h2, h3, h4⟩ := ixN_seq e
    exact ⟨j, h1, h, h2, h3, h4⟩
theorem atI_nat {α : Type} {xs : List α} {j : Nat} {v : α} (h : xs[j]? = some v) : atI xs (j : Int) = some v := by
  have hj : j < xs.length := (List.getElem?_eq_some_iff.mp h).1
  have e : ixN xs.length (j : Int) = some j := by
    unfold ixN
    rw [if_pos (by omega), if_pos (by omega)]; simp
  unfold atI; rw [e]; exact h
theorem atI_last {α : Type} (xs : List α) (v : α) : atI (xs ++ [v]) (-1) = some v := by
  have hl : (xs ++ [v]).length = xs.length + 1 := by simp
  have e : ixN (xs ++ [v]).length (-1) = some xs.length := by
    unfold ixN
    rw [hl, if_neg (by decide), if_pos (by omega)]
    congr 1
    omega
  unfold atI
  rw [e]
  show (xs ++ [v])[xs.length]? = some v
  simp

/-! ### what may be subscripted -/
/-- what stands as an index of a plain subscript -/
def PlainIx (b : Expr) : Prop := ∀ o i, subscripted b false o i = operate [o, i] (getItem o i)
/-- a subscript by values -/
def IxR (X : Cx) (r : R2) : Prop :=
  ∀ (value slice : Expr) (pins : List (Addr × Obj)) (s : Shared) (σ : St) (H : Hp) (x y : V) (v u : Value) (Q : VK), Inv X pins σ H s → RelV x v → RelV y u → r x y H Q →
    subscripted slice false v u = operate [v, u] (getItem v u) → wpAny (model X.prog X.w) X.A (subscriptTail value slice v u) (EP X pins σ Q) X.xe s
/-- a call of a builtin's method by values: the receiver, the arguments -/
def MtR (X : Cx) (id : String) (r : V → List V → Hp → VK → Prop) : Prop :=
  ∀ (pins : List (Addr × Obj)) (s : Shared) (σ : St) (H : Hp) (x : V) (xs : List V) (v : Value) (us : List Value) (Q : VK), Inv X pins σ H s → RelV x v → Vals xs us → r x xs H Q →
    wpAny (model X.prog X.w) X.A (call (.builtin id) (v :: us)) (EP X pins σ Q) X.xe s
section
variable {X : Cx} {a b : Expr} {ta tb : TE} {pos : Pos}
theorem IxR.or {r r' : R2} (h : IxR X r) (h' : IxR X r') : IxR X (fun x y H Q => r x y H Q ∨ r' x y H Q) := by
  intro value slice pins s σ H x y v u Q I rx ry q hs
  rcases q with q | q
  · exact h value slice pins s σ H x y v u Q I rx ry q hs
  · exact h' value slice pins s σ H x y v u Q I rx ry q hs
theorem MtR.or {id : String} {r r' : V → List V → Hp → VK → Prop} (h : MtR X id r) (h' : MtR X id r') : MtR X id (fun x xs H Q => r x xs H Q ∨ r' x xs H Q) := by
  intro pins s σ H x xs v us Q I rx rs q
  rcases q with q | q
  · exact h pins s σ H x xs v us Q I rx rs q
  · exact h' pins s σ H x xs v us Q I rx rs q
/-- a[b] -/
theorem pe_ix {r : R2} (hr : IxR X r) (ha : PE X a ta) (hb : PE X b tb) (hs : PlainIx b) : PE X (.Subscript a b pos) (tOp r ta tb) := by
  intro pins s σ H Q I h
  exact Subscript_ (binT ha hb I h fun v u s2 x y H2 I2 rx ry q => hr a b pins s2 σ H2 x y v u Q I2 rx ry q (hs _ _))

def rIxL (K : PySem.W.Frag) : R2 := fun x y H Q => ∃ p xs i v, x = .ref p ∧ y = .int i ∧ SqL K H p xs ∧ atI xs i = some v ∧ Q v H
def rIxT (K : PySem.W.Frag) : R2 := fun x y H Q => ∃ p xs i v, x = .ref p ∧ y = .int i ∧ SqT K H p xs ∧ atI xs i = some v ∧ Q v H
def rIxS : R2 := fun x y H Q => ∃ z i c, x = .str z ∧ y = .int i ∧ z.length ≤ sizeLine ∧ atI z.cps.toList i = some c ∧ Q (.str ⟨#[c]⟩) H
theorem ix_list : IxR X (rIxL X.K) := by
  intro value slice pins s σ H x y v u Q I rx ry h hs
  obtain ⟨p, xs, i, z, rfl, rfl, hq, he, q⟩ := h
  cases rx
  obtain ⟨t, rfl⟩ := ry
  obtain ⟨its, r, pl, hz⟩ := I.list hq
  obtain ⟨j, h1, h2, h3, h4, h5⟩ := atI_get he
  obtain ⟨w, ew, rw'⟩ := r.get h2
  have hl := r.length
  have hn := line63
  have fin : EP X pins σ Q w s := ⟨z, H, I, rw', q⟩
  by_cases h0 : 0 ≤ i
  · have hj : i.toNat = j := by
      rw [seqIndex_of h0 h5] at h1
      exact Option.some.inj h1
    exact item_listR pl.isList h0 (by omega) (by rw [hj]; simpa using ew) fin hs
  · have hj : (i + (its.toArray.size : Int)).toNat = j := by
      rw [seqIndex_neg (by omega) h4] at h1
      rw [List.size_toArray, ← hl]
      exact Option.some.inj h1
    exact subscriptTail_builtinR (x := w) pl.isList.typeIs slot_list_getitem.lookup
      (wpAny_getItem_list_neg (Q := fun r s' => r = w ∧ EP X pins σ Q r s') pl.isList (by omega) (by rw [List.size_toArray] <;> omega) (by omega) (by rw [hj]; simpa using ew) ⟨rfl, fin⟩) hs
theorem ix_tup : IxR X (rIxT X.K) := by
  intro value slice pins s σ H x y v u Q I rx ry h hs
  obtain ⟨p, xs, i, z, rfl, rfl, hq, he, q⟩ := h
  cases rx
  obtain ⟨t, rfl⟩ := ry
  obtain ⟨its, r, pl, hz⟩ := I.tuple hq
  obtain ⟨j, h1, h2, h3, h4, h5⟩ := atI_get he
  obtain ⟨w, ew, rw'⟩ := r.get h2
  have hl := r.length
  have hn := line63
  have fin : EP X pins σ Q w s := ⟨z, H, I, rw', q⟩
  exact subscriptTail_builtinR (x := w) pl.typeIs slot_tuple_getitem.lookup
    (getItem_tuple (j := j) (Q := fun r s' => r = w ∧ EP X pins σ Q r s') pl (by omega) (by omega) (by rw [List.size_toArray, ← hl]; exact h1) (by simpa using ew) ⟨rfl, fin⟩) hs
theorem ix_str : IxR X rIxS := by
  intro value slice pins s σ H x y v u Q I rx ry h hs
  obtain ⟨z, i, c, rfl, rfl, hz, he, q⟩ := h
  obtain ⟨t, rfl⟩ := rx
  obtain ⟨t', rfl⟩ := ry
  obtain ⟨j, h1, h2, h3, h4, h5⟩ := atI_get he
  have hl : z.cps.toList.length = z.length := by simp [Str.length]
  rw [hl] at h1 h4 h5
  have hn := line63
  exact tail_any (typeIs_str s z t) slot_str_getitem.lookup (getItem_str (c := c) (by
    have e1 : decide (i < -(2 ^ 63 : Int)) = false := decide_eq_false (by omega)
    have e2 : decide (i ≥ 2 ^ 63) = false := decide_eq_false (by omega)
    rw [e1, e2, Bool.or_false]) (by rw [h1]; simpa using h2) ⟨.str ⟨#[c]⟩, H, I.tok _, ⟨_, rfl⟩, q⟩) hs
/-- list, tuple or str -/
def rIx (K : PySem.W.Frag) : R2 := fun x y H Q => rIxL K x y H Q ∨ rIxT K x y H Q ∨ rIxS x y H Q
theorem ix_seq : IxR X (rIx X.K) := ix_list.or (ix_tup.or ix_str)

/-! ### xs[i] = v, any sign -/
/-- the list's object behind a store -/
theorem mapSeq_set (its : List Value) (n j : Nat) (u : Value) : Obj.mapSeq (·.setIfInBounds j u) { cls := .type "list", data := .seq its.toArray n } = { cls := .type "list", data := .seq (its.set j u).toArray n } := by
  simp [Obj.mapSeq]
theorem Inv.lst {pins : List (Addr × Obj)} {σ : St} {H : Hp} {s : Shared} {p : Addr} {xs : List V} (I : Inv X pins σ H s) (h : H p = some (.lst xs)) :
    ∃ (its : List Value) (n : Nat), Vals xs its ∧ s.heap.get? p = some { cls := .type "list", data := .seq its.toArray n } ∧ xs.length ≤ sizeLine := by
  obtain ⟨z, its, n, r, e⟩ := I.hok p _ h
  exact ⟨its, n, r, e, z⟩
/-- the list at p is written by an update of its object -/
theorem Inv.lstUpd {pins : List (Addr × Obj)} {σ : St} {H : Hp} {s : Shared} {p : Addr} {xs ys : List V} {its its' : List Value} {n n' : Nat} {f : Obj → Obj} (I : Inv X pins σ H s) (h : H p = some (.lst xs))
    (ho : s.heap.get? p = some { cls := .type "list", data := .seq its.toArray n }) (hf : f { cls := .type "list", data := .seq its.toArray n } = { cls := .type "list", data := .seq its'.toArray n' }) (r : Vals ys its') (hz : ys.length ≤ sizeLine) (t : Nat) :
    Inv X pins σ (upd H p (.lst ys)) { s with heap := s.heap.update p f, toks := t } := by
  have e : (s.heap.update p f).get? p = some { cls := .type "list", data := .seq its'.toArray n' } := by
    rw [Heap.get?_update_self f ho (by rw [hf] <;> rfl), hf]
  refine I.write (x := p) (e := p) (by rw [h]; trivial) (.inl rfl) (fun b u hb q => (Heap.get?_update_other _ _ (Ne.symm hb)).trans q) ⟨_, e⟩ ?_
  exact ⟨hz, its', n', r, e⟩
def rSetL : V → V → V → Hp → (Hp → Prop) → Prop := fun o i v H Q => ∃ p xs k j, o = .ref p ∧ i = .int k ∧ H p = some (.lst xs) ∧ ixN xs.length k = some j ∧ Q (upd H p (.lst (xs.set j v)))
theorem set_list : PSet X rSetL := by
  intro pins s σ H o i v ov iv u Q I ro ri rv h
  obtain ⟨p, xs, k, j, rfl, rfl, hp, hj, q⟩ := h
  cases ro
  obtain ⟨t, rfl⟩ := ri
  obtain ⟨its, n, r, ho, hz⟩ := I.lst hp
  obtain ⟨h1, h2, h3, h4⟩ := ixN_seq hj
  have hl := r.length
  have hn := line63
  have I' : Inv X pins σ (upd H p (.lst (xs.set j v))) { s with heap := s.heap.update p (Obj.mapSeq (·.setIfInBounds j u)) } :=
    I.lstUpd hp ho (mapSeq_set its n j u) (r.set rv j) (by rw [List.length_set]; exact hz) s.toks
  by_cases h0 : 0 ≤ k
  · have hk : k.toNat = j := by
      rw [seqIndex_of h0 h4] at h1
      exact Option.some.inj h1
    exact PySem.W.ki_setAt ho h0 (by omega) (by rw [List.size_toArray, ← hl]; exact h4) (by rw [hk]; exact ⟨_, I', q⟩)
  · have hk : (k + (its.toArray.size : Int)).toNat = j := by
      rw [seqIndex_neg (by omega) h3] at h1
      rw [List.size_toArray, ← hl]
      exact Option.some.inj h1
    exact PySem.W.ki_setBack ho (by omega) (by rw [List.size_toArray, ← hl]; exact h3) (by omega) (by rw [hk]; exact ⟨_, I', q⟩)

/-! ### slices -/
theorem slice_bounds (lo hi : Option Int) (n : Nat) : (sliceBounds lo hi none n).1 = ((HT.sIx n 0 lo : Nat) : Int) ∧ (sliceBounds lo hi none n).2.1 = ((HT.sIx n n hi : Nat) : Int) ∧ (sliceBounds lo hi none n).2.2 = 1 := by
  refine ⟨?_, ?_, rfl⟩
  · cases lo with
    | none => simp [sliceBounds, HT.sIx]
    | some i =>
      simp only [sliceBounds, HT.sIx, Option.getD_none, show (1 : Int) > 0 by decide, if_true]
      by_cases h : i < 0
      · simp only [h, if_true] <;> omega
      · simp only [h, if_false] <;> omega
  · cases hi with
    | none => simp [sliceBounds, HT.sIx]
    | some i =>
      simp only [sliceBounds, HT.sIx, Option.getD_none, show (1 : Int) > 0 by decide, if_true]
      by_cases h : i < 0
      · simp only [h, if_true] <;> omega
      · simp only [h, if_false] <;> omega
theorem slicePick_cut (its : List Value) (lo hi : Option Int) : slicePick its.toArray lo hi none = ((its.drop (HT.sIx its.length 0 lo)).take (HT.sIx its.length its.length hi - HT.sIx its.length 0 lo)).toArray := by
  obtain ⟨h1, h2, h3⟩ := slice_bounds lo hi its.toArray.size
  unfold slicePick
  rw [h1, h2, h3]
  simp only [sliceRange_one, pick_run, List.size_toArray] <;> rfl
/-- xs[lo:hi] of a list: a new list -/
def rSlL (K : PySem.W.Frag) : V → Option Int → Option Int → Hp → VK → Prop := fun x lo hi H Q => ∃ a xs, x = .ref a ∧ SqL K H a xs ∧ ∀ p, H p = none → Q (.ref p) (upd H p (.lst (cutV xs lo hi)))
theorem sl_list : SlR X (rSlL X.K) := by
  intro pins s σ H x v vl vu lo hi sl Q I rx hs pl pu h
  obtain ⟨a, xs, rfl, hx, q⟩ := h
  cases rx
  obtain ⟨its, r, ht, hz⟩ := I.list hx
  have hlen := r.length
  refine ⟨"list", _, slot_list_getitem.lookup, ht.isList.typeIs, ?_⟩
  refine wpAny_getItem_list_slice ht.isList hs pl pu .none (by simp) ?_ (by rw [List.size_toArray] <;> omega)
  rw [slicePick_cut, ← hlen]
  refine ⟨.ref s.heap.objs.size, _, I.laid (t' := s.toks) (o := .lst (cutV xs lo hi)) (fun b ob q => Heap.get?_push_of_some _ q) (Nat.le_refl _) ?_, rfl, q _ (I.hok.fresh (Nat.le_refl _))⟩
  exact ⟨Nat.le_trans (cutV_length xs lo hi) hz, _, 0, (r.drop (HT.sIx xs.length 0 lo)).take (HT.sIx xs.length xs.length hi - HT.sIx xs.length 0 lo), Heap.get?_push_size _ rfl⟩

/-! ### in, not in: flat items -/
def flatV : V → Bool
  | .non => true
  | .bl _ => true
  | .int _ => true
  | .str _ => true
  | _ => false
/-- == of flat values -/
def eqV : V → V → Bool
  | .non, .non => true
  | .bl a, .bl b => a == b
  | .bl a, .int b => (if a then 1 else 0) == b
  | .int a, .bl b => a == (if b then 1 else 0)
  | .int a, .int b => a == b
  | .str a, .str b => a == b
  | _, _ => false
theorem eqAt_V {A : Around} {s : Shared} {y x : V} {u v : Value} (ry : RelV y u) (rx : RelV x v) (fy : flatV y = true) (fx : flatV x = true) : SeqAt.EqAt A s u v (eqV y x) := by
  cases y with
  | non =>
    cases ry
    cases x with
    | non => cases rx; exact SeqAt.EqAt.same _
    | bl b => cases rx; exact SeqAt.EqAt.none_bool b
    | int b => obtain ⟨t, rfl⟩ := rx; exact SeqAt.EqAt.none_int b t
    | str b => obtain ⟨t, rfl⟩ := rx; exact SeqAt.EqAt.none_str b t
    | _ => exact absurd (show false = true from fx) Bool.false_ne_true
  | bl a =>
    cases ry
    cases x with
    | non => cases rx; exact SeqAt.EqAt.bool_none a
    | bl b => cases rx; exact SeqAt.EqAt.bool_bool a b
    | int b => obtain ⟨t, rfl⟩ := rx; exact SeqAt.EqAt.bool_int a b t
    | str b => obtain ⟨t, rfl⟩ := rx; exact SeqAt.EqAt.bool_str a b t
    | _ => exact absurd (show false = true from fx) Bool.false_ne_true
  | int a =>
    obtain ⟨t', rfl⟩ := ry
    cases x with
    | non => cases rx; exact SeqAt.EqAt.int_none a t'
    | bl b => cases rx; exact SeqAt.EqAt.int_bool a t' b
    | int b => obtain ⟨t, rfl⟩ := rx; exact SeqAt.EqAt.int_int a t' b t
    | str b => obtain ⟨t, rfl⟩ := rx; exact SeqAt.EqAt.int_str a t' b t
    | _ => exact absurd (show false = true from fx) Bool.false_ne_true
  | str a =>
    obtain ⟨t', rfl⟩ := ry
    cases x with
    | non => cases rx; exact SeqAt.EqAt.str_none a t'
    | bl b => cases rx; exact SeqAt.EqAt.str_bool a t' b
    | int b => obtain ⟨t, rfl⟩ := rx; exact SeqAt.EqAt.str_int a t' b t
    | str b => obtain ⟨t, rfl⟩ := rx; exact SeqAt.EqAt.str_str a t' b t
    | _ => exact absurd (show false = true from fx) Bool.false_ne_true
  | _ => exact absurd (show false = true from fy) Bool.false_ne_true
/-- the items' answers, read off the values (a value's own answer does not lean on its token) -/
def eqU (x : V) (u : Value) : Bool := match u with
  | .none => eqV .non x
  | .bool b => eqV (.bl b) x
  | .int i _ => eqV (.int i) x
  | .str z _ => eqV (.str z) x
  | _ => false
theorem eqU_of {x y : V} {u : Value} (r : RelV y u) (f : flatV y = true) : eqU x u = eqV y x := by
  cases y with
  | non => cases r; rfl
  | bl b => cases r; rfl
  | int i => obtain ⟨t, rfl⟩ := r; rfl
  | str z => obtain ⟨t, rfl⟩ := r; rfl
  | _ => exact absurd (show false = true from f) Bool.false_ne_true
theorem any_eqU {x : V} : ∀ {xs : List V} {us : List Value}, Vals xs us → xs.all flatV = true → us.any (eqU x) = xs.any fun y => eqV y x
  | _, _, .nil, _ => rfl
  | y :: xs, u :: us, .cons r t, f => by
    rw [List.all_cons, Bool.and_eq_true] at f
    rw [List.any_cons, List.any_cons, eqU_of r f.1, any_eqU t f.2]
theorem mem_eqAt {A : Around} {s : Shared} {x : V} {v : Value} (rx : RelV x v) (fx : flatV x = true) : ∀ {xs : List V} {us : List Value}, Vals xs us → xs.all flatV = true → ∀ u ∈ us, SeqAt.EqAt A s u v (eqU x u)
  | _, _, .nil, _ => fun u hu => by cases hu
  | y :: xs, u :: us, .cons r t, f => fun u' hu => by
    rw [List.all_cons, Bool.and_eq_true] at f
    rcases List.mem_cons.mp hu with rfl | hu
    · rw [eqU_of r f.1]; exact eqAt_V r rx f.1 fx
    · exact mem_eqAt rx fx t f.2 u' hu
def inV (x : V) (xs : List V) : Bool := xs.any fun y => eqV y x
/-- x in a list or tuple of flat items -/
def rIn (K : PySem.W.Frag) (neg : Bool) : R2 := fun x y H Q => ∃ p xs, y = .ref p ∧ (SqL K H p xs ∨ SqT K H p xs) ∧ flatV x = true ∧ xs.all flatV = true ∧ Q (.bl (if neg then !inV x xs else inV x xs)) H
theorem op_in_seq : OpR X (compareOp .In) (rIn X.K false) := by
  intro pins s σ H x y v u Q I rx ry h
  obtain ⟨p, xs, rfl, hq, fx, fs, q⟩ := h
  cases ry
  rcases hq with hq | hq
  · obtain ⟨its, r, pl, hz⟩ := I.list hq
    refine SeqAt.in_listAt (eqU x) pl.isList (fun w hw => mem_eqAt rx fx r fs w (by simpa using hw)) ⟨.bl _, H, I, rfl, ?_⟩
    rw [show its.toArray.any (eqU x) = its.any (eqU x) by simp, any_eqU r fs]
    exact q
  · obtain ⟨its, r, pl, hz⟩ := I.tuple hq
    refine SeqAt.in_tupleAt (eqU x) pl (fun w hw => mem_eqAt rx fx r fs w (by simpa using hw)) ⟨.bl _, H, I, rfl, ?_⟩
    rw [show its.toArray.any (eqU x) = its.any (eqU x) by simp, any_eqU r fs]
    exact q
theorem op_notIn_seq : OpR X (compareOp .NotIn) (rIn X.K true) := by
  intro pins s σ H x y v u Q I rx ry h
  obtain ⟨p, xs, rfl, hq, fx, fs, q⟩ := h
  cases ry
  rcases hq with hq | hq
  · obtain ⟨its, r, pl, hz⟩ := I.list hq
    refine SeqAt.notIn_listAt (eqU x) pl.isList (fun w hw => mem_eqAt rx fx r fs w (by simpa using hw)) ⟨.bl _, H, I, rfl, ?_⟩
    rw [show its.toArray.any (eqU x) = its.any (eqU x) by simp, any_eqU r fs]
    exact q
  · obtain ⟨its, r, pl, hz⟩ := I.tuple hq
    refine SeqAt.notIn_tupleAt (eqU x) pl (fun w hw => mem_eqAt rx fx r fs w (by simpa using hw)) ⟨.bl _, H, I, rfl, ?_⟩
    rw [show its.toArray.any (eqU x) = its.any (eqU x) by simp, any_eqU r fs]
    exact q
theorem op_notIn_str : OpR X (compareOp .NotIn) (fun x y H Q => ∃ i j, x = .str i ∧ y = .str j ∧ Q (.bl (!(!(Builtin.Str.occurrences j i 0 j.length 1).isEmpty))) H) := by
  intro pins s σ H x y v u Q I rx ry h
  obtain ⟨i, j, rfl, rfl, q⟩ := h
  obtain ⟨t, rfl⟩ := rx
  obtain ⟨t', rfl⟩ := ry
  exact notIn_str ⟨.bl _, H, I, rfl, q⟩

/-! ### len, list(x), tuple(x) of any list or tuple that is read -/
theorem call_len_seq : CallR X (.builtin "len") (fun xs H Q => ∃ p ys, xs = [.ref p] ∧ (SqL X.K H p ys ∨ SqT X.K H p ys) ∧ Q (.int ys.length) H) := by
  intro pins s σ H xs us Q I r h
  obtain ⟨p, ys, rfl, hq, q⟩ := h
  obtain ⟨u, rfl, rx⟩ := vals1 r
  cases rx
  have hn := line63
  rcases hq with hq | hq
  · obtain ⟨its, r', pl, hz⟩ := I.list hq
    have hlen := r'.length
    exact Calls.call_len_list pl.isList (by simp only [List.size_toArray] <;> omega) ⟨.int ys.length, H, I.tok _, ⟨s.toks + 1, by rw [List.size_toArray, hlen]⟩, q⟩
  · obtain ⟨its, r', pl, hz⟩ := I.tuple hq
    have hlen := r'.length
    exact len_tuple pl (by simp only [List.size_toArray] <;> omega) ⟨.int ys.length, H, I.tok _, ⟨s.toks + 1, by rw [List.size_toArray, hlen]⟩, q⟩
theorem call_len_str : CallR X (.builtin "len") (fun xs H Q => ∃ z, xs = [.str z] ∧ z.length ≤ sizeLine ∧ Q (.int z.length) H) := by
  intro pins s σ H xs us Q I r h
  obtain ⟨z, rfl, hz, q⟩ := h
  obtain ⟨u, rfl, t, rfl⟩ := vals1 r
  have hn := line63
  exact len_str (by omega) ⟨.int z.length, H, I.tok _, ⟨_, rfl⟩, q⟩
theorem CallR.or {f : Value} {r r' : List V → Hp → VK → Prop} (h : CallR X f r) (h' : CallR X f r') : CallR X f (fun xs H Q => r xs H Q ∨ r' xs H Q) := by
  intro pins s σ H xs us Q I rs q
  rcases q with q | q
  · exact h pins s σ H xs us Q I rs q
  · exact h' pins s σ H xs us Q I rs q
theorem call_list_of : CallR X (.type "list") (fun xs H Q => ∃ p ys, xs = [.ref p] ∧ (SqL X.K H p ys ∨ SqT X.K H p ys) ∧ ∀ l, H l = none → Q (.ref l) (upd H l (.lst ys))) := by
  intro pins s σ H xs us Q I r h
  obtain ⟨p, ys, rfl, hq, q⟩ := h
  obtain ⟨u, rfl, rx⟩ := vals1 r
  cases rx
  have fin : ∀ (its : List Value), Vals ys its → ys.length ≤ sizeLine → ∀ (h' : Heap) (c' : Nat), (∀ b o', s.heap.get? b = some o' → h'.get? b = some o') →
      h'.get? s.heap.objs.size = some { cls := .type "list", dict := none, data := .seq its.toArray c', slots := #[] } → EP X pins σ Q (.ref s.heap.objs.size) { s with heap := h' } := fun its r' hz h' c' kp e =>
    ⟨.ref s.heap.objs.size, _, I.laid (t' := s.toks) kp (Nat.le_refl _) (show ObjOk X.prog X.w _ h' _ (.lst ys) from ⟨hz, its, c', r', e⟩), rfl, q _ (I.hok.fresh (Nat.le_refl _))⟩
  rcases hq with hq | hq
  · obtain ⟨its, r', pl, hz⟩ := I.list hq
    have hlen := r'.length
    obtain ⟨o, ho, hc, n, hd⟩ := pl.isList
    exact call_list_seq p (.inl rfl) ho hc hd (fun h' c' kp e => fin its r' hz h' c' kp e) (by simp only [List.size_toArray] <;> omega)
  · obtain ⟨its, r', pl, hz⟩ := I.tuple hq
    have hlen := r'.length
    obtain ⟨o, ho, hc, n, hd⟩ := pl
    exact call_list_seq p (.inr rfl) ho hc hd (fun h' c' kp e => fin its r' hz h' c' kp e) (by simp only [List.size_toArray] <;> omega)
theorem call_tuple_of : CallR X (.type "tuple") (fun xs H Q => ∃ p ys, xs = [.ref p] ∧ ((SqL X.K H p ys ∧ ∀ l, H l = none → Q (.ref l) (upd H l (.tup ys))) ∨ (SqT X.K H p ys ∧ Q (.ref p) H))) := by
  intro pins s σ H xs us Q I r h
  obtain ⟨p, ys, rfl, h⟩ := h
  obtain ⟨u, rfl, rx⟩ := vals1 r
  cases rx
  rcases h with ⟨hq, q⟩ | ⟨hq, q⟩
  · obtain ⟨its, r', pl, hz⟩ := I.list hq
    have hlen := r'.length
    refine call_tuple_list pl.isList (fun h' kp => ?_) (by simp only [List.size_toArray] <;> omega)
    have I1 : Inv X pins σ H { s with heap := h' } := I.kept (t' := s.toks) kp
    have I2 : Inv X pins σ (upd H h'.objs.size (.tup ys)) { s with heap := h'.push { cls := .type "tuple", data := .seq its.toArray } } :=
      I1.laid (t' := s.toks) (fun b o e => Heap.get?_push_of_some _ e) (Nat.le_refl _) (show ObjOk X.prog X.w _ _ _ (.tup ys) from ⟨hz, its, r', IsTup.new _ _⟩)
    exact ⟨.ref h'.objs.size, _, I2, rfl, q _ (I1.hok.fresh (Nat.le_refl _))⟩
  · obtain ⟨its, r', pl, hz⟩ := I.tuple hq
    exact call_tuple_same pl ⟨.ref p, H, I, rfl, q⟩

/-! ### the call of a builtin's method: o.m(..) -/
/-- the value is of that builtin type -/
def tyV (K : PySem.W.Frag) (T : String) (x : V) (H : Hp) : Prop := match x with
  | .str _ => T = "str"
  | .int _ => T = "int"
  | .ref p => (T = "list" ∧ ∃ xs, SqL K H p xs) ∨ (T = "tuple" ∧ ∃ o, K.lookup p = some o ∧ o.cls = .type "tuple" ∧ o.dict = none) ∨
      (T = "dict" ∧ ((∃ kvs, H p = some (.dK kvs)) ∨ ∃ kvs, H p = some (.dT kvs))) ∨ (T = "set" ∧ ∃ S n, H p = some (.set S n))
  | _ => False
theorem tyV_is {pins : List (Addr × Obj)} {σ : St} {H : Hp} {s : Shared} {T : String} {x : V} {v : Value} (I : Inv X pins σ H s) (r : RelV x v) (ty : tyV X.K T x H) :
    s.TypeIs v T ∧ ∀ a, v = .ref a → ∃ ob, s.heap.get? a = some ob ∧ ob.dict = none := by
  cases x with
  | str z =>
    obtain ⟨t, rfl⟩ := r
    cases (show T = "str" from ty)
    exact ⟨typeIs_str s z t, fun _ e => nomatch e⟩
  | int i =>
    obtain ⟨t, rfl⟩ := r
    cases (show T = "int" from ty)
    exact ⟨typeIs_int s i t, fun _ e => nomatch e⟩
  | ref p =>
    cases r
    rcases ty with ⟨rfl, xs, hq⟩ | ⟨rfl, o, hk, hc, hd⟩ | ⟨rfl, hk⟩ | ⟨rfl, S, n, hk⟩
    · obtain ⟨its, _, pl, _⟩ := I.list hq
      refine ⟨pl.isList.typeIs, fun a e => ?_⟩
      cases e
      obtain ⟨o, n, e, c, hd, _⟩ := pl
      exact ⟨o, e, hd⟩
    · refine ⟨⟨o, I.kIn p o hk, hc⟩, fun a e => ?_⟩
      cases e
      exact ⟨o, I.kIn _ o hk, hd⟩
    · have z : ∃ o, s.heap.get? p = some o ∧ o.ExactDict := by
        rcases hk with ⟨kvs, hk⟩ | ⟨kvs, hk⟩
        · obtain ⟨_, _, _, _, o, _, _, e, ex, _⟩ := I.hok p _ hk
          exact ⟨o, e, ex⟩
        · obtain ⟨_, _, _, _, o, _, _, e, ex, _⟩ := I.hok p _ hk
          exact ⟨o, e, ex⟩
      obtain ⟨o, e, ex⟩ := z
      refine ⟨⟨o, e, ex.1⟩, fun a e2 => ?_⟩
      cases e2
      exact ⟨o, e, ex.2.1⟩
    · obtain ⟨o, _, _, _, e, ex, _⟩ := I.hok p _ hk
      refine ⟨⟨o, e, ex.1⟩, fun a e2 => ?_⟩
      cases e2
      exact ⟨o, e, ex.2.1⟩
  | _ => exact False.elim ty
def tBM0 (K : PySem.W.Frag) (T : String) (r : V → List V → Hp → VK → Prop) (to : TE) : TE := fun σ H Q => to σ H fun x H1 => tyV K T x H1 ∧ r x [] H1 Q
def tBM (K : PySem.W.Frag) (T : String) (r : V → List V → Hp → VK → Prop) (to : TE) (t : TA) : TE := fun σ H Q => to σ H fun x H1 => tyV K T x H1 ∧ t σ H1 fun xs H2 => r x xs H2 Q
variable {o e : Expr} {es : List Expr} {to : TE} {t : TA} {name : Str} {apos cpos : Pos} {T id : String} {r : V → List V → Hp → VK → Prop}
theorem pe_bm0 (pa : PlainAttrs T) (slot : Slot T name id) (hty : typeOf (.builtin id) = pure (.type "method_descriptor")) (hm : MtR X id r) (ho : PE X o to)
    (hbase : attributeBase o name X.env (eval o X.env) = eval o X.env := by rfl) (hline : (apos.endLine == cpos.line) = true := by rfl) : PE X (.Call (.Attribute o name apos) [] [] cpos) (tBM0 X.K T r to) := by
  intro pins s σ H Q I h
  refine wpAny_Call_method0_late hbase hline (thn (ho pins s σ H _ I h) fun v s1 ⟨x, H1, I1, r1, ty, q1⟩ => ?_)
  obtain ⟨h1, h2⟩ := tyV_is I1 r1 ty
  exact ⟨T, id, pa, slot, hty, h1, h2, Calls.callWith_builtin rfl (PySem.evalArgs_none (hm pins s1 σ H1 x [] v [] Q I1 r1 .nil q1))⟩
theorem pe_bm (pa : PlainAttrs T) (slot : Slot T name id) (hty : typeOf (.builtin id) = pure (.type "method_descriptor")) (hm : MtR X id r) (ho : PE X o to) (ha : PA X (e :: es) t)
    (hbase : attributeBase o name X.env (eval o X.env) = eval o X.env := by rfl)
    (hfew : ((backTo cpos (starEach (e :: es) X.env)).all (fun x => !x.1) && (backToKw cpos (keywordEach [] X.env)).all (fun x => x.1.isSome)
      && decide ((e :: es).length + ([] : List Keyword).length + (if ([] : List Keyword).isEmpty then 0 else 1) < 30)) = true := by rfl)
    (hline : (apos.endLine == cpos.line) = true := by rfl) (hs : starEach (e :: es) X.env = (false, eval e X.env) :: starEach es X.env := by rfl) (hplain : (backTo cpos (starEach es X.env)).any (·.1) = false := by rfl) :
    PE X (.Call (.Attribute o name apos) (e :: es) [] cpos) (tBM X.K T r to t) := by
  intro pins s σ H Q I h
  refine wpAny_Call_method_late hbase hfew hline rfl (thn (ho pins s σ H _ I h) fun v s1 ⟨x, H1, I1, r1, ty, q1⟩ => ?_)
  obtain ⟨h1, h2⟩ := tyV_is I1 r1 ty
  refine ⟨T, id, pa, slot, hty, h1, h2, ?_⟩
  have hA := ha cpos pins s1 σ H1 _ I1 q1
  rw [hs] at hA ⊢
  refine Calls.callWith_builtin (by show (false || (backTo cpos (starEach es X.env)).any (·.1)) = false; rw [hplain] <;> rfl) (Calls.evalArgs_plain ?_)
  exact thn hA fun us s2 ⟨vs, H2, I2, r2, q2⟩ => hm pins s2 σ H2 x vs v us Q I2 r1 r2 q2
/- xs.append(e), list.index on a module's tuple .. are MtR facts of 06m -/
end
end L2

namespace L2
open PySem PySem.Spec PyProof.Rows

def MtM (X : Cx) (id : String) (r : V → List V → Hp → VK → Prop) : Prop :=
  ∀ (pins : List (Addr × Obj)) (s : Shared) (σ : St) (H : Hp) (x : V) (xs : List V) (v : Value) (us : List Value) (Q : VK), Inv X pins σ H s → RelV x v → Vals xs us → r x xs H Q →
    wpAny (model X.prog X.w) X.A (call (.builtin id) (v :: us)) (EP X pins σ Q) X.xe s

/-! ### lists of values -/
theorem Vals.one : ∀ {x : V} {us : List Value}, Vals [x] us → ∃ u, us = [u] ∧ RelV x u
  | _, _, .cons r .nil => ⟨_, rfl, r⟩
theorem Vals.two : ∀ {x y : V} {us : List Value}, Vals [x, y] us → ∃ u v, us = [u, v] ∧ RelV x u ∧ RelV y v
  | _, _, _, .cons r (.cons q .nil) => ⟨_, _, rfl, r, q⟩
theorem Vals.zero : ∀ {us : List Value}, Vals [] us → us = []
  | _, .nil => rfl
theorem Vals.dropLast {xs : List V} {us : List Value} (h : Vals xs us) : Vals xs.dropLast us.dropLast := by
  induction h with
  | nil => exact .nil
  | cons r t ih =>
    cases t with
    | nil => exact .nil
    | cons q t' => exact .cons r ih
theorem Vals.eraseIdx : ∀ {xs : List V} {us : List Value} (i : Nat), Vals xs us → Vals (xs.eraseIdx i) (us.eraseIdx i)
  | _, _, _, .nil => .nil
  | _, _, 0, .cons _ t => t
  | _, _, i + 1, .cons r t => .cons r (Vals.eraseIdx i t)
theorem Vals.reverse {xs : List V} {us : List Value} (h : Vals xs us) : Vals xs.reverse us.reverse := by
  induction h with
  | nil => exact .nil
  | cons r t ih => rw [List.reverse_cons, List.reverse_cons]; exact Vals.append ih (.cons r .nil)
theorem Vals.rep {xs : List V} {us : List Value} (h : Vals xs us) : ∀ k : Nat, Vals (List.replicate k xs).flatten (List.replicate k us).flatten
  | 0 => .nil
  | k + 1 => by
    rw [List.replicate_succ, List.replicate_succ, List.flatten_cons, List.flatten_cons]
    exact Vals.append h (Vals.rep h k)
theorem erase_last {α : Type} (l : List α) : l.eraseIdx (l.length - 1) = l.dropLast := by
  induction l with
  | nil => rfl
  | cons a r ih =>
    cases r with
    | nil => rfl
    | cons b r =>
      have e : (a :: b :: r).length - 1 = ((b :: r).length - 1) + 1 := by
        have h1 : (a :: b :: r).length = r.length + 2 := rfl
        have h2 : (b :: r).length = r.length + 1 := rfl
        omega
      rw [e, List.eraseIdx_cons_succ, ih]
      all_goals rfl
theorem len_erase {α : Type} : ∀ (l : List α) (i : Nat), (l.eraseIdx i).length ≤ l.length
  | [], _ => Nat.le_refl _
  | _ :: _, 0 => Nat.le_succ _
  | _ :: r, i + 1 => Nat.succ_le_succ (len_erase r i)
theorem foldl_rep (its : List Value) : ∀ (k : Nat) (acc : List Value),
    List.foldl (fun x1 x2 => x1 ++ x2) acc.toArray (List.replicate k its.toArray) = (acc ++ (List.replicate k its).flatten).toArray
  | 0, acc => by simp
  | k + 1, acc => by
    have e : acc.toArray ++ its.toArray = (acc ++ its).toArray := by simp
    have e2 : (acc ++ its) ++ (List.replicate k its).flatten = acc ++ (List.replicate (k + 1) its).flatten := by
      rw [List.replicate_succ, List.flatten_cons, List.append_assoc]
    rw [← e2, ← foldl_rep its k (acc ++ its), ← e, List.replicate_succ, List.foldl_cons]

section
variable {X : Cx} {pins : List (Addr × Obj)} {σ : St} {H : Hp} {s : Shared} {l b : Addr} {xs ys zs : List V}

/-! ### the two steps: a tracked list is rewritten, a new list is laid -/
theorem Inv.lset {its its' : List Value} {n : Nat} {f : Array Value → Array Value} {t' : Nat} (I : Inv X pins σ H s) (hH : H l = some (.lst xs))
    (e : s.heap.get? l = some { cls := .type "list", data := .seq its.toArray n }) (hf : f its.toArray = its'.toArray) (hv : Vals ys its') (hz : ys.length ≤ sizeLine) :
    Inv X pins σ (upd H l (.lst ys)) { s with heap := s.heap.update l (Obj.mapSeq f), toks := t' } := by
  have q := PySem.IsL.update e f
  rw [hf] at q
  refine I.write (x := l) (e := l) (by rw [hH]; exact trivial) (.inl rfl) (fun b' u hb hu => (Heap.get?_update_other s.heap (Obj.mapSeq f) (Ne.symm hb)).trans hu) ⟨_, q⟩ ?_
  exact ⟨hz, its', _, hv, q⟩
theorem Inv.lnew {its : List Value} {t' : Nat} (I : Inv X pins σ H s) (hv : Vals ys its) (hz : ys.length ≤ sizeLine) :
    Inv X pins σ (upd H s.heap.objs.size (.lst ys)) { s with heap := s.heap.push { cls := .type "list", data := .seq its.toArray }, toks := t' } :=
  I.laid (fun _ _ q => Heap.get?_push_of_some _ q) (Nat.le_refl _) ⟨hz, its, 0, hv, Heap.get?_push_size _ rfl⟩
theorem Inv.fresh (I : Inv X pins σ H s) : H s.heap.objs.size = none := I.hok.fresh (Nat.le_refl _)
theorem Inv.lstM (I : Inv X pins σ H s) (hH : H l = some (.lst xs)) : xs.length ≤ sizeLine ∧ ∃ (its : List Value) (n : Nat), Vals xs its ∧ xs.length = its.length ∧ s.heap.get? l = some { cls := .type "list", data := .seq its.toArray n } := by
  obtain ⟨z, its, n, r, e⟩ := I.hok l _ hH
  exact ⟨z, its, n, r, r.length, e⟩

theorem notLongL {n : Nat} (h : n ≤ sizeLine) : Builtin.List.listTooLong n = false := by
  unfold Builtin.List.listTooLong
  exact decide_eq_false (by omega)
end

section
variable {X : Cx}

/-! ### methods -/
def rAppend : V → List V → Hp → VK → Prop := fun x vs H Q => ∃ l xs y, x = .ref l ∧ vs = [y] ∧ H l = some (.lst xs) ∧ xs.length < sizeLine ∧ Q .non (upd H l (.lst (xs ++ [y])))
theorem mt_append : MtM X "list.append" rAppend := by
  intro pins s σ H x vs v us Q I rx rv h
  obtain ⟨l, xs, y, rfl, rfl, hH, hz, q⟩ := h
  cases rx
  obtain ⟨u, rfl, ru⟩ := rv.one
  obtain ⟨z, its, n, r, hl, e⟩ := I.lstM hH
  refine call_meets F.slot_list_append ⟨_, e, rfl⟩ F.entry_list_append (F.args_list_append_2 _ _) (PySem.list_append l its.toArray n u (by rw [List.size_toArray]; omega)) ⟨e, ?_⟩
  refine ⟨.non, _, I.lset (its' := its ++ [u]) hH e (by simp) (r.append (.cons ru .nil)) ?_, rfl, q⟩
  rw [List.length_append, List.length_singleton]
  omega

def rExtend : V → List V → Hp → VK → Prop := fun x vs H Q => ∃ l b xs zs, x = .ref l ∧ vs = [.ref b] ∧ H l = some (.lst xs) ∧ H b = some (.lst zs) ∧ xs.length + zs.length ≤ sizeLine ∧ Q .non (upd H l (.lst (xs ++ zs)))
theorem mt_extend : MtM X "list.extend" rExtend := by
  intro pins s σ H x vs v us Q I rx rv h
  obtain ⟨l, b, xs, zs, rfl, rfl, hH, hB, hz, q⟩ := h
  cases rx
  obtain ⟨u, rfl, ru⟩ := rv.one
  cases ru
  obtain ⟨z, its, n, r, hl, e⟩ := I.lstM hH
  obtain ⟨z2, its2, n2, r2, hl2, e2⟩ := I.lstM hB
  have hsz : its.toArray.size + its2.toArray.size ≤ sizeLine := by rw [List.size_toArray, List.size_toArray]; omega
  have hlong : ¬ (!its.toArray.isEmpty && Builtin.List.listTooLong (its.toArray.size + its2.toArray.size)) = true := by
    rw [notLongL hsz, Bool.and_false]
    exact Bool.false_ne_true
  refine call_meets F.slot_list_extend ⟨_, e, rfl⟩ F.entry_list_extend (F.args_list_extend_2 _ _)
    (AutoSeq1.list_extend_list_list_0 l its.toArray n b its2.toArray n2 hlong (by rw [List.size_toArray]; omega) (by omega)) ⟨e, e2, ?_⟩
  refine ⟨.non, _, I.lset (its' := its ++ its2) hH e (by simp) (r.append r2) ?_, rfl, q⟩
  rw [List.length_append]
  omega

def rPop : V → List V → Hp → VK → Prop := fun x vs H Q => ∃ l xs y, x = .ref l ∧ vs = [] ∧ H l = some (.lst xs) ∧ xs[xs.length - 1]? = some y ∧ Q y (upd H l (.lst xs.dropLast))
theorem mt_pop : MtM X "list.pop" rPop := by
  intro pins s σ H x vs v us Q I rx rv h
  obtain ⟨l, xs, y, rfl, rfl, hH, hy, q⟩ := h
  cases rx
  have hus := rv.zero
  subst hus
  obtain ⟨z, its, n, r, hl, e⟩ := I.lstM hH
  obtain ⟨u, hu, ru⟩ := r.get hy
  have hy' : its.toArray[its.toArray.size - 1]? = some u := by
    show its.toArray[its.length - 1]? = some u
    rw [← Array.getElem?_toList, ← hl]
    exact hu
  refine call_meets F.slot_list_pop ⟨_, e, rfl⟩ F.entry_list_pop (F.args_list_pop_1 _) (MeetsSeq.list_pop_last l its.toArray n u hy' (by rw [List.size_toArray]; omega)) ⟨e, ?_⟩
  refine ⟨y, _, I.lset (its' := its.dropLast) hH e ?_ r.dropLast ?_, ru, q⟩
  · show its.toArray.eraseIdxIfInBounds (its.toArray.size - 1) = its.dropLast.toArray
    rw [List.size_toArray, List.eraseIdxIfInBounds_toArray, erase_last]
  · rw [List.length_dropLast]
    omega

def rPopAt : V → List V → Hp → VK → Prop := fun x vs H Q => ∃ l xs i k y, x = .ref l ∧ vs = [.int i] ∧ H l = some (.lst xs) ∧ -(2 ^ 63) ≤ i ∧ i < 2 ^ 63 ∧ seqIndex? i xs.length = some k ∧ xs[k]? = some y ∧ Q y (upd H l (.lst (xs.eraseIdx k)))
theorem mt_popAt : MtM X "list.pop" rPopAt := by
  intro pins s σ H x vs v us Q I rx rv h
  obtain ⟨l, xs, i, k, y, rfl, rfl, hH, h1, h2, hk, hy, q⟩ := h
  cases rx
  obtain ⟨u, rfl, ru⟩ := rv.one
  obtain ⟨t, rfl⟩ := ru
  obtain ⟨z, its, n, r, hl, e⟩ := I.lstM hH
  obtain ⟨w, hw, rw'⟩ := r.get hy
  refine call_meets F.slot_list_pop ⟨_, e, rfl⟩ F.entry_list_pop (F.args_list_pop_2 _ _)
    (MeetsSeq.list_pop_at l its.toArray n i t k w (fitsIndex_both h1 h2) (by rw [List.size_toArray, ← hl]; exact hk) (by rw [← Array.getElem?_toList]; exact hw) (by rw [List.size_toArray]; omega)) ⟨e, ?_⟩
  refine ⟨y, _, I.lset (its' := its.eraseIdx k) hH e ?_ (r.eraseIdx k) ?_, rw', q⟩
  · show its.toArray.eraseIdxIfInBounds k = (its.eraseIdx k).toArray
    rw [List.eraseIdxIfInBounds_toArray]
  · have := len_erase xs k
    omega

def rReverse : V → List V → Hp → VK → Prop := fun x vs H Q => ∃ l xs, x = .ref l ∧ vs = [] ∧ H l = some (.lst xs) ∧ Q .non (upd H l (.lst xs.reverse))
theorem mt_reverse : MtM X "list.reverse" rReverse := by
  intro pins s σ H x vs v us Q I rx rv h
  obtain ⟨l, xs, rfl, rfl, hH, q⟩ := h
  cases rx
  have hus := rv.zero
  subst hus
  obtain ⟨z, its, n, r, hl, e⟩ := I.lstM hH
  refine call_meets F.slot_list_reverse ⟨_, e, rfl⟩ F.entry_list_reverse (F.args_list_reverse_1 _) (AutoSeq1.list_reverse_list_0 l its.toArray n (by rw [List.size_toArray]; omega)) ⟨e, ?_⟩
  refine ⟨.non, _, I.lset (its' := its.reverse) hH e (by simp) r.reverse ?_, rfl, q⟩
  rw [List.length_reverse]
  omega

def rClear : V → List V → Hp → VK → Prop := fun x vs H Q => ∃ l xs, x = .ref l ∧ vs = [] ∧ H l = some (.lst xs) ∧ Q .non (upd H l (.lst []))
theorem mt_clear : MtM X "list.clear" rClear := by
  intro pins s σ H x vs v us Q I rx rv h
  obtain ⟨l, xs, rfl, rfl, hH, q⟩ := h
  cases rx
  have hus := rv.zero
  subst hus
  obtain ⟨z, its, n, r, hl, e⟩ := I.lstM hH
  refine call_meets F.slot_list_clear ⟨_, e, rfl⟩ F.entry_list_clear (F.args_list_clear_1 _) (AutoSeq1.list_clear_list_0 l its.toArray n (by rw [List.size_toArray]; omega)) ⟨e, ?_⟩
  exact ⟨.non, _, I.lset (its' := []) (ys := []) hH e rfl .nil (Nat.zero_le _), rfl, q⟩

/-! ### list + list, list += list, list * int -/
def rCat : R2 := fun x y H Q => ∃ l b xs zs, x = .ref l ∧ y = .ref b ∧ H l = some (.lst xs) ∧ H b = some (.lst zs) ∧ xs.length + zs.length ≤ sizeLine ∧ ∀ p, H p = none → Q (.ref p) (upd H p (.lst (xs ++ zs)))
theorem op_cat : OpR X (binaryOp .Add) rCat := by
  intro pins s σ H x y v u Q I rx ry h
  obtain ⟨l, b, xs, zs, rfl, rfl, hH, hB, hz, q⟩ := h
  cases rx
  cases ry
  obtain ⟨z, its, n, r, hl, e⟩ := I.lstM hH
  obtain ⟨z2, its2, n2, r2, hl2, e2⟩ := I.lstM hB
  refine PySem.P.add_list e e2 ?_ (by rw [List.size_toArray, List.size_toArray]; omega)
  have ea : its.toArray ++ its2.toArray = (its ++ its2).toArray := by simp
  rw [ea]
  exact ⟨.ref _, _, I.lnew (t' := s.toks) (r.append r2) (by rw [List.length_append]; omega), rfl, q _ I.fresh⟩
/-- a list times an int (a negative one is nothing) -/
def rRep : R2 := fun x y H Q => ∃ l k xs, x = .ref l ∧ y = .int k ∧ H l = some (.lst xs) ∧ -(2 ^ 63) ≤ k ∧ k < 2 ^ 63 ∧ xs.length * k.toNat ≤ sizeLine ∧
  ∀ p, H p = none → Q (.ref p) (upd H p (.lst (List.replicate k.toNat xs).flatten))
theorem len_rep {α : Type} (xs : List α) (k : Nat) : (List.replicate k xs).flatten.length = k * xs.length := by
  induction k with
  | zero => simp
  | succ k ih => rw [List.replicate_succ, List.flatten_cons, List.length_append, ih, Nat.succ_mul, Nat.add_comm]
theorem op_rep : OpR X (binaryOp .Mult) rRep := by
  intro pins s σ H x y v u Q I rx ry h
  obtain ⟨l, k, xs, rfl, rfl, hH, h1, h2, hz, q⟩ := h
  cases rx
  obtain ⟨t, rfl⟩ := ry
  obtain ⟨z, its, n, r, hl, e⟩ := I.lstM hH
  have hlen : its.toArray.size * k.toNat ≤ sizeLine := by rw [List.size_toArray, ← hl]; exact hz
  have hcap : ¬ its.toArray.size * k.toNat > (2 ^ 63 - 1) / 8 := by
    have : (sizeLine : Nat) ≤ (2 ^ 63 - 1) / 8 := by decide
    omega
  have hfit : ¬ (!Builtin.List.listFitsIndex k) = true := by
    rw [fitsIndex_both h1 h2]
    exact Bool.false_ne_true
  have hlong : ¬ Builtin.List.listTooLong (its.toArray.size * k.toNat) = true := by
    rw [notLongL hlen]
    exact Bool.false_ne_true
  have hnew : List.foldl (fun x1 x2 => x1 ++ x2) #[] (List.replicate (if its.toArray.isEmpty = true then 0 else k.toNat) its.toArray) = (List.replicate k.toNat its).flatten.toArray := by
    have f0 : ∀ m : Nat, List.foldl (fun x1 x2 => x1 ++ x2) #[] (List.replicate m its.toArray) = (List.replicate m its).flatten.toArray := fun m => by
      have := foldl_rep its m []
      rw [List.nil_append] at this
      exact this
    rw [f0]
    cases its with
    | nil => simp
    | cons a r' => rw [if_neg (by simp)]
  refine wpAny_binaryOp_repeat_ref (T := "list") (U := "int") (by decide) ⟨_, e, rfl⟩ (fun s' => typeIs_int s' k t) noFill_list_mul F.fills_int_mul F.slot_int_rmul repeat_list F.slot_int_index.lookup
    (call_meets F.slot_int_rmul (typeIs_int s k t) F.entry_int_rmul (F.args_int_rmul_2 _ _) (int___rmul___int_list k t l its.toArray n)
      ⟨e, rfl, ⟨_, e, rfl⟩, call_meets F.slot_list_mul ⟨_, e, rfl⟩ F.entry_list_mul (F.args_list_mul_2 _ _) (AutoListH.list___mul___list_int_3 l its.toArray n k t hfit hcap hlong) ⟨e, ?_⟩⟩)
  rw [hnew]
  exact ⟨.ref _, _, I.lnew (t' := s.toks) (r.rep k.toNat) (by rw [len_rep, Nat.mul_comm]; exact hz), rfl, q _ I.fresh⟩

/-! ### del xs[i] -/
theorem del_list {pins : List (Addr × Obj)} {s : Shared} {σ : St} {H : Hp} {l : Addr} {xs : List V} {i : Int} {t : Tok} {k : Nat} {Q : Unit → Shared → Prop} (I : Inv X pins σ H s) (hH : H l = some (.lst xs))
    (h1 : -(2 ^ 63) ≤ i) (h2 : i < 2 ^ 63) (hk : seqIndex? i xs.length = some k) (h : ∀ s', Inv X pins σ (upd H l (.lst (xs.eraseIdx k))) s' → Q () s') :
    wpAny (model X.prog X.w) X.A (delItem (.ref l) (.int i t)) Q X.xe s := by
  obtain ⟨z, its, n, r, hl, e⟩ := I.lstM hH
  refine PySem.P.delItem_list (k := k) e (fitsIndex_both h1 h2) (by rw [List.size_toArray, ← hl]; exact hk) (h _ ?_) (by rw [List.size_toArray]; omega)
  refine I.lset (its' := its.eraseIdx k) (t' := s.toks) hH e ?_ (r.eraseIdx k) ?_
  · show its.toArray.eraseIdxIfInBounds k = (its.eraseIdx k).toArray
    rw [List.eraseIdxIfInBounds_toArray]
  · have := len_erase xs k
    omega
end

/-! ### xs[a:b] = ys -/
section
variable {prog : Program} {w : World} {A : Around} {E : Value → Shared → Prop} {s : Shared}
theorem splice_eq (its its2 : List Value) (a c : Nat) : its.toArray.extract 0 a ++ its2.toArray ++ its.toArray.extract c its.toArray.size = (its.take a ++ its2 ++ its.drop c).toArray := by
  apply Array.toList_inj.mp
  first
    | (simp
       exact List.take_of_length_le (by simp))
    | simp [List.take_of_length_le]
    | simp
theorem bounds_run {a c n : Nat} (hac : a ≤ c) (hc : c ≤ n) : sliceBounds (some (a : Int)) (some (c : Int)) none n = ((a : Int), (c : Int), 1) := by
  simp only [sliceBounds, Option.getD_none]
  have h1 : ¬ ((a : Int) < 0) := by omega
  have h2 : ¬ ((c : Int) < 0) := by omega
  simp only [h1, h2, if_false, show (1 : Int) > 0 by decide, if_true]
  congr 1
  · omega
  · congr 1; omega
set_option maxRecDepth 100000 in
/-- list.__setitem__ with a slice of step one and another list -/
theorem setItem_slice {l b sl : Addr} {items new : Array Value} {n n2 : Nat} {vl vu : Value} {a c : Nat} {Q : Unit → Shared → Prop}
    (e : s.heap.get? l = some { cls := .type "list", data := .seq items n }) (e2 : s.heap.get? b = some { cls := .type "list", data := .seq new n2 }) (hne : l ≠ b)
    (hs : s.heap.IsSliceOf sl vl vu .none) (pl : IsPart vl (some (a : Int))) (pu : IsPart vu (some (c : Int))) (hac : a ≤ c) (hc : c ≤ items.size)
    (hsz : items.size + new.size ≤ sizeLine) (h : Q () { s with heap := s.heap.update l (Obj.mapSeq fun xs => xs.extract 0 a ++ new ++ xs.extract c xs.size) }) :
    wpAny (model prog w) A (setItem (.ref l) (.ref sl) (.ref b)) Q E s := by
  have hl : s.heap.IsList l items := PySem.IsL.isList e
  have hb : s.heap.IsList b new := PySem.IsL.isList e2
  obtain ⟨os, hos, hcs, hds⟩ := id hs
  have hTs : s.TypeIs (.ref sl) "slice" := ⟨os, hos, hcs⟩
  have hstep : ¬ ((rawPart none == rawInt 0) = true) := Bool.false_ne_true
  have hsame : Builtin.List.listSameRef (.ref l) (.ref b) = false := by
    unfold Builtin.List.listSameRef
    exact beq_eq_false_iff_ne.mpr hne
  have hmax : (max (a : Int) (c : Int)).toNat = c := by omega
  have hz' : ((fun xs : Array Value => xs.extract 0 a ++ new ++ xs.extract c xs.size) items).size ≤ sizeLine + 1 := by
    simp only [Array.size_append, Array.size_extract]
    omega
  unfold setItem
  try with_reducible refine wpAny_holding ?_
  first | refine wpAny_bind (wpAny_pure ?_) | skip
  refine wpAny_bind (wpAny_sequenceKey hl.typeIs (by decide) ?_)
  refine wpAny_bind (wpAny_callSpecial?_slot (name := Str.ofString "__setitem__") hl.typeIs slot_list_setitem
    (wpAny_call_entry slot_list_setitem hl.typeIs entry_list_setitem ?_ (args_list_setitem _ _ _)))
  show wpAny _ _ (Builtin.List.listSubscript? (.ref sl) >>= _) _ _ s
  refine wpAny_bind ?_
  unfold Builtin.List.listSubscript?
  refine wpAny_bind (wpAny_specialOf hTs slice_no_index ?_)
  simp only [Option.isNone_none, if_true]
  refine wpAny_pure ?_
  show wpAny _ _ (typeOf (.ref sl) >>= _) _ _ s
  refine wpAny_bind (wpAny_typeOf hTs ?_)
  first
    | rw [if_neg (by decide)]
    | refine PySem.W.KFB.if_not (by decide) ?_
  rw [listSliceParts_eq]
  refine wpAny_bind (wpAny_bind (wpAny_field hos hds (x := .none) rfl (wpAny_bind (wpAny_listPart .none ?_))))
  rw [if_neg hstep]
  refine wpAny_bind (wpAny_field hos hds (x := vl) rfl (wpAny_bind (wpAny_listPart pl ?_)))
  refine wpAny_bind (wpAny_field hos hds (x := vu) rfl (wpAny_bind (wpAny_listPart pu (wpAny_pure ?_))))
  first
    | simp only [hsame, Bool.false_eq_true, if_false]
    | refine PySem.W.KFB.if_not hsame ?_
    | (dsimp only
       rw [if_neg (by rw [hsame]; exact Bool.false_ne_true)])
  refine wpAny_bind (m := Builtin.List.listAllItems (.ref b) "must assign iterable to extended slice") ?_
  unfold Builtin.List.listAllItems
  refine wpAny_bind (wpAny_typeOf hb.typeIs ?_)
  first
    | refine PySem.W.KFB.if_so (by decide) ?_
    | rw [if_pos (by decide)]
    | simp only [beq_self_eq_true, Bool.true_or, if_true]
  unfold Builtin.List.listItems
  refine wpAny_bind (wpAny_seqItems e2 rfl (wpAny_pure ?_))
  refine wpAny_bind (wpAny_bind (wpAny_seqItems e rfl (wpAny_pure ?_)))
  refine wpAny_bind (wpAny_of_eq ((sliceIndices_raw (some (a : Int)) (some (c : Int)) none items.size (by simp)).trans (congrArg (pure : Int × Int × Int → Sem (Int × Int × Int)) (bounds_run hac hc))) ?_)
  show wpAny _ _ (if ((1 : Int) == 1) = true then _ else _) _ _ s
  rw [if_pos (by decide)]
  refine wpAny_bind (wpAny_rule ?_)
  first
    | simp only [notLongL hsz, Bool.false_eq_true, if_false]
    | refine PySem.W.KFB.if_not (notLongL hsz) ?_
  first | refine wpAny_bind (wpAny_pure ?_) | skip
  show wpAny _ _ (updateSeq l (fun xs => xs.extract 0 ((a : Int)).toNat ++ new ++ xs.extract (max (a : Int) (c : Int)).toNat xs.size) >>= _) _ _ s
  rw [hmax, Int.toNat_natCast]
  refine wpAny_bind (wpAny_updateSeq (hz := Nat.le_trans (Nat.le_add_right _ _) hsz) (_hz' := hz') e rfl ?_)
  refine wpAny_bind (wpAny_letGo ?_)
  first
    | exact wpAny_bind (wpAny_pure (wpAny_pure ⟨.none, rfl, wpAny_pure h⟩))
    | exact wpAny_pure ⟨.none, rfl, wpAny_pure h⟩
end

section
variable {X : Cx}
/-- xs[a:c] = ys of another list, at the value level: sl is the slice object that was just made -/
theorem set_slice {pins : List (Addr × Obj)} {s : Shared} {σ : St} {H : Hp} {l b sl : Addr} {xs ys : List V} {a c : Int} {vl vu : Value} {Q : Unit → Shared → Prop} (I : Inv X pins σ H s)
    (hH : H l = some (.lst xs)) (hB : H b = some (.lst ys)) (hne : l ≠ b) (hs : s.heap.IsSliceOf sl vl vu .none) (ra : RelV (.int a) vl) (rc : RelV (.int c) vu) (h0 : 0 ≤ a) (hac : a ≤ c) (hc : c ≤ xs.length)
    (hz : xs.length + ys.length ≤ sizeLine) (h : ∀ s', Inv X pins σ (upd H l (.lst (xs.take a.toNat ++ ys ++ xs.drop c.toNat))) s' → Q () s') :
    wpAny (model X.prog X.w) X.A (setItem (.ref l) (.ref sl) (.ref b)) Q X.xe s := by
  obtain ⟨ta, rfl⟩ := ra
  obtain ⟨tc, rfl⟩ := rc
  obtain ⟨z, its, n, r, hl, e⟩ := I.lstM hH
  obtain ⟨z2, its2, n2, r2, hl2, e2⟩ := I.lstM hB
  obtain ⟨a', rfl⟩ := Int.eq_ofNat_of_zero_le h0
  obtain ⟨c', rfl⟩ := Int.eq_ofNat_of_zero_le (Int.le_trans h0 hac)
  simp only [Int.toNat_natCast] at h
  refine setItem_slice (a := a') (c := c') e e2 hne hs (.int _ _) (.int _ _) (by omega) (by rw [List.size_toArray]; omega) (by rw [List.size_toArray, List.size_toArray]; omega) (h _ ?_)
  refine I.lset (its' := its.take a' ++ its2 ++ its.drop c') (t' := s.toks) hH e ?_ (Vals.append (Vals.append (r.take _) r2) (r.drop _)) ?_
  · exact splice_eq its its2 a' c'
  · rw [List.length_append, List.length_append, List.length_take, List.length_drop]
    omega
end
end L2

namespace Att
open PySem PySem.W PySem.Calls PyProof.Rows

/-! ### the script -/
theorem ints_of_wellAll {P : Params} {h : Heap} : ∀ (ns : List Int) (vs : List Value), WellAll P h vs (ns.map WData.int) → IntsAre vs ns := by
  intro ns
  induction ns with
  | nil =>
    intro vs w
    rw [List.map_nil] at w
    cases w
    exact .nil
  | cons n ns ih =>
    intro vs w
    rw [List.map_cons] at w
    cases w with
    | cons a b =>
      cases a
      exact .cons _ _ (ih _ b)

theorem script_of {l : OpenLaw} {n : Nat} (hn : l.most = some n) {P : Params} {h : Heap} {args : List WData} {vals : List Value}
    (hpre : l.row.toRowW.claim.pre args = true) (hwl : WellAll P h vals args) :
    ∃ a vs ns, vals = [Value.ref a] ∧ args = [WData.list (ns.map WData.int)] ∧ h.get? a = some { cls := .type "list", data := .seq vs.toArray } ∧ IntsAre vs ns ∧ ns.length ≤ n := by
  have hsh : WShape.hasAll [] args [.list .int] = true := (pre_splitW hpre).1
  have hc : l.pre.holds [] { args := args } = true := (pre_splitW hpre).2
  obtain ⟨d, r, rfl, h1, h2⟩ := hasAllW_cons hsh
  obtain rfl := hasAllW_nil h2
  obtain ⟨xs, rfl, h3⟩ := hasW_list h1
  obtain ⟨ns, rfl⟩ := items_int h3
  have hlen : ns.length ≤ n := by
    unfold OpenLaw.pre at hc
    have h4 : (WTm.not (.lt (.lit (.int (n : Int))) (.len (.arg 0)))).holds [] { args := [.list (ns.map .int)] } = true := by
      have h4 := (holds_andW hc).1
      rw [hn] at h4
      exact h4
    have h5 := condW_of h4 (w_not (w_lt w_lit (w_len_list (w_arg rfl))))
    rw [List.length_map] at h5
    refine Nat.le_of_not_lt fun q => ?_
    have q' : (n : Int) < ((ns.length : Nat) : Int) := by omega
    first
      | (rw [decide_eq_true q'] at h5; exact absurd h5 (by decide))
      | (simp at h5; omega)
  cases hwl with
  | cons w1 w2 =>
    cases w2
    cases w1 with
    | list ho hall => exact ⟨_, _, ns, rfl, rfl, ho, ints_of_wellAll ns _ hall, hlen⟩

theorem post_true (l : OpenLaw) (args : List WData) : l.row.toRowW.claim.post args (.bool true) args = true :=
  postW_of (r := l.row.toRowW) (X := (true == true))
    (show WShape.has [] (.bool true) .bool = true by first | rfl | decide | simp [WShape.has, WShape.arms, WShape.armsAll])
    (show (WTm.eq .res (.lit (.bool true))).value [] { args := args, res := some (.bool true), after := args } = some (.bool (true == true)) from w_eq_bool (w_res rfl) w_lit) rfl

/-! ### the attachment: holds_open's last premise (the goal 'hc' behind k_head) from a wpAny of the law's body -/
theorem attach {l : OpenLaw} {n : Nat} {q : Program} {loose : List Str} {XP : (Str → Option Value) → Heap → Prop} {YP : World → Heap → Prop} {d : DefRec} {x : Str}
    (hn : l.most = some n) (hdf : d.params.defaults = [])
    (hbind : ∀ pm cd doc v : Value, bindArgs (docDef d.name d.params d.body d.scope pm cd doc) ⟨[v], []⟩ = pure [(x, v)])
    (hx : d.scope.names.lookup x = some .local ∨ d.scope.names.lookup x = some .cell)
    (hk : d.scope.kind = .function) (hco : d.scope.isCoroutine = false) (hgen : d.scope.isGenerator = false)
    (body : ∀ (w : World) (s₀ s₁ s : Shared) (mg mb : Str → Option Value) (fa : Addr) (o : Obj) (pm cd doc : Value) (a : Addr) (vs : List Value) (ns : List Int),
      Ground q loose [] XP w s₀ mg mb s₁.heap → YP w s₁.heap →
      s₁.heap.get? fa = some o → o.data = .func (docDef d.name d.params d.body d.scope pm cd doc) → s₁.heap.CodeRec cd d.name → mg d.name = some (.ref fa) →
      s₁.heap.get? a = some { cls := .type "list", data := .seq vs.toArray } → IntsAre vs ns → ns.length ≤ n →
      s.gens = #[] → s.os = s₁.os →
      Fr s₁.heap s₁.heap.objs.size s.heap (bindL (envOfC d.name d.scope s₁.heap.objs.size fa cd).kindOf [(x, .ref a)] fun _ => none) →
      Cl s₁.heap.objs.size (cellsFrom (s₁.heap.objs.size + 1) d.scope.names []) s.heap (bindC (envOfC d.name d.scope s₁.heap.objs.size fa cd).kindOf [(x, .ref a)] fun _ => none) →
      wpAny (model l.prog w) (callerA.deeper (envOfC d.name d.scope s₁.heap.objs.size fa cd)) (execs d.body (envOfC d.name d.scope s₁.heap.objs.size fa cd))
        (fun f s' => f = .ret (.bool true) ∧ OldK s₁.heap s'.heap ∧ s'.os = s₁.os ∧ AllBare s'.gens) (fun _ _ => False) s) :
    WalkO q loose XP YP l.row.toRowW d [] (fun f vs => PySem.call f vs) := by
  intro w s₀ s₁ mg mb G Y fa o pm cd doc dV kV ho hd hcd hD hmg hg args vals as hpre hlay hrd hwl hlo
  obtain rfl : dV = .none := Dflts.none hD hdf
  obtain rfl : kV = .none := Dflts.noKw hD
  obtain ⟨a, vs, ns, rfl, rfl, hobj, hints, hlen⟩ := script_of hn hpre hwl
  refine enter_call ?_
  refine call_cells_ret (o := o) (by rw [depth_caller]; decide) ho (fd_plain hd) G.T.nolimit hcd (hbind pm cd doc (.ref a)) (fun y hy => ?_) (fun h₁ tk F X => ?_) hco hgen hk
  · obtain rfl : y = (x, Value.ref a) := List.mem_singleton.mp hy
    rcases hx with e | e
    · exact .inl e
    · exact .inr ⟨e, cellsFrom_some _ _ _ (.inl e)⟩
  · refine wpAny_mono (body w s₀ s₁ { s₁ with heap := h₁, toks := tk } mg mb fa o pm cd doc a vs ns G Y ho (fd_plain hd) hcd hmg hobj hints hlen hg rfl F X) (fun f s' hq => ?_) (fun _ _ hq => hq)
    obtain ⟨rfl, h2, h3, h4⟩ := hq
    exact ⟨.inl ⟨.bool true, .bool true, [], rfl, fun _ => rfl, .bool true, post_true l _, fun _ => ⟨List.Pairwise.nil, fun _ hm => (nomatch hm)⟩⟩, h2, h3, h4⟩

/-- the same from a codeAny of the CALL (for a layer whose function contracts speak of calls) -/
theorem attach_call {l : OpenLaw} {n : Nat} {q : Program} {loose : List Str} {XP : (Str → Option Value) → Heap → Prop} {YP : World → Heap → Prop} {d : DefRec}
    (hn : l.most = some n) (hdf : d.params.defaults = [])
    (call : ∀ (w : World) (s₀ s₁ : Shared) (mg mb : Str → Option Value) (fa : Addr) (o : Obj) (pm cd doc : Value) (a : Addr) (vs : List Value) (ns : List Int),
      Ground q loose [] XP w s₀ mg mb s₁.heap → YP w s₁.heap →
      s₁.heap.get? fa = some o → o.data = .func (docDef d.name d.params d.body d.scope pm cd doc) → s₁.heap.CodeRec cd d.name → mg d.name = some (.ref fa) →
      s₁.heap.get? a = some { cls := .type "list", data := .seq vs.toArray } → IntsAre vs ns → ns.length ≤ n → s₁.gens = #[] →
      codeAny (model l.prog w) callerA (.call (.ref fa) ⟨[.ref a], []⟩) (fun r s' => r = .ok (.ret (.bool true)) ∧ OldK s₁.heap s'.heap ∧ s'.os = s₁.os ∧ AllBare s'.gens) s₁) :
    WalkO q loose XP YP l.row.toRowW d [] (fun f vs => PySem.call f vs) := by
  intro w s₀ s₁ mg mb G Y fa o pm cd doc dV kV ho hd hcd hD hmg hg args vals as hpre hlay hrd hwl hlo
  obtain rfl : dV = .none := Dflts.none hD hdf
  obtain rfl : kV = .none := Dflts.noKw hD
  obtain ⟨a, vs, ns, rfl, rfl, hobj, hints, hlen⟩ := script_of hn hpre hwl
  refine enter_call (codeAny_mono (call w s₀ s₁ mg mb fa o pm cd doc a vs ns G Y ho (fd_plain hd) hcd hmg hobj hints hlen hg) fun r s' hq => ?_)
  obtain ⟨rfl, h2, h3, h4⟩ := hq
  exact ⟨.inl ⟨.bool true, .bool true, [], rfl, fun _ => rfl, .bool true, post_true l _, fun _ => ⟨List.Pairwise.nil, fun _ hm => (nomatch hm)⟩⟩, h2, h3, h4⟩

/-- the same where the top left finished generators (o_head chose holds_openN): nothing may have changed at all and no generator may be left -/
theorem attachN {l : OpenLaw} {n : Nat} {q : Program} {loose : List Str} {XP : (Str → Option Value) → Heap → Prop} {YP : World → Heap → Prop} {d : DefRec} {x : Str}
    (hn : l.most = some n) (hdf : d.params.defaults = [])
    (hbind : ∀ pm cd doc v : Value, bindArgs (docDef d.name d.params d.body d.scope pm cd doc) ⟨[v], []⟩ = pure [(x, v)])
    (hx : d.scope.names.lookup x = some .local ∨ d.scope.names.lookup x = some .cell)
    (hk : d.scope.kind = .function) (hco : d.scope.isCoroutine = false) (hgen : d.scope.isGenerator = false)
    (body : ∀ (w : World) (s₀ s₁ s : Shared) (mg mb : Str → Option Value) (fa : Addr) (o : Obj) (pm cd doc : Value) (a : Addr) (vs : List Value) (ns : List Int),
      Ground q loose [] XP w s₀ mg mb s₁.heap → YP w s₁.heap →
      s₁.heap.get? fa = some o → o.data = .func (docDef d.name d.params d.body d.scope pm cd doc) → s₁.heap.CodeRec cd d.name → mg d.name = some (.ref fa) →
      s₁.heap.get? a = some { cls := .type "list", data := .seq vs.toArray } → IntsAre vs ns → ns.length ≤ n →
      s.gens = #[] → s.os = s₁.os →
      Fr s₁.heap s₁.heap.objs.size s.heap (bindL (envOfC d.name d.scope s₁.heap.objs.size fa cd).kindOf [(x, .ref a)] fun _ => none) →
      Cl s₁.heap.objs.size (cellsFrom (s₁.heap.objs.size + 1) d.scope.names []) s.heap (bindC (envOfC d.name d.scope s₁.heap.objs.size fa cd).kindOf [(x, .ref a)] fun _ => none) →
      wpAny (model l.prog w) (callerA.deeper (envOfC d.name d.scope s₁.heap.objs.size fa cd)) (execs d.body (envOfC d.name d.scope s₁.heap.objs.size fa cd))
        (fun f s' => f = .ret (.bool true) ∧ (∀ b o, s₁.heap.get? b = some o → s'.heap.get? b = some o) ∧ s'.os = s₁.os ∧ s'.gens = #[]) (fun _ _ => False) s) :
    WalkN q loose XP YP l.row.toRowW d [] (fun f vs => PySem.call f vs) := by
  intro w s₀ s₁ mg mb G Y fa o pm cd doc dV kV ho hd hcd hD hmg hg args vals as hpre hlay hrd hwl hlo
  obtain rfl : dV = .none := Dflts.none hD hdf
  obtain rfl : kV = .none := Dflts.noKw hD
  obtain ⟨a, vs, ns, rfl, rfl, hobj, hints, hlen⟩ := script_of hn hpre hwl
  refine enter_callW ?_
  refine call_cells_ret (o := o) (by rw [depth_caller]; decide) ho (fd_plain hd) G.T.nolimit hcd (hbind pm cd doc (.ref a)) (fun y hy => ?_) (fun h₁ tk F X => ?_) hco hgen hk
  · obtain rfl : y = (x, Value.ref a) := List.mem_singleton.mp hy
    rcases hx with e | e
    · exact .inl e
    · exact .inr ⟨e, cellsFrom_some _ _ _ (.inl e)⟩
  · refine wpAny_mono (body w s₀ s₁ { s₁ with heap := h₁, toks := tk } mg mb fa o pm cd doc a vs ns G Y ho (fd_plain hd) hcd hmg hobj hints hlen hg rfl F X) (fun f s' hq => ?_) (fun _ _ hq => hq)
    obtain ⟨rfl, h2, h3, h4⟩ := hq
    exact ⟨.inl ⟨.bool true, .bool true, [], rfl, fun _ => rfl, .bool true, post_true l _, fun _ => ⟨List.Pairwise.nil, fun _ hm => (nomatch hm)⟩⟩, h2, h3, h4⟩

/-! ### rules over ANY heap (no ledger) from facts about the written part K: the library's own take a ledger (News) for what they write -/
section
variable {prog : Program} {w : World} {A : Around} {E : Value → Shared → Prop} {s : Shared} {K : Frag}

/-- a def of the module, or a method (qual 'C.m'), entered: the frame is the next address; cells behind it -/
theorem call_fn {R : Result → Shared → Prop} {name qual : Str} {params : Arguments} {body : List Stmt} {scope : Scope} {dV kV doc pm cdv ct oc : Value} {an od : Option Addr} {osl : Array (Option Value)} {f : Addr} {args : Args} {binds : List (Str × Value)}
    (X : K.In s.heap) (hlim : s.heap.NoLimit) (ho : K.lookup f = some ⟨oc, od, .func (fnOf name qual params body scope dV kV doc pm an cdv ct), osl⟩) (hcd : codeIn K cdv qual = true) (hroom : A.depth < recursionLimit)
    (hbind : BindsTo s (fnOf name qual params body scope dV kV doc pm an cdv ct) args binds)
    (hkind : (binds.all fun y => scope.names.lookup y.1 == some .local || scope.names.lookup y.1 == some .cell) = true)
    (h : ∀ s₁, InCallC s s.heap.objs.size (bindL (envOfC qual scope s.heap.objs.size f cdv).kindOf binds fun _ => none) (cellsFrom (s.heap.objs.size + 1) scope.names [])
        (bindC (envOfC qual scope s.heap.objs.size f cdv).kindOf binds fun _ => none) s₁ →
      wpAny (model prog w) (A.deeper (envOfC qual scope s.heap.objs.size f cdv)) (execs body (envOfC qual scope s.heap.objs.size f cdv))
        (fun fl s' => R (.ok (.ret (match fl with | .ret v => v | _ => .none))) s')
        (fun e s' => wpAny (model prog w) (A.deeper (envOfC qual scope s.heap.objs.size f cdv)) (leaving (envOfC qual scope s.heap.objs.size f cdv) e) (fun _ s'' => R (.error e) s'') (fun e' s'' => R (.error e') s'') s') s₁)
    (hco : scope.isCoroutine = false) (hgen : scope.isGenerator = false) (hk : scope.kind = .function) : codeAny (model prog w) A (.call (.ref f) args) R s := by
  refine codeAny_call_function hroom (X _ _ ho) rfl hco hgen rfl (codeRec_of X hcd) (hbind _ _ _ _ ?_)
  refine wpAny_newFunctionEnv_cells hk (kindsX hkind _) fun env he s₁ x => ?_
  subst he
  exact ⟨hlim.keeps x.toInCall.keep, codeAny_func (h s₁ x)⟩

/-- C(..): dict at size, instance at size + 1, then __init__ -/
theorem make_obj {R : Result → Shared → Prop} {C fI : Addr} {rest : List Value} {kw : List (Str × Value)}
    (X : K.In s.heap) (hm : makesIn K C = true) (hi : findIn K (.ref C) "__init__" = some (some (.ref fI))) (hf : isFn K (.ref fI) = true)
    (h : codeAny (model prog w) (A.under (.builtin "type.__call__" ⟨.ref C :: rest, kw⟩)) (.call (.ref fI) ⟨.ref (s.heap.objs.size + 1) :: rest, kw⟩) (InitBack (s.heap.objs.size + 1) R)
      { s with heap := (s.heap.push emptyDict).push (instObj C s.heap.objs.size) }) : codeAny (model prog w) A (.call (.ref C) ⟨rest, kw⟩) R s := by
  obtain ⟨hh, g, d, t, os⟩ := s
  exact make_core (makes_of X hm) (looks_findIn X hi) (fun self => bind_fn X self (beq_iff_eq.mp hf)) (.inl rfl) h

/-- x.name where the instance's dict holds the name and the class does not -/
theorem get_field {x C : Addr} {ox : Obj} {es : List DictEntry} {n : Nat} {name : Str} {expr : Bool} {v : Value} {Q : Value → Shared → Prop}
    (X : K.In s.heap) (I : PySem.W.InstAt s.heap x ox C (some (dictOf es n))) (hg : plainGet K C name = true) (hh : hasDictIn K C = true) (ha : findIn K (.ref C) name = some none)
    (hl : getL name es = some (some v)) (hv : handedIn v = true) (h : Q v { s with toks := s.toks + 1 }) : wpAny (model prog w) A (getAttr (.ref x) name expr) Q E s :=
  get_value X I (plainGet_of hg).1 (findObj_own hh ha rfl hl) hv h

/-- x.m(..): the method found in the class -/
theorem get_method {x C f : Addr} {ox : Obj} {es : List DictEntry} {n : Nat} {name : Str} {pl : Sem Bool} {Q : Value × List Value → Shared → Prop}
    (X : K.In s.heap) (I : PySem.W.InstAt s.heap x ox C (some (dictOf es n))) (hg : plainGet K C name = true) (hf : findIn K (.ref C) name = some (some (.ref f))) (ht : isFn K (.ref f) = true)
    (hl : getL name es = some none) (h : Q (.ref f, [.ref x]) s) : wpAny (model prog w) A (getMethod (.ref x) name pl) Q E s :=
  method_fn X I (plainGet_of hg).1 (plainGet_of hg).2 hf (beq_iff_eq.mp ht) (by show (lookIn name (dictOf es n)).map _ = _; rw [lookIn_dict, hl]; rfl) h

/-! the whole heap as the ledger: makes every rule that writes through a ledger a rule over any heap -/
def noObjs (h : Heap) : Heap := { h with objs := #[] }
theorem noObjs_get (h : Heap) (b : Addr) : (noObjs h).get? b = none := by
  cases e : (noObjs h).get? b with
  | none => rfl
  | some o => exact absurd (Heap.lt_size e) (Nat.not_lt_zero _)
def ledger (h : Heap) (L d : Addr) : List (Addr × Obj) := (List.range h.objs.size).filterMap fun a => if a = L ∨ a = d then none else (h.get? a).map fun o => (a, o)
theorem mem_ledger {h : Heap} {L d a : Addr} {o : Obj} : (a, o) ∈ ledger h L d ↔ a ≠ L ∧ a ≠ d ∧ h.get? a = some o := by
  unfold ledger
  rw [List.mem_filterMap]
  constructor
  · rintro ⟨b, _, e⟩
    split at e
    · cases e
    · rename_i hb
      obtain ⟨o', ho, e'⟩ := Option.map_eq_some_iff.mp e
      cases e'
      exact ⟨fun q => hb (.inl q), fun q => hb (.inr q), ho⟩
  · rintro ⟨n1, n2, ho⟩
    refine ⟨a, List.mem_range.mpr (Heap.lt_size ho), ?_⟩
    rw [if_neg (show ¬ (a = L ∨ a = d) from fun q => q.elim n1 n2), ho] <;> rfl
theorem news_ledger {h : Heap} {L d : Addr} {od : Obj} (hne : d ≠ L) (ho : h.get? d = some od) : News (noObjs h) L h ([] ++ (d, od) :: ledger h L d) := by
  rintro ⟨a, o⟩ hp
  rcases List.mem_cons.mp hp with e | hp
  · cases e
    exact ⟨ho, hne, noObjs_get _ _⟩
  · obtain ⟨n1, n2, e⟩ := mem_ledger.mp hp
    exact ⟨e, n1, noObjs_get _ _⟩
theorem fr_all {h : Heap} {L : Addr} {m : Str → Option Value} (n : h.Ns L m) : Fr (noObjs h) L h m :=
  ⟨n, fun b o e => (by rw [noObjs_get] at e; cases e), Nat.zero_le _⟩
/-- Upd of the head entry (for append_K, setItem_K ..) -/
theorem upd_ledger {h : Heap} {L d : Addr} {o o' : Obj} : Upd d o o' ((d, o) :: ledger h L d) ((d, o') :: ledger h L d) :=
  .head fun ⟨_, _⟩ hp => (mem_ledger.mp hp).2.1

/-- x.name = v over any heap: L is any namespace of the heap (the frame's, say): its map stays, its object is not told; all else but the dict stays -/
theorem set_field {x C dx L : Addr} {ox : Obj} {m : Str → Option Value} {es es' : List DictEntry} {n n' : Nat} {name : Str} {v : Value} {Q : Unit → Shared → Prop}
    (X : K.In s.heap) (I : PySem.W.InstAt s.heap x ox C (some (dictOf es n))) (hd : ox.dict = some dx) (hL : s.heap.Ns L m) (hne : dx ≠ L)
    (hs : findIn K (.ref C) "__setattr__" = some (some (.builtin "object.__setattr__"))) (hp : plainOver K C = true) (ht : takerIn K C name = some none) (hh : hasDictIn K C = true) (hl : (getL name es).isSome = true)
    (e : (putL name (PyData.keyHash w.params name) (.str name (s.toks + 1)) v es, putN name es n) = (es', n')) (hz : es'.length ≤ 1000)
    (h : ∀ h' : Heap, h'.Ns L m → h'.get? dx = some (dictOf es' n') → (∀ b o, b ≠ dx → b ≠ L → s.heap.get? b = some o → h'.get? b = some o) → Q () { s with heap := h', toks := s.toks + 2 }) :
    wpAny (model prog w) A (setAttr (.ref x) name v) Q E s := by
  obtain ⟨e1, e2⟩ := Prod.mk.inj e
  have hdx : s.heap.get? dx = some (dictOf es n) := by
    have := I.dict
    rw [hd] at this
    exact this
  refine set_plain X I hs (osa_dict (s := { s with toks := s.toks + 1 }) (h₀ := noObjs s.heap) (L := L) (m := m) (od := dictOf es n) (od' := dictOf es' n') (es := es') (n := n') (pre := []) (post := ledger s.heap L dx)
    (fr_all hL) (news_ledger hne hdx) X I hd hp ht hh hl (fun _ q => nomatch q) (fun ⟨_, _⟩ q => (mem_ledger.mp q).2.1) (by rw [putName_dict, e1, e2]) rfl hz fun h' F' N' => ?_)
  exact h h' F'.ns (N'.get (List.Mem.head _)) fun b o n1 n2 ho => N'.get (List.Mem.tail _ (mem_ledger.mpr ⟨n2, n1, ho⟩))
end
end Att

namespace L2
open PySem PySem.Spec PyProof.Rows

theorem vals_ints : ∀ {vs : List Value} {ns : List Int}, IntsAre vs ns → Vals (ns.map V.int) vs
  | _, _, .nil => .nil
  | _, _, .cons n t h => .cons ⟨t, rfl⟩ (vals_ints h)

/-- nothing is tracked but the script, known to the object (or it is an object of the module) -/
def Only (H : Hp) : Prop := ∀ b, H b = none ∨ ∃ o xs, H b = some (.frz o (.lst xs))

/-- THE HEAD: the law's promise, at the heap behind the top. F, the promise of the law's def, may use that base is part of the heap (so K.In base, base.Ns mainGlobals mg stand in Mod) -/
theorem law_call {P : Program} {w : World} {K : PySem.W.Frag} {mg mb : Str → Option Value} {CX : CXT} {k : Nat} {fa a : Addr} {fd : FuncData} {x : Str} {sp : Sp} {s₁ : Shared} {vs : List Value} {ns : List Int}
    (KX : K.In s₁.heap) (hns : s₁.heap.Ns mainGlobals mg) (hb : s₁.heap.Ns builtinsNs mb) (hbb : ∀ x : Str, x ≠ "__name__" → mb x = bootBuiltins x) (hlim : s₁.heap.NoLimit) (hg : s₁.gens = #[])
    (ha : s₁.heap.get? a = some { cls := .type "list", data := .seq vs.toArray }) (hi : IntsAre vs ns) (hl : ns.length ≤ sizeLine) (hr : Room k callerA)
    (F : ∀ base : Heap, K.In base → base.Ns mainGlobals mg → FnOk P w K mg base CX k fa fd [x] sp) (hbind : ∀ (s : Shared) (u : Value), BindsTo s fd ⟨[u], []⟩ [(x, u)])
    (hsp : ∀ H : Hp, Only H → SqL K H a (ns.map V.int) → sp [.ref a] H (fun v _ => v = .bl true) fun _ _ _ => False)
    (hCX : ∀ H e s', CX [] H s₁ (fun _ _ _ => False) e s' → False) :
    codeAny (model P w) callerA (.call (.ref fa) ⟨[.ref a], []⟩) (fun r s' => r = .ok (.ret (.bool true)) ∧ OldK s₁.heap s'.heap ∧ s'.os = s₁.os ∧ AllBare s'.gens) s₁ := by
  have rv := vals_ints hi
  have lenV := hi.length
  -- from an abstract heap in which nothing but the script may be tracked
  have core : ∀ H : Hp, Only H → SqL K H a (ns.map V.int) → HOk P w H s₁.heap → (∀ b, H b ≠ none → b = a) → (H a ≠ none → K.lookup a = none) →
      codeAny (model P w) callerA (.call (.ref fa) ⟨[.ref a], []⟩) (fun r s' => r = .ok (.ret (.bool true)) ∧ OldK s₁.heap s'.heap ∧ s'.os = s₁.os ∧ AllBare s'.gens) s₁ := by
    intro H hO hS hok hA hK
    have base_of : ∀ {b : Addr} {o : Obj}, s₁.heap.get? b = some o → H b = none → (hidT s₁.heap H).get? b = some o := fun e n => hidT_get e n
    have noA : ∀ {b : Addr} {o : Obj} {es : Array DictEntry} {ep : Nat}, s₁.heap.get? b = some o → o.data = .dict es ep → H b = none := fun {b o es ep} e d => by
      cases q : H b with
      | none => rfl
      | some u =>
        have e' : b = a := hA b (by rw [q]; simp)
        subst e'
        rw [ha] at e; cases e
        have d' : Data.seq vs.toArray _ = Data.dict es ep := d
        cases d'
    have nsK : ∀ {b : Addr} {m : Str → Option Value}, s₁.heap.Ns b m → (hidT s₁.heap H).Ns b m := fun {b m} ⟨o, es, ep, e, d, r⟩ => ⟨o, es, ep, base_of e (noA e d), d, r⟩
    have hKb : K.In (hidT s₁.heap H) := fun b o e => base_of (KX b o e) (by
      cases q : H b with
      | none => rfl
      | some u =>
        have e' : b = a := hA b (by rw [q]; simp)
        subst e'
        rw [hK (by rw [q]; simp)] at e; cases e)
    have hM : Mod K mg (hidT s₁.heap H) := ⟨hKb, nsK hns, ⟨mb, nsK hb, hbb⟩, let ⟨mc, h1, h2⟩ := hlim; ⟨mc, nsK h1, h2⟩⟩
    have e0 : Env0 P w K mg (hidT s₁.heap H) callerA [] s₁ H := ⟨rfl, hM, fun b o e => of_hidT e, Nat.le_of_eq (hidT_size _ _), trivial, fun b hb => absurd (show b ∈ ([] : List Addr) from hb) (by simp), hok, .of_eq hg⟩
    refine codeAny_mono ((F _ hKb (nsK hns)).run callerA [] s₁ H ⟨[.ref a], []⟩ [.ref a] [.ref a] _ _ hr e0 (hbind s₁ (.ref a)) (.cons rfl .nil) (hsp H hO hS)) fun r s' h => ?_
    cases r with
    | error e => exact (hCX H e s' h).elim
    | ok fl =>
      cases fl with
      | next => exact False.elim h
      | brk => exact False.elim h
      | cont => exact False.elim h
      | ret u =>
        obtain ⟨v, H', os, bare, un, hok', r', q⟩ := h
        have q' : v = .bl true := q
        subst q'
        obtain rfl : u = Value.bool true := r'
        refine ⟨rfl, OldK.of_keep fun b o e => ?_, os, bare⟩
        cases q : H b with
        | none => exact un.keep b o e q (by intro z; exact absurd (show b ∈ ([] : List Addr) from z) (by simp)) (by simp)
        | some u =>
          rcases hO b with z | ⟨ob, xs, z⟩
          · rw [q] at z; cases z
          · have z2 := un.frzs b ob _ z
            obtain ⟨e1, _⟩ := hok b _ z
            obtain ⟨e2, _⟩ := hok' b _ z2
            rw [e] at e1; cases e1
            exact e2
  cases hk : K.lookup a with
  | some o =>
    -- the script is one of the module's own objects
    have e := KX a o hk
    rw [ha] at e
    cases e
    refine core (fun _ => none) (fun _ => .inl rfl) (.inr ⟨_, vs.toArray, _, hk, rfl, rfl, rfl, by rw [List.size_toArray, lenV]; exact hl, by simpa using rv⟩) (fun b u z => by have z' : (none : Option HO) = some u := z; cases z') (fun b z => absurd rfl z) fun z => absurd rfl z
  | none =>
    refine core (fun b => if b = a then some (.frz { cls := .type "list", data := .seq vs.toArray } (.lst (ns.map V.int))) else none) (fun b => ?_) (.inl (.inr ⟨{ cls := .type "list", data := .seq vs.toArray }, if_pos rfl⟩)) (fun b u z => ?_) (fun b z => ?_) fun _ => hk
    · by_cases hb : b = a
      · exact .inr ⟨_, _, if_pos hb⟩
      · exact .inl (if_neg hb)
    · by_cases hb : b = a
      · have z' := (if_pos hb).symm.trans z
        cases z'
        subst hb
        exact ⟨ha, by rw [List.length_map]; exact hl, vs, _, rv, ha⟩
      · have z' := (if_neg hb).symm.trans z
        cases z'
    · by_cases hb : b = a
      · exact hb
      · exact absurd (if_neg hb) z
end L2

namespace L2
open PySem PySem.Spec PyProof.Rows

abbrev KOf {K : PySem.W.Frag} {h : Heap} (_ : K.In h) : PySem.W.Frag := K

/-- the goal that k_head leaves (case hc), from the law's promise. F gives the function object fd (K's own) once, then the promise over every base -/
theorem walk_of {l : PySem.W.OpenLaw} {n k : Nat} {q : Program} {loose : List Str} {XP : (Str → Option Value) → Heap → Prop} {YP : World → Heap → Prop} {d : DefRec} {K : Params → PySem.W.Frag} {CX : World → CXT} {sp : World → Sp} {x : Str}
    (hn : l.most = some n) (hn2 : n ≤ sizeLine) (hdf : d.params.defaults = []) (hr : Room k callerA)
    (hY : ∀ (w : World) (h : Heap), YP w h → (K w.params).In h)
    (F : ∀ (w : World) (mg : Str → Option Value) (fa : Addr) (h : Heap), (K w.params).In h → h.Ns mainGlobals mg → mg d.name = some (.ref fa) →
      ∃ fd : FuncData, (∀ (s : Shared) (u : Value), BindsTo s fd ⟨[u], []⟩ [(x, u)]) ∧
        ∀ base : Heap, (K w.params).In base → base.Ns mainGlobals mg → FnOk l.prog w (K w.params) mg base (CX w) k fa fd [x] (sp w))
    (hsp : ∀ (w : World) (H : Hp) (a : Addr) (ns : List Int), ns.length ≤ n → Only H → SqL (K w.params) H a (ns.map V.int) → sp w [.ref a] H (fun v _ => v = .bl true) fun _ _ _ => False)
    (hCX : ∀ (w : World) (H : Hp) (s : Shared) (e : Value) (s' : Shared), CX w [] H s (fun _ _ _ => False) e s' → False) :
    PySem.W.WalkO q loose XP YP l.row.toRowW d [] (fun f vs => PySem.call f vs) := by
  refine Att.attach_call hn hdf fun w s₀ s₁ mg mb fa o pm cd doc a vs ns G Y ho hd hcd hmg hobj hints hlen hg => ?_
  have KX := hY w _ Y
  obtain ⟨fd, hb, hF⟩ := F w mg fa _ KX G.T.g hmg
  exact law_call KX G.T.g G.T.b G.T.builtins G.T.nolimit hg hobj hints (Nat.le_trans hlen hn2) hr hF hb (fun H hO hS => hsp w H a ns hlen hO hS) fun H e s' => hCX w H s₁ e s'
/-- the same where the promise hangs on the written part alone: (sp := My.sp_law), no hole under a binder -/
theorem walk_ofK {l : PySem.W.OpenLaw} {n k : Nat} {q : Program} {loose : List Str} {XP : (Str → Option Value) → Heap → Prop} {YP : World → Heap → Prop} {d : DefRec} {K : Params → PySem.W.Frag} {CX : CXT} {sp : PySem.W.Frag → Sp} {x : Str}
    (hn : l.most = some n) (hn2 : n ≤ sizeLine) (hdf : d.params.defaults = []) (hr : Room k callerA)
    (hY : ∀ (w : World) (h : Heap), YP w h → (K w.params).In h)
    (F : ∀ (w : World) (mg : Str → Option Value) (fa : Addr) (h : Heap), (K w.params).In h → h.Ns mainGlobals mg → mg d.name = some (.ref fa) →
      ∃ fd : FuncData, (∀ (s : Shared) (u : Value), BindsTo s fd ⟨[u], []⟩ [(x, u)]) ∧
        ∀ base : Heap, (K w.params).In base → base.Ns mainGlobals mg → FnOk l.prog w (K w.params) mg base CX k fa fd [x] (sp (K w.params)))
    (hsp : ∀ (K : PySem.W.Frag) (H : Hp) (a : Addr) (ns : List Int), ns.length ≤ n → Only H → SqL K H a (ns.map V.int) → sp K [.ref a] H (fun v _ => v = .bl true) fun _ _ _ => False)
    (hCX : ∀ (H : Hp) (s : Shared) (e : Value) (s' : Shared), CX [] H s (fun _ _ _ => False) e s' → False) :
    PySem.W.WalkO q loose XP YP l.row.toRowW d [] (fun f vs => PySem.call f vs) :=
  walk_of (K := K) (CX := fun _ => CX) (sp := fun w => sp (K w.params)) hn hn2 hdf hr hY F (fun w H a ns h1 h2 h3 => hsp (K w.params) H a ns h1 h2 h3) fun _ H s e s' => hCX H s e s'
end L2



/-! SHORT WORDS over the layer: a def of the text, its body, what a loop and a test want. -/
namespace L2
open PySem PySem.Spec PyProof.Rows

/-! ### the text by places -/
/-- the j-th statement of a class's body -/
def inClass (s : Stmt) (j : Nat) : Stmt := match s with
  | .ClassDef _ _ _ body _ _ _ _ _ _ _ => body.getD j (.Pass ⟨0, 0, 0, 0⟩)
  | _ => .Pass ⟨0, 0, 0, 0⟩
def defArgs (s : Stmt) : Arguments := match s with
  | .FunctionDef _ a _ _ _ _ _ _ _ _ => a
  | _ => { posonlyargs := [], args := [], vararg := none, kwonlyargs := [], kw_defaults := [], kwarg := none, defaults := [] }
def defBody (s : Stmt) : List Stmt := match s with
  | .FunctionDef _ _ b _ _ _ _ _ _ _ => b
  | _ => []
def defScope (s : Stmt) : Scope := match s with
  | .FunctionDef _ _ _ _ _ _ sc _ _ _ => sc
  | _ => { kind := .function, names := [], isGenerator := false, isCoroutine := false }

/-! ### no exception leaves a def -/
abbrev CX0 : CXT := fun _ _ _ _ _ _ => False
abbrev E0 : XK := fun _ _ _ => False
theorem pass0 {X : Cx} : Passes CX0 X E0 := fun _ _ _ _ _ _ _ h => h.elim

/-! ### a def (or method) of the text as it stands behind the top -/
structure Fun (K : PySem.W.Frag) (x qual : Str) (st : Stmt) (f : Addr) (fd : FuncData) : Prop where
  ex : ∃ (oc : Value) (od : Option Addr) (kV doc pm : Value) (an : Option Addr) (cdv ct : Value) (osl : Array (Option Value)),
    fd = PySem.W.fnOf x qual (defArgs st) (defBody st) (defScope st) .none kV doc pm an cdv ct ∧ K.lookup f = some ⟨oc, od, .func fd, osl⟩ ∧ PySem.W.codeIn K cdv qual = true
  kp : PySem.W.keepIn K (.ref f) = true
section
variable {P : Program} {w : World} {K : PySem.W.Frag} {mg : Str → Option Value} {base : Heap}
/-- THE RULE for a def: its body as a term of rules, and the reading of that term -/
theorem Fun.ok {x qual : Str} {st : Stmt} {f : Addr} {fd : FuncData} {N ps : List Str} {k : Nat} {sp : Sp} (F : Fun K x qual st f fd) (S : FnScope N ps (defScope st)) (len : ∀ vs H Q E, sp vs H Q E → vs.length = ps.length)
    (hbody : ∀ (cdv : Value) (A : Around) (outer : List Env) (s : Shared) (H : Hp) (vs : List V) (Q : VK) (E : XK), Room k (A.deeper (envOfC qual (defScope st) s.heap.objs.size f cdv)) → sp vs H Q E →
      ∃ t, PSs (cxOf CX0 P w K mg base N qual (defScope st) f cdv A outer s H E).nox (defBody st) t ∧ t { nx := fun _ H' => Q .non H', rt := Q } (start N vs) H) : FnOk P w K mg base CX0 (k + 1) f fd ps sp := by
  obtain ⟨oc, od, kV, doc, pm, an, cdv, ct, osl, rfl, lk, hcd⟩ := F.ex
  refine fn_of lk hcd S len fun A outer s H vs Q E hr hsp => ?_
  obtain ⟨t, h, q⟩ := hbody cdv A outer s H vs Q E hr hsp
  exact ⟨t, h.nox, q⟩
/-- how its arguments bind (no defaults): h is «fun _ _ _ _ _ _ us hl => match us, hl with | [_, _], _ => rfl», one _ a parameter -/
theorem Fun.binds {x qual : Str} {st : Stmt} {f : Addr} {fd : FuncData} {ps : List Str} (F : Fun K x qual st f fd)
    (h : ∀ (kV doc pm : Value) (an : Option Addr) (cdv ct : Value) (us : List Value), us.length = ps.length → bindArgs (PySem.W.fnOf x qual (defArgs st) (defBody st) (defScope st) .none kV doc pm an cdv ct) ⟨us, []⟩ = pure (ps.zip us)) : Binds K fd ps [] := by
  obtain ⟨oc, od, kV, doc, pm, an, cdv, ct, osl, rfl, lk, hcd⟩ := F.ex
  exact .all (h kV doc pm an cdv ct)
theorem fun_mk {x qual : Str} {st : Stmt} {f : Addr} {oc : Value} {od an : Option Addr} {osl : Array (Option Value)} {kV doc pm cdv ct : Value} (l : K.lookup f = some ⟨oc, od, .func (PySem.W.fnOf x qual (defArgs st) (defBody st) (defScope st) .none kV doc pm an cdv ct), osl⟩)
    (c : PySem.W.codeIn K cdv qual = true) (k : PySem.W.keepIn K (.ref f) = true) : Fun K x qual st f (PySem.W.fnOf x qual (defArgs st) (defBody st) (defScope st) .none kV doc pm an cdv ct) := ⟨⟨oc, od, kV, doc, pm, an, cdv, ct, osl, rfl, l, c⟩, k⟩
end
theorem hu_of {A : Around} {k : Nat} (hr : Room k A) : A.units + 1 < cLine := Nat.lt_of_le_of_lt (Nat.add_le_add_left (by decide : 1 ≤ 64) _) hr.units
theorem small1000 {n : Nat} (h : n ≤ 1000) : n < sizeLine := Nat.lt_of_le_of_lt h (by decide)

/-! ### expressions in short: the name that stands in the i-th slot -/
section
variable {X : Cx}
theorem pv (i : Nat) {x : Str} {pos : Pos} (hN : X.N[i]? = some x := by rfl) (hv : Vis X.env.scope x := by first | exact Or.inl rfl | exact Or.inr (Or.inl rfl) | exact Or.inr (Or.inr rfl)) (hd : (x == ("__debug__" : Str)) = false := by decide)
    (hcd : (x == ("__classdict__" : Str)) = false := by decide) : PE X (.Name x pos) (tVar i) := pe_var hN hv hd hcd
end

/-! ### tests -/
theorem iteF {A B : Prop} (h : B) : if false = true then A else B := by
  rw [if_neg Bool.false_ne_true]
  exact h
theorem iteT {A B : Prop} (h : A) : if true = true then A else B := by
  rw [if_pos rfl]
  exact h
theorem ite2 {c A B : Prop} [Decidable c] (h1 : c → A) (h2 : ¬ c → B) : if c then A else B := by
  by_cases h : c
  · rw [if_pos h]
    exact h1 h
  · rw [if_neg h]
    exact h2 h
theorem iteNS {c A B : Prop} [Decidable c] (hc : c) (h : B) : if (!decide c) = true then A else B := by
  rw [decide_eq_true hc]
  exact iteF h

/-! ### heaps -/
/-- all that was tracked is as it was -/
def Same (H H' : Hp) : Prop := ∀ b o, H b = some o → H' b = some o
theorem Same.refl (H : Hp) : Same H H := fun _ _ h => h
theorem Same.trans {H H1 H2 : Hp} (a : Same H H1) (b : Same H1 H2) : Same H H2 := fun c o h => b c o (a c o h)
theorem Same.free {H H' : Hp} (e : Same H H') {l : Addr} (h : H' l = Option.none) : H l = Option.none := by
  cases q : H l with
  | none => rfl
  | some o =>
    rw [e l o q] at h
    cases h
theorem Same.seq {K : PySem.W.Frag} {H H' : Hp} {a : Addr} {xs : List V} (e : Same H H') (h : SqL K H a xs) : SqL K H' a xs := by
  rcases h with (h | ⟨o, h⟩) | h
  · exact .inl (.inl (e _ _ h))
  · exact .inl (.inr ⟨o, e _ _ h⟩)
  · exact .inr h

end L2

set_option Elab.async false
set_option linter.all false
set_option maxRecDepth 100000
namespace L2
open PySem PySem.Spec PyProof.Rows

/-! ## comprehensions: the closure -/
/-- the cells that a block takes along -/
def closL (cells : List (Str × Addr)) : List (Str × NameKind) → List (Str × Addr) → List (Str × Addr)
  | [], cs => cs
  | (n, k) :: r, cs => closL cells r (if k = .free then (n, (cells.lookup n).getD 0) :: cs else cs)

theorem clos_for (env : Env) : ∀ (l : List (Str × NameKind)) (cs : List (Str × Addr)), (∀ y ∈ l, y.2 = .free → ∃ c, env.cells.lookup y.1 = some c) →
    (forIn l cs fun (x : Str × NameKind) (r : List (Str × Addr)) => (if (x.2 == NameKind.free) = true then do
        let c ← cellOf env x.1
        pure (ForInStep.yield ((x.1, c) :: r)) else pure (ForInStep.yield r) : Sem (ForInStep (List (Str × Addr))))) = (pure (closL env.cells l cs) : Sem (List (Str × Addr)))
  | [], cs, _ => rfl
  | (n, k) :: r, cs, h => by
    rw [List.forIn_cons]
    by_cases hk : k = .free
    · obtain ⟨c, hc⟩ := h (n, k) List.mem_cons_self hk
      have e1 : cellOf env n = pure c := by unfold cellOf; rw [show env.cells.lookup n = some c from hc]
      subst hk
      simp only [beq_self_eq_true, if_true, e1, pure_bind]
      rw [clos_for env r _ fun y hy => h y (List.mem_cons_of_mem _ hy)]
      show _ = pure (closL env.cells r (if NameKind.free = .free then (n, (env.cells.lookup n).getD 0) :: cs else cs))
      rw [if_pos rfl, show env.cells.lookup n = some c from hc]
      rfl
    · have hb : (k == NameKind.free) = false := by simpa using hk
      simp only [hb, Bool.false_eq_true, if_false, pure_bind]
      rw [clos_for env r _ fun y hy => h y (List.mem_cons_of_mem _ hy)]
      show _ = pure (closL env.cells r (if k = .free then (n, (env.cells.lookup n).getD 0) :: cs else cs))
      rw [if_neg hk]

theorem closureFor_all {sc : Scope} {env : Env} (h : ∀ y ∈ sc.names, y.2 = .free → ∃ c, env.cells.lookup y.1 = some c) : closureFor sc env = pure (closL env.cells sc.names []) := by
  have e := clos_for env sc.names [] h
  simp only [closureFor]
  rw [e, pure_bind]

/-- what the closure holds is the enclosing def's -/
theorem closL_sound {cells : List (Str × Addr)} : ∀ {l : List (Str × NameKind)} {cs : List (Str × Addr)}, (∀ y ∈ l, y.2 = .free → ∃ c, cells.lookup y.1 = some c) → (∀ x c, cs.lookup x = some c → cells.lookup x = some c) →
    ∀ x c, (closL cells l cs).lookup x = some c → cells.lookup x = some c
  | [], cs, _, hc, x, c, e => hc x c e
  | (n, k) :: r, cs, h, hc, x, c, e => by
    refine closL_sound (l := r) (cs := if k = .free then (n, (cells.lookup n).getD 0) :: cs else cs) (fun y hy => h y (List.mem_cons_of_mem _ hy)) ?_ x c e
    intro z d q
    by_cases hk : k = .free
    · rw [if_pos hk, List.lookup_cons] at q
      cases hz : z == n with
      | true =>
        rw [hz] at q
        have ez : z = n := by simpa using hz
        obtain ⟨c', e'⟩ := h (n, k) List.mem_cons_self hk
        have e2 : cells.lookup n = some c' := e'
        rw [e2] at q
        rw [ez, e2]
        exact q
      | false => rw [hz] at q; exact hc z d q
    · rw [if_neg hk] at q; exact hc z d q
theorem closL_keep {cells : List (Str × Addr)} {x : Str} : ∀ {l : List (Str × NameKind)} {cs : List (Str × Addr)}, (∃ c, cs.lookup x = some c) → ∃ c, (closL cells l cs).lookup x = some c
  | [], _, h => h
  | (n, k) :: r, cs, h => by
    refine closL_keep (l := r) (cs := if k = .free then (n, (cells.lookup n).getD 0) :: cs else cs) ?_
    obtain ⟨c, e⟩ := h
    by_cases hk : k = .free
    · rw [if_pos hk, List.lookup_cons]
      cases x == n with
      | true => exact ⟨_, rfl⟩
      | false => exact ⟨c, e⟩
    · rw [if_neg hk]; exact ⟨c, e⟩
theorem closL_full {cells : List (Str × Addr)} {x : Str} : ∀ {l : List (Str × NameKind)} {cs : List (Str × Addr)}, (x, NameKind.free) ∈ l → ∃ c, (closL cells l cs).lookup x = some c
  | (n, k) :: r, cs, h => by
    show ∃ c, (closL cells r (if k = .free then (n, (cells.lookup n).getD 0) :: cs else cs)).lookup x = some c
    rcases List.mem_cons.mp h with e | h
    · cases e
      refine closL_keep ?_
      rw [if_pos rfl, List.lookup_cons, beq_self_eq_true]
      exact ⟨_, rfl⟩
    · exact closL_full h

/-! ## the names of a block -/
theorem lookup_mapK {g : Str → NameKind → NameKind} {x : Str} : ∀ l : List (Str × NameKind), (l.map fun p => (p.1, g p.1 p.2)).lookup x = (l.lookup x).map (g x)
  | [] => rfl
  | (n, k) :: r => by
    rw [List.map_cons, List.lookup_cons, List.lookup_cons]
    cases hx : x == n with
    | true =>
      have e : x = n := by simpa using hx
      rw [e]; rfl
    | false => exact lookup_mapK r
def relK (env : Env) (n : Str) (k : NameKind) : NameKind := if (k == .free && env.scope.kind == .function && env.kindOf n == some .cell) = true then .cell else k
theorem relabel_names (sc : Scope) (env : Env) : (relabel sc env).names = sc.names.map fun p => (p.1, relK env p.1 p.2) := by
  unfold relabel relK
  refine List.map_congr_left fun p _ => ?_
  obtain ⟨n, k⟩ := p
  dsimp only
  split <;> rfl
theorem relabel_lookup (sc : Scope) (env : Env) (x : Str) : (relabel sc env).names.lookup x = (sc.names.lookup x).map (relK env x) := by
  rw [relabel_names]; exact lookup_mapK _
theorem relK_free {env : Env} {n : Str} : relK env n .free = .cell ∨ relK env n .free = .free := by
  unfold relK; split
  · exact .inl rfl
  · exact .inr rfl
theorem relK_ne {env : Env} {n : Str} {k : NameKind} (h : k ≠ .free) : relK env n k = k := by
  unfold relK
  have e : (k == NameKind.free) = false := by simpa using h
  rw [e]; rfl

/-- a block's names are in order: S the enclosing def's scope, N its names, M the block's -/
def lcOk (S sc : Scope) (N M : List Str) : Bool :=
  sc.kind == .function && (sc.names.all fun y => y.2 != .cell) && (sc.names.all fun y => y.2 != .local || sc.names.lookup y.1 == some .local) &&
  (sc.names.all fun y => y.2 != .free || S.names.lookup y.1 == some .cell || S.names.lookup y.1 == some .free) &&
  (sc.names.all fun y => y.2 != .free || sc.names.lookup y.1 == some .free) &&
  decide (N.length ≤ M.length) && decide M.Nodup &&
  ((List.range M.length).all fun i => match M[i]? with
    | none => true
    | some x => match sc.names.lookup x with
      | some .free => N[i]? == some x
      | some .local => decide (N.length ≤ i)
      | _ => true)
structure LcOk (S sc : Scope) (N M : List Str) : Prop where
  kind : sc.kind = .function
  ncell : ∀ y ∈ sc.names, y.2 ≠ .cell
  loc : ∀ y ∈ sc.names, y.2 = .local → sc.names.lookup y.1 = some .local
  fr : ∀ y ∈ sc.names, y.2 = .free → S.names.lookup y.1 = some .cell ∨ S.names.lookup y.1 = some .free
  frl : ∀ y ∈ sc.names, y.2 = .free → sc.names.lookup y.1 = some .free
  le : N.length ≤ M.length
  nd : M.Nodup
  old : ∀ (i : Nat) x, M[i]? = some x → sc.names.lookup x = some .free → N[i]? = some x
  new : ∀ (i : Nat) x, M[i]? = some x → sc.names.lookup x = some .local → N.length ≤ i
theorem lcOk_of {S sc : Scope} {N M : List Str} (h : lcOk S sc N M = true) : LcOk S sc N M := by
  unfold lcOk at h
  simp only [Bool.and_eq_true, List.all_eq_true, decide_eq_true_eq] at h
  obtain ⟨⟨⟨⟨⟨⟨⟨h1, h2⟩, h3⟩, h4⟩, h4'⟩, h5⟩, h6⟩, h7⟩ := h
  have at7 : ∀ (i : Nat) x, M[i]? = some x → (match sc.names.lookup x with | some .free => N[i]? == some x | some .local => decide (N.length ≤ i) | _ => true) = true := fun i x e => by
    have := h7 i (List.mem_range.mpr (List.getElem?_eq_some_iff.mp e).1)
    rw [e] at this
    exact this
  refine ⟨by simpa using h1, fun y hy => by simpa using h2 y hy, fun y hy e => ?_, fun y hy e => ?_, fun y hy e => ?_, h5, h6, fun i x e k => ?_, fun i x e k => ?_⟩
  · have := h3 y hy; rw [e] at this; simpa using this
  · have := h4 y hy; rw [e] at this; simpa using this
  · have := h4' y hy; rw [e] at this; simpa using this
  · have := at7 i x e; rw [k] at this; simpa using this
  · have := at7 i x e; rw [k] at this; simpa using this

/-! ## the block's context -/
def cxLc (X : Cx) (sc : Scope) (C : Addr) (s : Shared) (H : Hp) (fp : List Addr) (M : List Str) : Cx :=
  { X with N := M, s₀ := s, H₀ := H, env := compEnvC sc (closL X.env.cells sc.names []) C X.env, outer := X.stack, ex := fp, fn := fun _ => false, pn := [], xe := fun _ _ => False }
end L2

set_option Elab.async false
set_option linter.all false
set_option maxRecDepth 100000
namespace L2
open PySem PySem.Spec PyProof.Rows
section
variable {X : Cx} {tg : Expr}

/-- the block's state at its entry -/
theorem lc_inv {pins : List (Addr × Obj)} {σ : St} {H : Hp} {s : Shared} {sc : Scope} {C : Addr} {fp : List Addr} {M : List Str} {h4 : Heap} {t4 : Nat} {m : Str → Option Value}
    (L : LcOk X.env.scope sc X.N M) (I : Inv X pins σ H s) (hf : ∀ b ∈ fp, FpOk X pins H b) (hfo : ∀ b ∈ fp, ∃ o, s.heap.get? b = some o)
    (hC : s.heap.objs.size ≤ C) (hk : ∀ b o, s.heap.get? b = some o → h4.get? b = some o) (hn : h4.Ns C m) :
    Inv (cxLc X sc C s H fp M) [] (σ ++ List.replicate (M.length - X.N.length) none) H { s with heap := h4, toks := t4 } := by
  have hcl : ∀ y ∈ sc.names, y.2 = .free → ∃ c, X.env.cells.lookup y.1 = some c := fun y hy e => I.ok.has y.1 (by
    rcases L.fr y hy e with z | z
    · exact .inl z
    · exact .inr z)
  have snd : ∀ x c, (closL X.env.cells sc.names []).lookup x = some c → X.env.cells.lookup x = some c := closL_sound hcl fun _ _ q => by cases q
  have kinds : ∀ x, ((relabel sc X.env).names.lookup x = some .cell ∨ (relabel sc X.env).names.lookup x = some .free) → sc.names.lookup x = some .free := fun x hx => by
    rw [relabel_lookup] at hx
    cases e : sc.names.lookup x with
    | none => rw [e] at hx; rcases hx with z | z <;> cases z
    | some k =>
      by_cases hk : k = .free
      · rw [hk]
      · rw [e] at hx
        have z0 : (some k).map (relK X.env x) = some k := by show some (relK X.env x k) = some k; rw [relK_ne hk]
        rw [z0] at hx
        rcases hx with z | z
        · cases z; exact absurd rfl (L.ncell _ (PySem.mem_of_lookup e))
        · cases z; exact absurd rfl hk
  have ok : (cxLc X sc C s H fp M).Ok := by
    refine ⟨I.ok.mod, ?_, I.ok.glob, I.ok.blt, hC, fun x y c h1 h2 => I.ok.inj x y c (snd x c h1) (snd y c h2), fun x hx => ?_, fun x c h1 _ => ?_, I.ok.hd, I.ok.frames, .inl rfl, fun b hb => ⟨?_, fun x c e => (hf b hb).2.2.2.2.1 x c (snd x c e)⟩,
      I.bs, Nat.le_trans I.ok.bsz I.sz, fun b o e hb => ?_, fun b hb z => ?_, I.stack, I.stkFree⟩
    · show (relabel sc X.env).kind = _
      unfold relabel; exact L.kind
    · exact closL_full (PySem.mem_of_lookup (kinds x hx))
    · cases h1
    · obtain ⟨o, e⟩ := hfo b hb
      exact Nat.ne_of_lt (Nat.lt_of_lt_of_le (Heap.lt_size e) hC)
    · rcases (hf b hb).2.2.2.1 with z | z
      · exact I.ok.noex b o e z
      · exact absurd (Heap.lt_size e) (Nat.not_lt.mpr (Nat.le_trans I.ok.bsz z))
    · rcases List.mem_cons.mp (I.stkSub b z) with q | q
      · exact (hf b hb).2.1 q
      · exact (hf b hb).2.2.1 q
  refine ⟨ok, rfl, I.bare, Un.kept hk, ⟨m, hn, fun i x v e1 e2 e3 => ?_⟩, fun x c e => ?_, I.hok.fresh hC, fun x c e => I.freeC x c (snd x c e), fun p hp => absurd (show p ∈ ([] : List (Addr × Obj)) from hp) (by simp), I.hok.kept hk, ?_⟩
  · have e1' : M[i]? = some x := e1
    have e3' : Vis (relabel sc X.env) x := e3
    have hi : i < σ.length := by
      by_cases hi : i < σ.length
      · exact hi
      · rw [List.getElem?_append_right (by omega), List.getElem?_replicate] at e2
        split at e2 <;> cases e2
    rw [List.getElem?_append_left hi] at e2
    rcases e3' with z | z
    · have z' : sc.names.lookup x = some .local := by
        rw [relabel_lookup] at z
        cases e : sc.names.lookup x with
        | none => rw [e] at z; cases z
        | some k =>
          rw [e] at z
          have z2 : relK X.env x k = .local := Option.some.inj z
          by_cases hk : k = .free
          · rw [hk] at z2
            rcases relK_free (env := X.env) (n := x) with q | q <;> (rw [q] at z2; cases z2)
          · rw [relK_ne hk] at z2; rw [z2]
      have := L.new i x e1' z'
      rw [I.len] at hi
      omega
    · have fr := kinds x z
      have mem := PySem.mem_of_lookup fr
      have hX := L.old i x e1' fr
      obtain ⟨mX, hnX, hl⟩ := I.loc
      have vis : Vis X.env.scope x := .inr (L.fr _ mem rfl)
      obtain ⟨u, r, l⟩ := hl i x v hX e2 vis
      refine ⟨u, r, .inr ⟨z, ?_⟩⟩
      obtain ⟨c', ec'⟩ := closL_full (cells := X.env.cells) (cs := []) mem
      rcases l with ⟨k, _⟩ | ⟨k, c, ec, cell⟩
      · have k' : X.env.scope.names.lookup x = some .local := k
        rcases L.fr _ mem rfl with q | q
        · have q' : X.env.scope.names.lookup x = some .cell := q
          rw [k'] at q'; cases q'
        · have q' : X.env.scope.names.lookup x = some .free := q
          rw [k'] at q'; cases q'
      · have e := snd x c' ec'
        rw [ec] at e; cases e
        exact ⟨_, ec', cell.keeps hk⟩
  · obtain ⟨v, q⟩ := I.cell x c (snd x c e)
    exact ⟨v, q.keeps hk⟩
  · show _ = M.length
    have := L.le
    rw [List.length_append, List.length_replicate, I.len]
    omega

/-- the tests of a block -/
def PIfs (X : Cx) (ifs : List Expr) (t : TT) : Prop :=
  ∀ (pins : List (Addr × Obj)) (s : Shared) (σ : St) (H : Hp) (Q : Bool → Hp → Prop), Inv X pins σ H s → t σ H Q →
    wpAny (model X.prog X.w) X.A (forIn ifs true fun c r => if r = true then do let ok ← isTrue c X.env (eval c X.env); pure (ForInStep.yield ok) else pure (ForInStep.yield r)) (TP X pins σ Q) X.xe s
def tTT : TT := fun _ H Q => Q true H
theorem pifs_nil : PIfs X [] tTT := fun _ _ _ H _ I h => wpAny_tests_nil ⟨H, I, h⟩
theorem pifs_one {c : Expr} {t : TT} (h : PT X c t) : PIfs X [c] t := fun pins s σ H Q I hw => wpAny_tests_one (h pins s σ H Q I hw)
end

section
variable {prog : Program} {w : World} {A : Around} {R : Result → Shared → Prop} {s : Shared}
/-- the loop of a block, its target any -/
theorem compLoop_own {elt target iter : Expr} {ifs : List Expr} {scope : Scope} {pos : Pos} {it acc : Value} {env : Env} (I : Nat → Shared → Prop)
    (turn : ∀ n s, I n s → wpAny (model prog w) A (pyNext it) (fun r s₁ => match r with
      | none => R (.ok .next) s₁
      | some v => wpAny (model prog w) A (letOwnedTupleGo target it v) (fun _ s₀ => wpAny (model prog w) A (assign target env v) (fun _ s₂ =>
          wpAny (model prog w) A (forIn ifs true fun c r => if r = true then do let ok ← isTrue c env (eval c env); pure (ForInStep.yield ok) else pure (ForInStep.yield r)) (fun ok s₃ =>
            if ok = true then wpAny (model prog w) A (eval elt env) (fun x s₄ =>
              wpAny (model prog w) A (call (.builtin "list.append") [acc, x]) (fun _ s₅ => ∃ m, m < n ∧ I m s₅) (fun _ _ => False) s₄) (fun _ _ => False) s₃
            else ∃ m, m < n ∧ I m s₃) (fun _ _ => False) s₂) (fun _ _ => False) s₀) (fun _ _ => False) s₁) (fun _ _ => False) s)
    (n : Nat) (h : I n s) :
    codeAny (model prog w) A (.compLoop (.ListComp elt [⟨target, iter, ifs, 0⟩] scope pos) 0 it acc env) R s := by
  refine codeAny_loop rfl I (fun n s hI => ?_) n h
  show wpAny _ A ((compTurn (.ListComp elt [⟨target, iter, ifs, 0⟩] scope pos) 0 it acc env).onRaise (fun x => do noteFrame x env; theTreesLotGoes x)) _ _ s
  refine wpAny_noted ?_
  rw [compTurn_list]
  refine wpAny_bind (wpAny_standAt (wpAny_bind (wpAny_mono (turn n s hI) (fun r s₁ h₁ => ?_) fun _ _ h' => h'.elim)))
  cases r with
  | none => exact wpAny_pure h₁
  | some v =>
    refine wpAny_bind (wpAny_mono h₁ (fun _ s₀ h₀ => ?_) fun _ _ h' => h'.elim)
    refine wpAny_bind (wpAny_mono h₀ (fun _ s₂ h₂ => wpAny_bind (wpAny_mono h₂ (fun ok s₃ h₃ => ?_) fun _ _ h' => h'.elim)) fun _ _ h' => h'.elim)
    cases ok with
    | false => exact wpAny_pure ⟨rfl, h₃⟩
    | true =>
      exact wpAny_bind (wpAny_bind (wpAny_mono h₃ (fun x s₄ h₄ => wpAny_bind (wpAny_mono h₄ (fun _ s₅ h₅ => wpAny_pure (wpAny_pure ⟨rfl, h₅⟩)) fun _ _ h' => h'.elim)) fun _ _ h' => h'.elim))
end

section
variable {X : Cx} {tg : Expr}
/-- W: the turn, a measure, what has been gathered, the block's names, the heap -/
def tLcB (J : It) (g : TG) (tc : TT) (te : TE) (k : Nat) (σ : St) (H1 : Hp) (Q : VK) : Prop :=
  ∃ W : Nat → Nat → List V → St → Hp → Prop, (∃ m, W 0 m [] (σ ++ List.replicate k none) H1) ∧ ∀ i m ys σ' H', W i m ys σ' H' →
    (J.stop i H' ∧ ∀ D, H' D = none → Q (.ref D) (upd H' D (.lst ys))) ∨
    (J.go i H' ∧ ys.length < sizeLine ∧ ∀ x H2, J.yld i H' x H2 → g x σ' H2 fun σ2 H3 => tc σ2 H3 fun b H4 =>
      if b = true then te σ2 H4 fun y H5 => ∃ m', m' < m ∧ W (i + 1) m' (ys ++ [y]) σ2 H5 else ∃ m', m' < m ∧ W (i + 1) m' ys σ2 H4)
def tLc (wi : TI) (g : TG) (tc : TT) (te : TE) (k : Nat) : TE := fun σ H Q => wi σ H fun J H1 => tLcB J g tc te k σ H1 Q

theorem lc_block {pins : List (Addr × Obj)} {σ : St} {H : Hp} {s : Shared} {elt iter : Expr} {ifs : List Expr} {sc : Scope} {pos : Pos} {it : Addr} {fp : List Addr} {tn : Nat → Heap → Prop} {J : It} {g : TG} {tc : TT} {te : TE} {M : List Str} {Q : VK}
    {RR : Value → Addr → Result → Shared → Prop} {E : Value → Shared → Prop}
    (L : LcOk X.env.scope sc X.N M) (hcalm : X.calm = true) (I : Inv X pins σ H s) (T : Turn X.prog X.w X.K tg J fp it tn) (st : tn 0 s.heap) (hf : ∀ b ∈ fp, FpOk X pins H b)
    (hg : ∀ C s H fp, PG (cxLc X sc C s H fp M) tg g) (hc : ∀ C s H fp, PIfs (cxLc X sc C s H fp M) ifs tc) (he : ∀ C s H fp, PE (cxLc X sc C s H fp M) elt te)
    (hw : tLcB J g tc te (M.length - X.N.length) σ H Q)
    (hRR : ∀ D C s' m H', s.heap.objs.size ≤ C → Inv X pins σ H' s' → H' C = none → s'.heap.Ns C m → Q (.ref D) H' → RR (.ref D) C (.ok .next) s') :
    wpAny (model X.prog X.w) X.A (newList []) (fun acc s3 => wpAny (model X.prog X.w) X.A (newFunctionEnv sc X.env.globals (closL X.env.cells sc.names []) [] X.env.qual none .none (some X.env)) (fun cenv s4 =>
      codeAny (model X.prog X.w) X.A (.compStart (.ListComp elt [⟨tg, iter, ifs, 0⟩] sc pos) 0 (.ref it) acc { cenv with scope := relabel sc X.env }) (RR acc cenv.locals) s4) E s3) E s := by
  refine wpAny_newObj_type (wpAny_newFunctionEnv L.ncell (by intro y hy; simp at hy) (fun h₁ hns hsb => ?_) L.kind)
  dsimp only at hns hsb ⊢
  generalize hH2 : s.heap.push { cls := .type "list", dict := none, data := .seq ([] : List Value).toArray } = G2 at hns hsb ⊢
  have hC : G2.objs.size = s.heap.objs.size + 1 := by rw [← hH2, Heap.size_push]
  have hfo : ∀ b ∈ fp, ∃ o, s.heap.get? b = some o := fun b hb => let ⟨o, e, _⟩ := T.obj 0 _ st b hb; ⟨o, e⟩
  have old : ∀ b o, s.heap.get? b = some o → h₁.get? b = some o := fun b o e =>
    hsb.extBut b o (Nat.ne_of_lt (Nat.lt_of_lt_of_le (Heap.lt_size e) (by omega))) (Heap.get?_push_of_some _ (hH2 ▸ Heap.get?_push_of_some _ e))
  have hacc : h₁.PlainList s.heap.objs.size ([] : List Value).toArray := ⟨_, hsb.extBut _ _ (Nat.ne_of_lt (by omega)) (Heap.get?_push_of_some _ (hH2 ▸ Heap.get?_push_size _ rfl))⟩
  have hCle : s.heap.objs.size ≤ G2.objs.size := by omega
  generalize hCC : G2.objs.size = C at hns hsb hC hCle ⊢
  generalize hDD : s.heap.objs.size = D at hacc hC hCle ⊢
  have I0 : Inv (cxLc X sc C s H fp M) [] (σ ++ List.replicate (M.length - X.N.length) none) H { s with heap := h₁, toks := s.toks + ([] : List (Str × Value)).length } := lc_inv L I hf hfo (by omega) old hns
  have hDC : D ≠ C := by omega
  have hDfs : D ∉ frs X.stack := fun hb => by
    obtain ⟨_, o, e, _⟩ := I.stack.mem hb
    have z : D < s.heap.objs.size := Heap.lt_size e
    rw [hDD] at z
    exact absurd z (Nat.lt_irrefl _)
  have hDfp : ∀ b ∈ fp, b ≠ D := fun b hb => by
    obtain ⟨o, e⟩ := hfo b hb
    have z : b < s.heap.objs.size := Heap.lt_size e
    rw [hDD] at z
    exact Nat.ne_of_lt z
  have hcells : ∀ x c, (cxLc X sc C s H fp M).env.cells.lookup x = some c → c ≠ D := fun x c e => by
    have hcl : ∀ y ∈ sc.names, y.2 = .free → ∃ c, X.env.cells.lookup y.1 = some c := fun y hy e => I.ok.has y.1 (by
      rcases L.fr y hy e with z | z
      · exact .inl z
      · exact .inr z)
    obtain ⟨v, q⟩ := I.cell x c (closL_sound hcl (fun _ _ q => by cases q) x c e)
    have z : c < s.heap.objs.size := q.lt
    rw [hDD] at z
    exact Nat.ne_of_lt z
  -- the iterator's own objects, in the block
  have stat : ∀ {o : Obj} {H' : Hp}, (∀ b ∈ fp, H' b = none) → ∀ b ∈ fp, FpOk (cxLc X sc C s H fp M) [(D, o)] H' b := fun {o H'} hn b hb => by
    refine ⟨hn b hb, (I0.ok.exf b hb).1, I0.ok.exfs b hb, .inl hb, (I0.ok.exf b hb).2, fun p hp => ?_⟩
    have e : p = (D, o) := by simpa using (show p ∈ ([] : List (Addr × Obj)) ++ [(D, o)] from hp)
    rw [e]; exact (hDfp b hb).symm
  obtain ⟨W, ⟨m0, w0⟩, hW⟩ := hw
  have loop : ∀ s₂ : Shared, s₂ = { s with heap := h₁, toks := s.toks + ([] : List (Str × Value)).length } →
      codeAny (model X.prog X.w) X.A (.compLoop (.ListComp elt [⟨tg, iter, ifs, 0⟩] sc pos) 0 (.ref it) (.ref D) (compEnvC sc (closL X.env.cells sc.names []) C X.env)) (RR (.ref D) C) s₂ := by
    rintro s₂ rfl
    refine compLoop_own (fun n s' => ∃ i ys σ' H' its, Inv (cxLc X sc C s H fp M) [] σ' H' s' ∧ tn i s'.heap ∧ (∀ b ∈ fp, H' b = none) ∧ s'.heap.PlainList D (List.toArray its) ∧ H' D = none ∧ Vals ys its ∧ ys.length ≤ sizeLine ∧ W i n ys σ' H') ?_ m0
      ⟨0, [], _, H, [], I0, T.keep 0 _ _ st fun b _ o e => old b o e, fun b hb => (hf b hb).1, hacc, I.hok.fresh (by omega), .nil, Nat.zero_le _, w0⟩
    rintro n s' ⟨i, ys, σ', H', its, I', st', fr', pl', nD, rv, hz, w'⟩
    obtain ⟨kk, eD⟩ := id pl'
    have ID : Inv (cxLc X sc C s H fp M) [(D, { cls := .type "list", data := .seq its.toArray kk })] σ' H' s' := I'.pins_of fun p hp => by
      have e : p = (D, { cls := .type "list", data := .seq its.toArray kk }) := by simpa using hp
      rw [e]
      exact ⟨eD, nD, hDC, hDfs, fun v z => by cases z⟩
    rcases hW i n ys σ' H' w' with ⟨stop, q⟩ | ⟨go, hlt, step⟩
    · refine wpAny_mono (T.done (cxLc X sc C s H fp M) rfl rfl rfl hcalm i _ s' σ' H' (fun _ _ => False) ID (stat fr') st' stop) (fun r s1 ⟨hr, I1⟩ => ?_) fun _ _ f => f
      subst hr
      obtain ⟨m, hn1, _⟩ := I1.loc
      have pD := I1.pin (D, { cls := .type "list", data := .seq its.toArray kk }) (by show _ ∈ ([] : List (Addr × Obj)) ++ _; simp)
      have eC : H' C = none := I1.free
      have hIX : Inv X pins σ (upd H' D (.lst ys)) s1 := by
        refine I.call' (ch := fp) I1.os ⟨I1.base.keep, I1.base.slot, fun b o e n hx => ?_, I1.base.there, fun b xs e => ?_, fun b o u e => ?_, fun b ps e => ?_⟩ (fun b o e => ?_) I1.bare fun b hb => ⟨(hf b hb).2.2.2.1, (hf b hb).2.1, (hf b hb).2.2.2.2.1, (hf b hb).2.2.2.2.2⟩
        · have : b ≠ D := by
            have z : b < s.heap.objs.size := Heap.lt_size (show s.heap.get? b = some o from e)
            rw [hDD] at z
            exact Nat.ne_of_lt z
          rw [upd_ne this]
          exact I1.base.free b o e n hx
        · have z := I1.base.tups b xs e
          rw [upd_ne (ne_of_none z nD)]; exact z
        · have z := I1.base.frzs b o u e
          rw [upd_ne (ne_of_none z nD)]; exact z
        · obtain ⟨more, z⟩ := I1.base.tbls b ps e
          exact ⟨more, by rw [upd_ne (ne_of_none z nD)]; exact z⟩
        · by_cases hb : b = D
          · subst hb
            rw [upd_same] at e; cases e
            exact ⟨hz, its, kk, rv, pD.1⟩
          · rw [upd_ne hb] at e
            exact (I1.hok b o e).stay (fun _ _ _ q => q) (fun c q => by rw [upd_ne (ne_of_none q nD)]; exact q) fun c xs q => by rw [upd_ne (ne_of_none q nD)]; exact q
      exact hRR D C s1 m _ (by omega) hIX (by rw [upd_ne hDC.symm]; exact eC) hn1 (q D nD)
    · refine wpAny_mono (T.item (cxLc X sc C s H fp M) rfl rfl rfl hcalm i _ s' σ' H' (fun _ _ => False) ID (stat fr') st' go) (fun r s1 ⟨u, hr, h4⟩ => ?_) fun _ _ f => f
      subst hr
      refine wpAny_mono h4 (fun _ s2 ⟨x, H2, I2, r2, y2, st2, fr2⟩ => ?_) fun _ _ f => f
      have I2' := I2.pinned (stat fr2) (T.obj _ _ st2)
      refine wpAny_mono (hg C s H fp _ s2 σ' H2 x u _ I2' r2 (step x H2 y2)) (fun _ s3 ⟨σ3, H3, I3, q3⟩ => ?_) fun _ _ f => f
      refine wpAny_mono (hc C s H fp _ s3 σ3 H3 _ I3 q3) (fun ok s4 ⟨H4, I4, q4⟩ => ?_) fun _ _ f => f
      -- what the pins say
      have pinD : ∀ {σ5 : St} {H5 : Hp} {s5 : Shared}, Inv (cxLc X sc C s H fp M) ([(D, { cls := .type "list", data := .seq its.toArray kk })] ++ pinsAt fp s2.heap) σ5 H5 s5 →
          s5.heap.get? D = some { cls := .type "list", data := .seq its.toArray kk } ∧ H5 D = none := fun {σ5 H5 s5} I5 => by
        have z := I5.pin (D, { cls := .type "list", data := .seq its.toArray kk }) (by show _ ∈ ([] : List (Addr × Obj)) ++ _; simp)
        exact ⟨z.1, z.2.1⟩
      have pinF : ∀ {σ5 : St} {H5 : Hp} {s5 : Shared}, Inv (cxLc X sc C s H fp M) ([(D, { cls := .type "list", data := .seq its.toArray kk })] ++ pinsAt fp s2.heap) σ5 H5 s5 →
          tn (i + 1) s5.heap ∧ ∀ b ∈ fp, H5 b = none := fun {σ5 H5 s5} I5 => by
        refine ⟨T.keep _ _ _ st2 fun b hb o e => (I5.pin (b, o) (List.mem_append_right _ (List.mem_append_right _ (mem_pinsAt hb e)))).1, fun b hb => ?_⟩
        obtain ⟨o, e, d⟩ := T.obj _ _ st2 b hb
        exact (I5.pin (b, o) (List.mem_append_right _ (List.mem_append_right _ (mem_pinsAt hb e)))).2.1
      cases ok with
      | false =>
        rw [if_neg Bool.false_ne_true] at q4
        obtain ⟨m', hm, w4⟩ := q4
        rw [if_neg Bool.false_ne_true]
        exact ⟨m', hm, i + 1, ys, σ3, H4, its, I4.pins_of (fun p hp => absurd hp (by simp)), (pinF I4).1, (pinF I4).2, ⟨kk, (pinD I4).1⟩, (pinD I4).2, rv, hz, w4⟩
      | true =>
        rw [if_pos rfl] at q4
        rw [if_pos rfl]
        refine wpAny_mono (he C s H fp _ s4 σ3 H4 _ I4 q4) (fun yv s5 ⟨y, H5, I5, r5, m', hm, w5⟩ => ?_) fun _ _ f => f
        have hsz : its.toArray.size ≤ sizeLine := by rw [List.size_toArray, ← rv.length]; exact hz
        refine wpAny_list_append_plain (hsz := hsz) ⟨kk, (pinD I5).1⟩ fun h6 hpl hs6 => ?_
        have I6 : Inv (cxLc X sc C s H fp M) [] σ3 H5 { s5 with heap := h6, toks := s5.toks } := (I5.pins_of (pins' := []) (fun p hp => absurd hp (by simp))).turned (it := D) (fun b o hb e => (hs6.2 b hb).trans e) (pinD I5).2 hDC (.inr (by show s.heap.objs.size ≤ D; omega)) hcells
          fun p hp => absurd (show p ∈ ([] : List (Addr × Obj)) ++ [] from hp) (by simp)
        refine ⟨m', hm, i + 1, ys ++ [y], σ3, H5, its ++ [yv], I6, T.keep _ _ _ (pinF I5).1 fun b hb o e => (hs6.2 b (hDfp b hb)).trans e, (pinF I5).2, ?_, (pinD I5).2, rv.append (.cons r5 .nil), ?_, w5⟩
        · have e : (its ++ [yv]).toArray = its.toArray.push yv := by simp
          rw [e]; exact hpl
        · rw [List.length_append, List.length_singleton]; omega
  have st1 : tn 0 h₁ := T.keep 0 _ _ st fun b _ o e => old b o e
  exact codeAny_compStart_list (loop _ rfl) (T.self X.A 0 _ _ _ st1 (loop _ rfl))

theorem lc_clos {pins : List (Addr × Obj)} {σ : St} {H : Hp} {s : Shared} {sc : Scope} {M : List Str} (L : LcOk X.env.scope sc X.N M) (I : Inv X pins σ H s) : closureFor sc X.env = pure (closL X.env.cells sc.names []) :=
  closureFor_all fun y hy e => I.ok.has y.1 (by
    rcases L.fr y hy e with z | z
    · exact .inl z
    · exact .inr z)
/-- the block's frame is let go -/
theorem lc_after {pins : List (Addr × Obj)} {σ : St} {H H0 : Hp} {s0 s' : Shared} {C : Addr} {h' : Heap} (I0 : Inv X pins σ H0 s0) (I : Inv X pins σ H s') (hC : s0.heap.objs.size ≤ C) (nC : H C = none) (hs : Heap.SameBut C s'.heap h') : Inv X pins σ H { s' with heap := h' } := by
  refine I.turned (t' := s'.toks) (it := C) (fun b o hb e => (hs.2 b hb).trans e) nC ?_ (.inr (Nat.le_trans I0.sz hC)) (fun x c e => ?_) fun p hp => ?_
  · exact Nat.ne_of_gt (Nat.lt_of_lt_of_le I0.lt hC)
  · obtain ⟨v, q⟩ := I0.cell x c e
    exact Nat.ne_of_lt (Nat.lt_of_lt_of_le q.lt hC)
  · exact Nat.ne_of_lt (Nat.lt_of_lt_of_le (Heap.lt_size (I0.pin p hp).1) hC)

/-- [elt for tg in iter if ..] -/
theorem pe_lc {elt iter : Expr} {ifs : List Expr} {sc : Scope} {pos : Pos} {wi : TI} {g : TG} {tc : TT} {te : TE} {M : List Str} (hcalm : X.calm = true) (L : LcOk X.env.scope sc X.N M) (hi : PI X tg iter wi)
    (hg : ∀ C s H fp, PG (cxLc X sc C s H fp M) tg g) (hc : ∀ C s H fp, PIfs (cxLc X sc C s H fp M) ifs tc) (he : ∀ C s H fp, PE (cxLc X sc C s H fp M) elt te)
    (hs : ∀ x, foldedSetIterable iter X.env x = pure x := by intro _; rfl) :
    PE X (.ListComp elt [⟨tg, iter, ifs, 0⟩] sc pos) (tLc wi g tc te (M.length - X.N.length)) := by
  intro pins s σ H Q I h
  rw [eval_ListComp]
  refine wpAny_comprehension_free (use := none) rfl hs (lc_clos L I) L.kind L.loc (thn (hi pins s σ H _ I h) fun v s1 h1 => thn h1 fun itv s2 h2 => ?_)
  obtain ⟨it, fp, tn, J, H2, e, I2, T, st2, f2, hw⟩ := h2
  subst e
  refine lc_block (RR := fun acc C => compPost (model X.prog X.w) X.A X.xe none (EP X pins σ Q) acc C) L hcalm I2 T st2 f2 hg hc he hw fun D C s' m H' hC I' nC hn hq => ?_
  exact ⟨m, hn, fun h' hs' => ⟨.ref D, H', lc_after I2 I' hC nC hs', rfl, hq⟩⟩

/-- x = [elt for tg in iter if ..] where the store comes ahead of the block's names -/
theorem ps_lc {elt iter : Expr} {ifs : List Expr} {sc : Scope} {pos spos py : Pos} {wi : TI} {g : TG} {tc : TT} {te : TE} {M : List Str} {i : Nat} {y : Str} (hN : X.N.Nodup) (hy : X.N[i]? = some y) (hyl : X.env.scope.names.lookup y = some .local)
    (hcalm : X.calm = true) (L : LcOk X.env.scope sc X.N M) (hi : PI X tg iter wi)
    (hg : ∀ C s H fp, PG (cxLc X sc C s H fp M) tg g) (hc : ∀ C s H fp, PIfs (cxLc X sc C s H fp M) ifs tc) (he : ∀ C s H fp, PE (cxLc X sc C s H fp M) elt te)
    (hsw : swapsWith (.ListComp elt [⟨tg, iter, ifs, 0⟩] sc pos) (some (.Name y py)) spos.line X.env = pure true := by rfl)
    (hs : ∀ x, foldedSetIterable iter X.env x = pure x := by intro _; rfl) :
    PS X (.Assign [.Name y py] (.ListComp elt [⟨tg, iter, ifs, 0⟩] sc pos) spos) (tAsg (tLc wi g tc te (M.length - X.N.length)) (gName i)) := by
  intro pins s σ H D I h
  rw [exec_Assign_Name_used _ _ _ _ hsw]
  refine wpAny_bind (wpAny_standAt (wpAny_bind ?_))
  show wpAny _ X.A (do let _ ← comprehension (.ListComp elt [⟨tg, iter, ifs, 0⟩] sc pos) sc X.env _ (newList []) false (eval iter X.env) (some (assign (.Name y py) X.env))) _ _ s
  refine wpAny_bind (wpAny_mono (wpAny_comprehension_free (use := some (assign (.Name y py) X.env)) (Q := fun _ s' => SP X pins D .next s') rfl hs (lc_clos L I) L.kind L.loc
    (thn (hi pins s σ H _ I h) fun v s1 h1 => thn h1 fun itv s2 h2 => ?_)) (fun _ s' hq => wpAny_pure (wpAny_pure hq)) fun _ _ e => e)
  obtain ⟨it, fp, tn, J, H2, e, I2, T, st2, f2, hw⟩ := h2
  subst e
  refine lc_block (RR := fun acc C => compPost (model X.prog X.w) X.A X.xe (some (assign (.Name y py) X.env)) (fun _ s' => SP X pins D .next s') acc C) L hcalm I2 T st2 f2 hg hc he hw fun a C s' m H' hC I' nC hn hq => ?_
  show wpAny _ X.A (assign (.Name y py) X.env (.ref a)) _ _ _
  have cneq : C ≠ X.env.locals := Nat.ne_of_gt (Nat.lt_of_lt_of_le I2.lt hC)
  refine wpAny_assign_Name (store_ok2 I' hN hy (.inl hyl) (v := .ref a) rfl (fun s'' I'' ⟨b, sb, hb⟩ => ?_) (.inr hyl))
  have hbC : C ≠ b := by
    rcases hb with z | z
    · rw [z]; exact cneq
    · obtain ⟨v, q⟩ := I2.cell y b z
      exact Nat.ne_of_gt (Nat.lt_of_lt_of_le q.lt hC)
  refine ⟨m, hn.sameBut sb hbC, fun h' hs' => ⟨σ.set i (some (.ref a)), H', ?_, hq⟩⟩
  refine I''.turned (t' := s''.toks) (it := C) (fun b o hb e => (hs'.2 b hb).trans e) nC cneq (.inr (Nat.le_trans I2.sz hC)) (fun x c e => ?_) fun p hp => ?_
  · obtain ⟨v, q⟩ := I2.cell x c e
    exact Nat.ne_of_lt (Nat.lt_of_lt_of_le q.lt hC)
  · exact Nat.ne_of_lt (Nat.lt_of_lt_of_le (Heap.lt_size (I2.pin p hp).1) hC)
end
end L2

set_option Elab.async false
set_option linter.all false
set_option maxRecDepth 100000
namespace L2
open PySem PySem.Spec PyProof.Rows
section
variable {X : Cx}

/-! ## any, all, sum -/
theorem bools_of {bs : List Bool} : ∀ {us : List Value}, Vals (bs.map V.bl) us → LSm.BoolsAre us bs := by
  induction bs with
  | nil => intro us r; cases r; exact .nil
  | cons b bs ih =>
    intro us r
    rw [List.map_cons] at r
    cases r with
    | cons r1 r2 =>
      cases r1
      exact .cons b (ih r2)
section
variable {prog : Program} {w : World} {A : Around} {E : Value → Shared → Prop} {s : Shared} {l : Addr} {vs : List Value} {bs : List Bool} {Q : Value → Shared → Prop}
theorem any_own (hh : A.handled = none) (hl : s.heap.IsList l vs.toArray) (hb : LSm.BoolsAre vs bs)
    (h : ∀ h' tk, (∀ b x, s.heap.get? b = some x → h'.get? b = some x) → Q (.bool (bs.any id)) { s with heap := h', toks := tk }) :
    wpAny (model prog w) A (call (.builtin "any") [.ref l]) Q E s := by
  have hlt : l < s.heap.objs.size := by obtain ⟨_, e, _⟩ := hl; exact Heap.lt_size e
  refine call_any_walk (wpAny_pyIter_list hl ⟨s.heap.objs.size, [s.heap.objs.size, l], [s.heap.objs.size], vs.toArray.size, _, _, fun i => (bs[i]?).getD false, rfl,
    Walks.list (A := A.in1) hh _ l (Nat.ne_of_lt hlt) vs.toArray, ⟨⟨_, Heap.get?_push_size _ rfl, rfl, rfl⟩, hl.push _⟩, fun i v s' Q' E' hP hQ => ?_, fun h' tk hk => ?_⟩)
  · obtain ⟨b, e, rfl⟩ := hb.get i v (by simpa using hP)
    simp only [e, Option.getD_some] at hQ
    exact wpAny_truthy_bool hQ
  · have e : ((List.range vs.toArray.size).any fun i => (bs[i]?).getD false) = bs.any id := by
      rw [List.size_toArray, hb.length]; exact LSm.range_any bs
    rw [e]
    exact h h' tk (LSm.kept_iter hk)
theorem all_own (hh : A.handled = none) (hl : s.heap.IsList l vs.toArray) (hb : LSm.BoolsAre vs bs)
    (h : ∀ h' tk, (∀ b x, s.heap.get? b = some x → h'.get? b = some x) → Q (.bool (bs.all id)) { s with heap := h', toks := tk }) :
    wpAny (model prog w) A (call (.builtin "all") [.ref l]) Q E s := by
  have hlt : l < s.heap.objs.size := by obtain ⟨_, e, _⟩ := hl; exact Heap.lt_size e
  refine call_all_walk (wpAny_pyIter_list hl ⟨s.heap.objs.size, [s.heap.objs.size, l], [s.heap.objs.size], vs.toArray.size, _, _, fun i => (bs[i]?).getD true, rfl,
    Walks.list (A := A.in1) hh _ l (Nat.ne_of_lt hlt) vs.toArray, ⟨⟨_, Heap.get?_push_size _ rfl, rfl, rfl⟩, hl.push _⟩, fun i v s' Q' E' hP hQ => ?_, fun h' tk hk => ?_⟩)
  · obtain ⟨b, e, rfl⟩ := hb.get i v (by simpa using hP)
    simp only [e, Option.getD_some] at hQ
    exact wpAny_truthy_bool hQ
  · have e : ((List.range vs.toArray.size).all fun i => (bs[i]?).getD true) = bs.all id := by
      rw [List.size_toArray, hb.length]; exact LSm.range_all bs
    rw [e]
    exact h h' tk (LSm.kept_iter hk)
theorem sum_own {ns : List Int} (hh : A.handled = none) (hl : s.heap.IsList l vs.toArray) (hi : IntsAre vs ns)
    (h : ∀ h' tk t', (∀ b x, s.heap.get? b = some x → h'.get? b = some x) → Q (.int ns.sum t') { s with heap := h', toks := tk }) :
    wpAny (model prog w) A (call (.builtin "sum") [.ref l]) Q E s := by
  obtain ⟨xs, hx⟩ := hi.allInts.items
  have hl' : s.heap.IsList l (intItems xs) := hx ▸ hl
  refine sum_intListG hh hl' fun h' tk t' hk => ?_
  have e1 : ns = xs.toList.map (·.1) := by
    rw [← nums_intItems, ← hx]
    exact (show numsOf vs.toArray.toList = ns from hi.numsOf).symm
  have e2 : preSum (numAt xs) xs.size = ns.sum := by rw [preSum_eq, List.take_of_length_le (by simp), e1]
  rw [e2]
  exact h h' tk t' hk
end
def rAny (K : PySem.W.Frag) : List V → Hp → VK → Prop := fun xs H Q => ∃ (p : Addr) (bs : List Bool), xs = [.ref p] ∧ SqL K H p (bs.map V.bl) ∧ Q (.bl (bs.any id)) H
def rAll (K : PySem.W.Frag) : List V → Hp → VK → Prop := fun xs H Q => ∃ (p : Addr) (bs : List Bool), xs = [.ref p] ∧ SqL K H p (bs.map V.bl) ∧ Q (.bl (bs.all id)) H
def rSum (K : PySem.W.Frag) : List V → Hp → VK → Prop := fun xs H Q => ∃ (p : Addr) (ns : List Int), xs = [.ref p] ∧ SqL K H p (ns.map V.int) ∧ Q (.int ns.sum) H
theorem call_any (hc : X.calm = true) : CallR X (.builtin "any") (rAny X.K) := by
  intro pins s σ H xs us Q I r h
  obtain ⟨p, bs, rfl, hq, q⟩ := h
  obtain ⟨u, rfl, ru⟩ := r.one
  cases ru
  obtain ⟨its, rv, pl, hz⟩ := I.list hq
  exact any_own (I.ok.hd hc) pl.isList (bools_of rv) fun h' tk hk => ⟨.bl _, H, I.kept hk, rfl, q⟩
theorem call_all (hc : X.calm = true) : CallR X (.builtin "all") (rAll X.K) := by
  intro pins s σ H xs us Q I r h
  obtain ⟨p, bs, rfl, hq, q⟩ := h
  obtain ⟨u, rfl, ru⟩ := r.one
  cases ru
  obtain ⟨its, rv, pl, hz⟩ := I.list hq
  exact all_own (I.ok.hd hc) pl.isList (bools_of rv) fun h' tk hk => ⟨.bl _, H, I.kept hk, rfl, q⟩
theorem call_sum (hc : X.calm = true) : CallR X (.builtin "sum") (rSum X.K) := by
  intro pins s σ H xs us Q I r h
  obtain ⟨p, ns, rfl, hq, q⟩ := h
  obtain ⟨u, rfl, ru⟩ := r.one
  cases ru
  obtain ⟨its, rv, pl, hz⟩ := I.list hq
  exact sum_own (I.ok.hd hc) pl.isList (intsAre_of rv) fun h' tk t' hk => ⟨.int _, H, I.kept hk, ⟨t', rfl⟩, q⟩

/-! ## range(n), list(range(n)) -/
def rRange1 : List V → Hp → VK → Prop := fun xs H Q => ∃ j : Int, xs = [.int j] ∧ ∀ p, H p = none → Q (.ref p) (upd H p (.rng 0 j))
theorem call_range1 : CallR X (.type "range") rRange1 := by
  intro pins s σ H xs us Q I r h
  obtain ⟨j, rfl, q⟩ := h
  obtain ⟨u, rfl, ru⟩ := r.one
  obtain ⟨t, rfl⟩ := ru
  refine call_range_1 ⟨.ref s.heap.objs.size, _, I.laid (o := .rng 0 j) (fun b u e => Heap.get?_push_of_some _ e) (Nat.le_refl _) ?_, rfl, q _ (I.hok.fresh (Nat.le_refl _))⟩
  exact ⟨_, _, _, Heap.get?_push_size _ rfl⟩
/-- 0, 1, .. as values -/
def upto (n : Nat) : List V := (List.range n).map fun (i : Nat) => V.int (i : Int)
theorem upto_length (n : Nat) : (upto n).length = n := by unfold upto; rw [List.length_map, List.length_range]
def rListRng : List V → Hp → VK → Prop := fun xs H Q => ∃ (p : Addr) (j : Int), xs = [.ref p] ∧ H p = some (.rng 0 j) ∧ 0 ≤ j ∧ j ≤ 1000 ∧ ∀ l, H l = none → Q (.ref l) (upd H l (.lst (upto j.toNat)))
theorem vals_items {acc : Array Value} {n : Nat} (h : ItemsOf (fun i v => ∃ t, v = Value.int (0 + i * 1) t) acc n) : Vals (upto n) acc.toList := by
  have key : ∀ (k : Nat) (l : List Value) (o : Nat), l.length = k → (∀ (i : Nat) v, l[i]? = some v → ∃ t, v = Value.int (((o + i : Nat)) : Int) t) → Vals ((List.range k).map fun (i : Nat) => V.int ((o + i : Nat) : Int)) l := by
    intro k
    induction k with
    | zero => intro l o hl _; rw [List.length_eq_zero_iff.mp hl]; exact .nil
    | succ k ih =>
      intro l o hl hi
      match l, hl with
      | v :: r, hl =>
        rw [List.range_succ_eq_map, List.map_cons, List.map_map]
        refine .cons ?_ ?_
        · obtain ⟨t, e⟩ := hi 0 v rfl
          exact ⟨t, e⟩
        · have := ih r (o + 1) (by simpa using hl) fun i u e => by
            obtain ⟨t, q⟩ := hi (i + 1) u (by simpa using e)
            exact ⟨t, by rw [q]; congr 1; omega⟩
          have e : ((List.range k).map fun (i : Nat) => V.int ((o + 1 + i : Nat) : Int)) = (List.range k).map ((fun (i : Nat) => V.int ((o + i : Nat) : Int)) ∘ Nat.succ) := by
            refine List.map_congr_left fun i _ => ?_
            show V.int _ = V.int _
            congr 1
            simp only [Nat.succ_eq_add_one]
            omega
          rw [← e]; exact this
  have := key n acc.toList 0 (by rw [Array.length_toList]; exact h.1) fun i v e => by
    obtain ⟨t, q⟩ := h.2 i v (by simpa using e)
    exact ⟨t, by rw [q]; congr 1; omega⟩
  unfold upto
  have e : ((List.range n).map fun (i : Nat) => V.int ((0 + i : Nat) : Int)) = (List.range n).map fun (i : Nat) => V.int (i : Int) := List.map_congr_left fun i _ => by rw [Nat.zero_add]
  rw [← e]; exact this
theorem call_list_rng (hc : X.calm = true) : CallR X (.type "list") rListRng := by
  intro pins s σ H xs us Q I r h
  obtain ⟨p, j, rfl, hp, j0, j1, q⟩ := h
  obtain ⟨u, rfl, ru⟩ := r.one
  cases ru
  obtain ⟨t, u, v, e⟩ := (show ObjOk X.prog X.w H s.heap p (.rng 0 j) from I.hok p _ hp)
  have hn : Builtin.Range.rangeSize 0 j 1 = (j.toNat : Int) := by rw [rangeSize_one]; split <;> omega
  refine call_list_range (n := j.toNat) (I.ok.hd hc) (show IsRange s.heap p 0 j 1 t u v from e) (small_one (by omega) (by omega) (by omega) (by omega)) hn (by omega) fun h' tk acc c hk hl ha => ?_
  have hf : H s.heap.objs.size = none := I.hok.fresh (Nat.le_refl _)
  have rv := vals_items ha
  refine ⟨.ref s.heap.objs.size, _, I.laid (o := .lst (upto j.toNat)) hk (Nat.le_refl _) ?_, rfl, q _ hf⟩
  refine ⟨by rw [upto_length]; exact Nat.le_of_lt (small1000 (by omega)), acc.toList, c, rv, ?_⟩
  rw [hl, Array.toArray_toList]

/-! ## isinstance -/
def isiB (t c : String) : Bool := t == c || (t == "bool" && c == "int")
def rIsi (K : PySem.W.Frag) : List V → Hp → VK → Prop := fun xs H Q => ∃ x t c k, xs = [x, .ty c] ∧ TyOf K H x (.type t) ∧ (c = "int" ∨ c = "bool" ∨ c = "list") ∧ isiB t c = k ∧ Q (.bl k) H
theorem call_isi : CallR X (.builtin "isinstance") (rIsi X.K) := by
  intro pins s σ H xs us Q I r h
  obtain ⟨x, t, c, k0, rfl, ty, hc, ek, q⟩ := h
  obtain ⟨u, v, rfl, ru, rv⟩ := r.two
  cases rv
  rw [← ek] at q
  have fin : ∀ {k : Bool}, isiB t c = k → EP X pins σ Q (.bool k) s := fun e => ⟨.bl _, H, I, rfl, e ▸ q⟩
  have fin' : ∀ {k : Bool} {tk : Nat}, isiB t c = k → EP X pins σ Q (.bool k) { s with toks := tk } := fun e => ⟨.bl _, H, I.tok _, rfl, e ▸ q⟩
  cases ty with
  | int i =>
    obtain ⟨tk, rfl⟩ := ru
    rcases hc with rfl | rfl | rfl
    · exact IsiPair.int_int (fin rfl)
    · exact IsiPair.int_bool (fin' rfl)
    · exact IsiPair.int_list (fin' rfl)
  | bl b =>
    cases ru
    rcases hc with rfl | rfl | rfl
    · exact IsiPair.bool_int (fin rfl)
    · exact IsiPair.bool_bool (fin rfl)
    · exact IsiPair.bool_list (fin' rfl)
  | @lst a ys e =>
    cases ru
    obtain ⟨_, _, n, _, h1⟩ := (show ObjOk X.prog X.w H s.heap a (.lst ys) from I.hok a _ e)
    rcases hc with rfl | rfl | rfl
    · exact IsiPair.list_int h1 rfl (fin' rfl)
    · exact IsiPair.list_bool h1 rfl (fin' rfl)
    · exact IsiPair.list_list h1 rfl (fin rfl)
  | @frz a o ys e =>
    cases ru
    obtain ⟨_, _, _, n, _, h1⟩ := (show ObjOk X.prog X.w H s.heap a (.frz o (.lst ys)) from I.hok a _ e)
    rcases hc with rfl | rfl | rfl
    · exact IsiPair.list_int h1 rfl (fin' rfl)
    · exact IsiPair.list_bool h1 rfl (fin' rfl)
    · exact IsiPair.list_list h1 rfl (fin rfl)
  | non =>
    cases ru
    rcases hc with rfl | rfl | rfl
    · exact IsiPair.NoneType_int (fin' rfl)
    · exact IsiPair.NoneType_bool (fin' rfl)
    · exact IsiPair.NoneType_list (fin' rfl)
  | str z =>
    obtain ⟨tk, rfl⟩ := ru
    rcases hc with rfl | rfl | rfl
    · exact IsiPair.str_int (fin' rfl)
    · exact IsiPair.str_bool (fin' rfl)
    · exact IsiPair.str_list (fin' rfl)
  | flt z =>
    obtain ⟨tk, rfl⟩ := ru
    rcases hc with rfl | rfl | rfl
    · exact IsiPair.float_int (fin' rfl)
    · exact IsiPair.float_bool (fin' rfl)
    · exact IsiPair.float_list (fin' rfl)
  | @tup a ys e =>
    cases ru
    obtain ⟨_, _, _, pp⟩ := (show ObjOk X.prog X.w H s.heap a (.tup ys) from I.hok a _ e)
    obtain ⟨o, h1, h2, _⟩ := pp
    rcases hc with rfl | rfl | rfl
    · exact IsiPair.tuple_int h1 h2 (fin' rfl)
    · exact IsiPair.tuple_bool h1 h2 (fin' rfl)
    · exact IsiPair.tuple_list h1 h2 (fin' rfl)
  | @dK a kvs e =>
    cases ru
    obtain ⟨_, _, vs, _, pp⟩ := (show ObjOk X.prog X.w H s.heap a (.dK kvs) from I.hok a _ e)
    obtain ⟨o, es, ep, h1, h2, _⟩ := pp
    rcases hc with rfl | rfl | rfl
    · exact IsiPair.dict_int h1 h2.1 (fin' rfl)
    · exact IsiPair.dict_bool h1 h2.1 (fin' rfl)
    · exact IsiPair.dict_list h1 h2.1 (fin' rfl)
  | @dT a kvs e =>
    cases ru
    obtain ⟨_, _, xs, _, o, es, ep, h1, h2, _⟩ := (show ObjOk X.prog X.w H s.heap a (.dT kvs) from I.hok a _ e)
    rcases hc with rfl | rfl | rfl
    · exact IsiPair.dict_int h1 h2.1 (fin' rfl)
    · exact IsiPair.dict_bool h1 h2.1 (fin' rfl)
    · exact IsiPair.dict_list h1 h2.1 (fin' rfl)

/-! ## lists of ints compared -/
def rNeL (K : PySem.W.Frag) : R2 := fun x y H Q => ∃ (p q : Addr) (ns ms : List Int), x = .ref p ∧ y = .ref q ∧ SqL K H p (ns.map V.int) ∧ SqL K H q (ms.map V.int) ∧ Q (.bl (!decide (ns = ms))) H
def rEqL (K : PySem.W.Frag) : R2 := fun x y H Q => ∃ (p q : Addr) (ns ms : List Int), x = .ref p ∧ y = .ref q ∧ SqL K H p (ns.map V.int) ∧ SqL K H q (ms.map V.int) ∧ Q (.bl (decide (ns = ms))) H
theorem all_same {ns ms : List Int} (h : ns.length = ms.length) : ((List.range ns.length).all fun j => ns.getD j 0 == ms.getD j 0) = decide (ns = ms) := by
  rw [Bool.eq_iff_iff, List.all_eq_true, decide_eq_true_eq]
  constructor
  · intro q
    refine List.ext_getElem h fun i h1 h2 => ?_
    have := q i (List.mem_range.mpr h1)
    simp only [List.getD_eq_getElem?_getD, List.getElem?_eq_getElem h1, List.getElem?_eq_getElem h2, Option.getD_some, beq_iff_eq] at this
    exact this
  · intro q i _
    rw [q]; simp
theorem get_int {ns : List Int} {its : List Value} (r : Vals (ns.map V.int) its) {j : Nat} (h : j < its.toArray.size) : ∃ t, its.toArray[j] = Value.int (ns.getD j 0) t := by
  have hj : j < its.length := by simpa using h
  have hn : j < ns.length := by have := r.length; rw [List.length_map] at this; omega
  obtain ⟨u, e, q⟩ := r.get (i := j) (x := .int ns[j]) (by rw [List.getElem?_map, List.getElem?_eq_getElem hn]; rfl)
  obtain ⟨t, rfl⟩ := q
  refine ⟨t, ?_⟩
  have e2 : its[j]? = some its[j] := List.getElem?_eq_getElem hj
  rw [e2] at e
  have e3 : its[j] = Value.int ns[j] t := Option.some.inj e
  simp only [List.getElem_toArray, e3, List.getD_eq_getElem?_getD, List.getElem?_eq_getElem hn, Option.getD_some]
theorem op_neL (hu : X.A.units < cLine) : OpR X (compareOp .NotEq) (rNeL X.K) := by
  intro pins s σ H x y v u Q I rx ry h
  obtain ⟨p, q, ns, ms, rfl, rfl, h1, h2, hq⟩ := h
  cases rx
  cases ry
  obtain ⟨its, r1, p1, _⟩ := I.list h1
  obtain ⟨its2, r2, p2, _⟩ := I.list h2
  have l1 := r1.length
  have l2 := r2.length
  rw [List.length_map] at l1 l2
  by_cases hl : ns.length = ms.length
  · have R := SeqAt.RcNeAt.lists (A := X.A) (s := s) (e := fun j => ns.getD j 0 == ms.getD j 0) p1.isList p2.isList (by rw [List.size_toArray, List.size_toArray, ← l1, ← l2, hl]) hu fun j a b => by
      obtain ⟨t, e⟩ := get_int r1 a
      obtain ⟨t', e'⟩ := get_int r2 b
      rw [e, e']
      exact SeqAt.EqAt.int_int _ _ _ _
    refine R X.prog X.w X.xe _ ?_
    rw [List.size_toArray, ← l1, all_same hl]
    exact ⟨.bl _, H, I, rfl, hq⟩
  · have R := SeqAt.RcNeAt.lists_lengths (A := X.A) (s := s) p1.isList p2.isList (by rw [List.size_toArray, List.size_toArray, ← l1, ← l2]; simpa using hl) hu
    refine R X.prog X.w X.xe _ ⟨.bl true, H, I, rfl, ?_⟩
    have e : decide (ns = ms) = false := decide_eq_false fun z => hl (by rw [z])
    rw [e] at hq
    exact hq
theorem op_eqL (hu : X.A.units < cLine) : OpR X (compareOp .Eq) (rEqL X.K) := by
  intro pins s σ H x y v u Q I rx ry h
  obtain ⟨p, q, ns, ms, rfl, rfl, h1, h2, hq⟩ := h
  cases rx
  cases ry
  obtain ⟨its, r1, p1, _⟩ := I.list h1
  obtain ⟨its2, r2, p2, _⟩ := I.list h2
  have l1 := r1.length
  have l2 := r2.length
  rw [List.length_map] at l1 l2
  by_cases hl : ns.length = ms.length
  · refine SeqAt.eq_listAt (e := fun j => ns.getD j 0 == ms.getD j 0) p1.isList p2.isList (by rw [List.size_toArray, List.size_toArray, ← l1, ← l2, hl]) hu (fun j a b => ?_) ?_
    · obtain ⟨t, e⟩ := get_int r1 a
      obtain ⟨t', e'⟩ := get_int r2 b
      rw [e, e']
      exact SeqAt.EqAt.int_int _ _ _ _
    · rw [List.size_toArray, ← l1, all_same hl]
      exact ⟨.bl _, H, I, rfl, hq⟩
  · refine SeqAt.eq_list_lengthsAt p1.isList p2.isList (by rw [List.size_toArray, List.size_toArray, ← l1, ← l2]; simpa using hl) hu ⟨.bl false, H, I, rfl, ?_⟩
    have e : decide (ns = ms) = false := decide_eq_false fun z => hl (by rw [z])
    rw [e] at hq
    exact hq

/-! ## xs[::-1] -/
def tRev (K : PySem.W.Frag) (te : TE) : TE := fun σ H Q => te σ H fun x H1 => ∃ a xs, x = .ref a ∧ SqL K H1 a xs ∧ ∀ p, H1 p = none → Q (.ref p) (upd H1 p (.lst xs.reverse))
theorem pe_rev {e : Expr} {te : TE} {pos p2 p3 p4 : Pos} {k : Nat} (he : PE X e te) : PE X (.Subscript e (.Slice none none (some (.UnaryOp .USub (.Constant (.int 1) k p3) p4)) p2) pos) (tRev X.K te) := by
  intro pins s σ H Q I h
  refine Subscript_ (thn (he pins s σ H _ I h) fun v s1 ⟨x, H1, I1, r1, q1⟩ => ?_)
  obtain ⟨a, xs, rfl, hx, q⟩ := q1
  cases r1
  refine wpAny_Slice ?_
  rw [evalPart_none]
  refine wpAny_pure (wpAny_pure ?_)
  rw [evalPart_some]
  refine UnaryOp_ (wpAny_Constant_int (neg_int ?_))
  obtain ⟨its, rv, pl, hz⟩ := I1.list hx
  have I4 : Inv X pins σ H1 { s1 with heap := s1.heap.push { cls := .type "slice", data := .fields #[.none, .none, .int (-1) (s1.toks + 1)] }, toks := s1.toks + 1 + 1 } := I1.kept fun b ob q => Heap.get?_push_of_some _ q
  obtain ⟨its', rv', pl', hz'⟩ := I4.list hx
  have hT : Shared.TypeIs { s1 with heap := s1.heap.push { cls := .type "slice", data := .fields #[.none, .none, .int (-1) (s1.toks + 1)] }, toks := s1.toks + 1 + 1 } (.ref a) "list" := pl'.isList.typeIs
  refine tail_any (T := "list") hT slot_list_getitem.lookup ?_ (by with_unfolding_all rfl)
  refine wpAny_getItem_list_slice pl'.isList (Heap.IsSliceOf.new ..) .none .none (.int (-1) _) (by decide) ?_ (by rw [List.size_toArray, ← rv'.length]; exact hz')
  rw [PySem.W.krv_pick]
  refine ⟨.ref _, _, I4.laid (t' := s1.toks + 1 + 1) (o := .lst xs.reverse) (fun b ob q => Heap.get?_push_of_some _ q) (Nat.le_refl _) ?_, rfl, q _ (I4.hok.fresh (Nat.le_refl _))⟩
  refine ⟨by rw [List.length_reverse]; exact hz', its'.reverse, 0, rv'.reverse, ?_⟩
  have e : its'.toArray.toList.reverse.toArray = its'.reverse.toArray := by simp
  rw [← e]
  exact Heap.get?_push_size _ rfl

/-! ## enumerate -/
/-- the pairs of a list's places and items -/
def Ite (K : PySem.W.Frag) (a : Addr) : It :=
  ⟨fun i H => ∃ xs x, SqL K H a xs ∧ xs[i]? = some x, fun i H y H' => ∃ p x, H p = none ∧ y = .ref p ∧ H' = upd H p (.tup [.int (i : Nat), x]) ∧ ∀ xs, SqL K H a xs → xs[i]? = some x, fun i H => ∃ xs, SqL K H a xs ∧ xs.length ≤ i⟩
theorem turn_enum {P : Program} {w : World} {K : PySem.W.Frag} {els : List Expr} {x1 : Nat} {pt : Pos} (a e it : Addr) (hne : e ≠ it) :
    Turn P w K (.Tuple els x1 pt) (Ite K a) [e, it] e (fun i h => (∃ old, IsEnum h e it ((i : Nat) : Int) old) ∧ h.IsListIter it a i) where
  mem := by simp
  obj := fun i h st b hb => by
    obtain ⟨⟨old, he⟩, ⟨o, e1, c, d⟩⟩ := st
    rcases List.mem_cons.mp hb with z | z
    · rw [z]; exact ⟨_, he, fun v z => by cases z⟩
    · have z' : b = it := by simpa using z
      rw [z']; exact ⟨o, e1, fun v z => by rw [d] at z; cases z⟩
  keep := fun i h h' st k => by
    obtain ⟨⟨old, he⟩, hit⟩ := st
    exact ⟨⟨old, k e (by simp) _ he⟩, hit.at fun o q => k it (by simp) o q⟩
  item := by
    intro X hP hw hK hc i pins s σ H E I hf st hg
    subst hP hw hK
    obtain ⟨xs, x, hq, hx⟩ := hg
    obtain ⟨its, rv, pl, hz⟩ := I.list hq
    obtain ⟨u, hu, ru⟩ := rv.get hx
    obtain ⟨⟨old, he⟩, hit⟩ := st
    have fe := hf e (by simp)
    have fi := hf it (by simp)
    refine wpAny_pyNext_enum_item he hit pl.isList (x := u) (by simpa using hu) hne fun h' heo hit' ht' hsz hk' => ⟨_, rfl, ?_⟩
    refine wpAny_letOwnedTupleGo_enum heo fun h2 he2 hs2 => ?_
    have lte : e < s.heap.objs.size := Heap.lt_size he
    have lti : it < s.heap.objs.size := by obtain ⟨o, q, _⟩ := hit; exact Heap.lt_size q
    have hfr : H s.heap.objs.size = none := I.hok.fresh (Nat.le_refl _)
    have kk : ∀ b o, b ≠ e → b ≠ it → s.heap.get? b = some o → h2.get? b = some o := fun b o h1 h3 q => (hs2.2 b h1).trans (hk' b o h1 h3 q)
    have pt2 : h2.get? s.heap.objs.size = some { cls := .type "tuple", data := .seq #[.int i s.toks, u] } := (hs2.2 _ (Nat.ne_of_gt lte)).trans ht'
    have I1 : Inv X pins σ (upd H s.heap.objs.size (.tup [.int (i : Nat), x])) { s with heap := h2, toks := s.toks + 1 } := by
      refine I.step (g' := s.gens) (d' := s.drawn) (ch := [e, it]) (fun b hb => ?_) (fun b o _ _ hc q _ => kk b o (fun z => hc (by simp [z])) (fun z => hc (by simp [z])) q) (fun b o _ _ hc q _ => ⟨o.slots, kk b o (fun z => hc (by simp [z])) (fun z => hc (by simp [z])) q⟩)
        (fun b o hc q n => by rw [upd_ne (Nat.ne_of_lt (Heap.lt_size q))]; exact n) (fun b o hc q => ⟨o, kk b o (fun z => hc (by simp [z])) (fun z => hc (by simp [z])) q⟩) (fun b ys q => by rw [upd_ne (ne_of_none q hfr)]; exact q) (fun b o u q => by rw [upd_ne (ne_of_none q hfr)]; exact q)
        (fun b ps q => ⟨#[], by rw [upd_ne (ne_of_none q hfr), q]; simp⟩) (fun m hm => ?_) (fun b o q => ?_) I.bare
      · rcases List.mem_cons.mp hb with z | z
        · rw [z]; exact ⟨fe.2.2.2.1, fe.2.1, fe.2.2.2.2.1, fe.2.2.2.2.2⟩
        · have z' : b = it := by simpa using z
          rw [z']; exact ⟨fi.2.2.2.1, fi.2.1, fi.2.2.2.2.1, fi.2.2.2.2.2⟩
      · obtain ⟨o, es, ep, ho, r⟩ := hm
        exact ⟨o, es, ep, kk _ o (Ne.symm fe.2.1) (Ne.symm fi.2.1) ho, r⟩
      · by_cases hb : b = s.heap.objs.size
        · subst hb
          rw [upd_same] at q; cases q
          refine ⟨by show 2 ≤ sizeLine; decide, [.int i s.toks, u], .cons ⟨_, rfl⟩ (.cons ru .nil), ⟨_, pt2, rfl, _, rfl⟩⟩
        · rw [upd_ne hb] at q
          refine (I.hok b o q).stay (fun c v hc z => kk c v ?_ ?_ z) (fun c z => by rw [upd_ne (ne_of_none z hfr)]; exact z) fun c ys z => by rw [upd_ne (ne_of_none z hfr)]; exact z
          · rintro rfl
            rcases hc with z' | z'
            · rw [← z', fe.1] at q; cases q
            · rw [fe.1] at z'; cases z'
          · rintro rfl
            rcases hc with z' | z'
            · rw [← z', fi.1] at q; cases q
            · rw [fi.1] at z'; cases z'
    refine ⟨.ref s.heap.objs.size, _, I1, rfl, ⟨_, x, hfr, rfl, rfl, fun ys hy => by rw [I.list_inj hy hq]; exact hx⟩, ⟨⟨u, ?_⟩, hit'.extBut hs2.extBut (Ne.symm hne)⟩, fun b hb => ?_⟩
    · have ec : (((i + 1 : Nat)) : Int) = (i : Int) + 1 := by omega
      rw [ec]; exact he2
    · rcases List.mem_cons.mp hb with z | z
      · rw [z, upd_ne (Nat.ne_of_lt lte)]; exact fe.1
      · have z' : b = it := by simpa using z
        rw [z', upd_ne (Nat.ne_of_lt lti)]; exact fi.1
  done := by
    intro X hP hw hK hc i pins s σ H E I hf st hg
    subst hP hw hK
    obtain ⟨xs, hq, hx⟩ := hg
    obtain ⟨its, rv, pl, hz⟩ := I.list hq
    obtain ⟨⟨old, he⟩, hit⟩ := st
    have fi := hf it (by simp)
    have hl := rv.length
    exact wpAny_pyNext_enum_end (I.ok.hd hc) he hit pl.isList (by simp; omega) fun h' eb => ⟨rfl, I.turned (t' := s.toks) (fun b o hb q => eb b o hb q) fi.1 fi.2.1 fi.2.2.2.1 fi.2.2.2.2.1 fi.2.2.2.2.2⟩
  self := fun _ _ _ _ _ st h => by
    obtain ⟨⟨old, he⟩, _⟩ := st
    exact wpAny_pyIter_enum he h
def iEnum (K : PySem.W.Frag) (ta : TA) : TI := fun σ H R => ta σ H fun vs H1 => ∃ a xs, vs = [.ref a] ∧ SqL K H1 a xs ∧ R (Ite K a) H1
theorem pi_enum {els : List Expr} {x1 : Nat} {pt : Pos} {a : Expr} {ta : TA} {p pos : Pos} (hg : Gl X "enumerate") (hm : X.mg "enumerate" = none) (ha : PA X [a] ta) (hs : starEach [a] X.env = [(false, eval a X.env)] := by rfl) :
    PI X (.Tuple els x1 pt) (.Call (.Name "enumerate" p) [a] [] pos) (iEnum X.K ta) := by
  intro pins s σ H R I h
  refine Call_ (ld_blt I hg hm boot_enumerate (PyProof.Rows.callWith_type1 (thn (ha pos pins s σ H _ I h) fun us s1 ⟨vs, H1, I1, r1, q1⟩ => ?_) hs rfl))
  obtain ⟨l, xs, e, hq, q⟩ := q1
  subst e
  obtain ⟨u, rfl, ru⟩ := r1.one
  cases ru
  obtain ⟨its, rv, pl, hz⟩ := I1.list hq
  refine call_enumerate_list pl.isList fun h' he hit hsz hk => wpAny_pyIter_enum he ?_
  have I2 : Inv X pins σ H1 { s1 with heap := h' } := I1.kept (t' := s1.toks) hk
  refine ⟨s1.heap.objs.size + 1, [s1.heap.objs.size + 1, s1.heap.objs.size], _, _, H1, rfl, I2, turn_enum l _ _ (Nat.ne_of_gt (Nat.lt_succ_self _)), ⟨⟨_, he⟩, hit⟩, fun b hb => ?_, q⟩
  have hge : s1.heap.objs.size ≤ b := by
    rcases List.mem_cons.mp hb with z | z
    · rw [z]; exact Nat.le_succ _
    · have z' : b = s1.heap.objs.size := by simpa using z
      rw [z']; exact Nat.le_refl _
  exact I1.fpOk hge (I1.hok.fresh hge)
end
end L2

set_option Elab.async false
set_option linter.all false
set_option maxRecDepth 100000
namespace Wv
open PySem
/-! ## groups as ints, as the text reckons them -/
def hasB (g m : Int) : Bool := decide (Builtin.bitAnd (g / 2 ^ m.toNat) 1 = 1)
def withinB (s l : Int) : Bool := decide (Builtin.bitAnd s l = s)
def carrB (gs : List Int) (g : Int) : Bool := gs.any fun o => withinB o g
/-- 0, 1, .. below n -/
def up (n : Nat) : List Int := (List.range n).map fun (i : Nat) => (i : Int)
theorem mem_up {n : Nat} {x : Int} : x ∈ up n ↔ 0 ≤ x ∧ x < n := by
  unfold up
  rw [List.mem_map]
  constructor
  · rintro ⟨i, hi, rfl⟩
    have := List.mem_range.mp hi
    omega
  · rintro ⟨h0, h1⟩
    exact ⟨x.toNat, List.mem_range.mpr (by omega), by omega⟩
theorem up_length (n : Nat) : (up n).length = n := by unfold up; rw [List.length_map, List.length_range]
theorem up_get {n i : Nat} (h : i < n) : (up n)[i]? = some (i : Int) := by
  unfold up
  rw [List.getElem?_map, List.getElem?_range h]
  rfl
theorem up_succ (n : Nat) : up (n + 1) = up n ++ [(n : Int)] := by
  unfold up
  rw [List.range_succ, List.map_append]
  rfl
def tabOf (n : Nat) (gs : List Int) : List Bool := (up (2 ^ n)).map (carrB gs)
theorem tabOf_length (n : Nat) (gs : List Int) : (tabOf n gs).length = 2 ^ n := by unfold tabOf; rw [List.length_map, up_length]
def at_ (tb : List Bool) (g : Int) : Bool := tb.getD g.toNat false
theorem at_tab {n : Nat} {gs : List Int} {g : Int} (h0 : 0 ≤ g) (h1 : g < ((2 ^ n : Nat) : Int)) : at_ (tabOf n gs) g = carrB gs g := by
  unfold at_ tabOf
  have hi : g.toNat < 2 ^ n := by omega
  rw [List.getD_eq_getElem?_getD, List.getElem?_map, up_get hi]
  have e : ((g.toNat : Nat) : Int) = g := by omega
  rw [e]
  rfl
/-- members in a group, out of it -/
def ins (n : Nat) (g : Int) : List Int := (up n).filter (hasB g)
def outs (n : Nat) (g : Int) : List Int := (up n).filter fun m => !hasB g m
def leastBy (f : Int → Int → Int) (n : Nat) (tb : List Bool) : List Int := (up (2 ^ n)).filter fun g => at_ tb g && !((ins n g).map fun m => at_ tb (f g m)).any id
def greatBy (f : Int → Int → Int) (n : Nat) (tb : List Bool) : List Int := (up (2 ^ n)).filter fun g => !at_ tb g && ((outs n g).map fun m => at_ tb (f g m)).all id

theorem bits_in : ∀ g : Fin 32, ∀ m : Fin 5, hasB (g.val : Int) (m.val : Int) = true → ((g.val : Int) - 1 * 2 ^ ((m.val : Int)).toNat = Builtin.bitXor g.val (1 * 2 ^ ((m.val : Int)).toNat) ∧ 0 ≤ (g.val : Int) - 1 * 2 ^ ((m.val : Int)).toNat) := by decide +kernel
theorem bits_out : ∀ n : Fin 6, ∀ g : Fin 32, ∀ m : Fin 5, g.val < 2 ^ n.val → m.val < n.val → hasB (g.val : Int) (m.val : Int) = false →
    ((g.val : Int) + 1 * 2 ^ ((m.val : Int)).toNat = Builtin.bitOr g.val (1 * 2 ^ ((m.val : Int)).toNat) ∧ (g.val : Int) + 1 * 2 ^ ((m.val : Int)).toNat < ((2 ^ n.val : Nat) : Int)) := by decide +kernel
theorem bits_sub : ∀ o : Fin 32, ∀ g : Fin 32, withinB o.val g.val = true → ∀ m : Fin 5, hasB (o.val : Int) (m.val : Int) = true → hasB (g.val : Int) (m.val : Int) = true := by decide +kernel
theorem pow5 : ∀ n : Fin 6, 2 ^ n.val ≤ 32 := by decide
theorem two_le {n : Nat} (h : n ≤ 5) : 2 ^ n ≤ 32 := pow5 ⟨n, by omega⟩
section
variable {n : Nat} {g m : Int}
theorem sub_ok (hn : n ≤ 5) (hg : g ∈ up (2 ^ n)) (hm : m ∈ ins n g) : g - 1 * 2 ^ m.toNat = Builtin.bitXor g (1 * 2 ^ m.toNat) ∧ 0 ≤ g - 1 * 2 ^ m.toNat ∧ g - 1 * 2 ^ m.toNat < ((2 ^ n : Nat) : Int) := by
  have h5 := two_le hn
  obtain ⟨g0, g1⟩ := mem_up.mp hg
  unfold ins at hm
  rw [List.mem_filter] at hm
  obtain ⟨m0, m1⟩ := mem_up.mp hm.1
  have e1 : ((g.toNat : Nat) : Int) = g := by omega
  have e2 : ((m.toNat : Nat) : Int) = m := by omega
  have q := bits_in ⟨g.toNat, by omega⟩ ⟨m.toNat, by omega⟩ (by simp only [e1, e2]; exact hm.2)
  simp only [e1, e2] at q
  refine ⟨q.1, q.2, ?_⟩
  have : (0 : Int) < 2 ^ m.toNat := Int.pow_pos (by decide)
  omega
theorem add_ok (hn : n ≤ 5) (hg : g ∈ up (2 ^ n)) (hm : m ∈ outs n g) : g + 1 * 2 ^ m.toNat = Builtin.bitOr g (1 * 2 ^ m.toNat) ∧ 0 ≤ g + 1 * 2 ^ m.toNat ∧ g + 1 * 2 ^ m.toNat < ((2 ^ n : Nat) : Int) := by
  have h5 := two_le hn
  obtain ⟨g0, g1⟩ := mem_up.mp hg
  unfold outs at hm
  rw [List.mem_filter] at hm
  obtain ⟨m0, m1⟩ := mem_up.mp hm.1
  have e1 : ((g.toNat : Nat) : Int) = g := by omega
  have e2 : ((m.toNat : Nat) : Int) = m := by omega
  have q := bits_out ⟨n, by omega⟩ ⟨g.toNat, by omega⟩ ⟨m.toNat, by omega⟩ (by show g.toNat < 2 ^ n; omega) (by show m.toNat < n; omega) (by simp only [e1, e2]; simpa using hm.2)
  simp only [e1, e2] at q
  refine ⟨q.1, ?_, q.2⟩
  have : (0 : Int) < 2 ^ m.toNat := Int.pow_pos (by decide)
  omega
theorem within_has (hn : n ≤ 5) {o : Int} (ho : o ∈ up (2 ^ n)) (hg : g ∈ up (2 ^ n)) (h : withinB o g = true) (hm : m ∈ up n) (q : hasB o m = true) : hasB g m = true := by
  have h5 := two_le hn
  obtain ⟨g0, g1⟩ := mem_up.mp hg
  obtain ⟨o0, o1⟩ := mem_up.mp ho
  obtain ⟨m0, m1⟩ := mem_up.mp hm
  have e1 : ((g.toNat : Nat) : Int) = g := by omega
  have e2 : ((m.toNat : Nat) : Int) = m := by omega
  have e3 : ((o.toNat : Nat) : Int) = o := by omega
  have r := bits_sub ⟨o.toNat, by omega⟩ ⟨g.toNat, by omega⟩ (by simp only [e1, e3]; exact h) ⟨m.toNat, by omega⟩ (by simp only [e2, e3]; exact q)
  simpa only [e1, e2] using r
end
/-- the text's way and the law's way agree -/
theorem least_same {n : Nat} (hn : n ≤ 5) (tb : List Bool) : leastBy (fun g m => g - 1 * 2 ^ m.toNat) n tb = leastBy (fun g m => Builtin.bitXor g (1 * 2 ^ m.toNat)) n tb := by
  unfold leastBy
  refine List.filter_congr fun g hg => ?_
  have e : ((ins n g).map fun m => at_ tb (g - 1 * 2 ^ m.toNat)) = (ins n g).map fun m => at_ tb (Builtin.bitXor g (1 * 2 ^ m.toNat)) := List.map_congr_left fun m hm => by rw [(sub_ok hn hg hm).1]
  rw [e]
theorem great_same {n : Nat} (hn : n ≤ 5) (tb : List Bool) : greatBy (fun g m => g + 1 * 2 ^ m.toNat) n tb = greatBy (fun g m => Builtin.bitOr g (1 * 2 ^ m.toNat)) n tb := by
  unfold greatBy
  refine List.filter_congr fun g hg => ?_
  have e : ((outs n g).map fun m => at_ tb (g + 1 * 2 ^ m.toNat)) = (outs n g).map fun m => at_ tb (Builtin.bitOr g (1 * 2 ^ m.toNat)) := List.map_congr_left fun m hm => by rw [(add_ok hn hg hm).1]
  rw [e]
theorem carr_handed (gs : List Int) (g : Int) : carrB (gs.reverse ++ gs.take 1) g = carrB gs g := by
  unfold carrB
  rw [List.any_append, List.any_reverse]
  cases gs with
  | nil => rfl
  | cons x r =>
    rw [List.any_cons]
    show ((withinB x g || _) || ([x].any fun o => withinB o g)) = _
    rw [List.any_cons, List.any_nil]
    cases withinB x g <;> simp
/-! ## weights -/
def wtOf (ws : List Int) (g : Int) : Int := ((up ws.length).filter (hasB g) |>.map fun k => ws.getD k.toNat 0).sum
theorem wt_le {l : List Int} {p q : Int → Bool} {f : Int → Int} (h : ∀ x ∈ l, p x = true → q x = true) (h0 : ∀ x ∈ l, 0 ≤ f x) : ((l.filter p).map f).sum ≤ ((l.filter q).map f).sum := by
  induction l with
  | nil => exact Int.le_refl _
  | cons x r ih =>
    have ih' := ih (fun y hy => h y (List.mem_cons_of_mem _ hy)) fun y hy => h0 y (List.mem_cons_of_mem _ hy)
    have hx := h x List.mem_cons_self
    have h0x := h0 x List.mem_cons_self
    rw [List.filter_cons, List.filter_cons]
    cases hp : p x with
    | true =>
      rw [hx hp]
      simp only [if_true, List.map_cons, List.sum_cons]
      omega
    | false =>
      simp only [Bool.false_eq_true, if_false]
      split
      · simp only [List.map_cons, List.sum_cons]
        omega
      · exact ih'
theorem within_self {n : Nat} (hn : n ≤ 5) {g : Int} (hg : g ∈ up (2 ^ n)) : withinB g g = true := by
  unfold withinB
  rw [PyProof.Rows.bitAnd_self]
  simp
/-- the council of the groups that weigh enough -/
theorem carr_weights {n : Nat} (hn : n ≤ 5) {ws : List Int} (hl : ws.length = n) (h0 : ∀ w ∈ ws, 0 ≤ w) (quota : Int) {g : Int} (hg : g ∈ up (2 ^ n)) :
    carrB ((up (2 ^ n)).filter fun o => decide (quota ≤ wtOf ws o)) g = decide (quota ≤ wtOf ws g) := by
  rw [Bool.eq_iff_iff]
  unfold carrB
  rw [List.any_eq_true, decide_eq_true_eq]
  constructor
  · rintro ⟨o, ho, hw⟩
    rw [List.mem_filter, decide_eq_true_eq] at ho
    refine Int.le_trans ho.2 ?_
    unfold wtOf
    refine wt_le (fun x hx q => within_has hn ho.1 hg hw (by rw [← hl]; exact hx) q) fun x hx => ?_
    rw [List.getD_eq_getElem?_getD]
    cases e : ws[x.toNat]? with
    | none => exact Int.le_refl _
    | some w => exact h0 w (List.mem_of_getElem? e)
  · intro h
    exact ⟨g, List.mem_filter.mpr ⟨hg, decide_eq_true h⟩, within_self hn hg⟩
theorem tab_weights {n : Nat} (hn : n ≤ 5) {ws : List Int} (hl : ws.length = n) (h0 : ∀ w ∈ ws, 0 ≤ w) (quota : Int) :
    tabOf n ((up (2 ^ n)).filter fun o => decide (quota ≤ wtOf ws o)) = (up (2 ^ n)).map fun g => decide (quota ≤ wtOf ws g) :=
  List.map_congr_left fun _ hg => carr_weights hn hl h0 quota hg
/-- a table that grows with the groups -/
def Mono (n : Nat) (tb : List Bool) : Prop := ∀ o g, o ∈ up (2 ^ n) → g ∈ up (2 ^ n) → withinB o g = true → at_ tb o = true → at_ tb g = true
end Wv

set_option Elab.async false
set_option linter.all false
set_option maxRecDepth 100000
namespace L2
open PySem PySem.Spec PyProof.Rows
theorem same_new {H : Hp} {p : Addr} (h : H p = none) (o : HO) : Same H (upd H p o) := fun b u q => by rw [upd_ne (ne_of_none q h)]; exact q
theorem take_one_more {α : Type} {xs : List α} {i : Nat} {x : α} (h : xs[i]? = some x) : xs.take (i + 1) = xs.take i ++ [x] := by
  rw [List.take_add_one, h]; rfl
theorem set_tail {σ : St} {t : Option V} {x : V} {n : Nat} (hn : σ.length = n) : (σ ++ [t]).set n (some x) = σ ++ [some x] := by
  subst hn
  rw [List.set_append_right _ _ (Nat.le_refl _), Nat.sub_self]
  rfl
section
variable {K : PySem.W.Frag} {a : Addr} {xs : List V} {σ : St} {H1 : Hp} {n : Nat} {tc : TT} {te : TE} {Q : VK}
/-- a comprehension over a list, one name: p what is tested, f what is gathered -/
theorem lcB_list (hn : σ.length = n) (hq : SqL K H1 a xs) (hz : xs.length ≤ 1000) (p : V → Bool) (f : V → V)
    (hp : ∀ x ∈ xs, ∀ H', Same H1 H' → ∀ R : Bool → Hp → Prop, (∀ H'', Same H' H'' → R (p x) H'') → tc (σ ++ [some x]) H' R)
    (hf : ∀ x ∈ xs, p x = true → ∀ H', Same H1 H' → ∀ R : VK, (∀ H'', Same H' H'' → R (f x) H'') → te (σ ++ [some x]) H' R)
    (hQ : ∀ H' D, Same H1 H' → H' D = none → Q (.ref D) (upd H' D (.lst ((xs.filter p).map f)))) : tLcB (Itl K a) (gName n) tc te 1 σ H1 Q := by
  refine ⟨fun i m ys σ' H' => m = xs.length - i ∧ i ≤ xs.length ∧ ys = ((xs.take i).filter p).map f ∧ (∃ t, σ' = σ ++ [t]) ∧ Same H1 H', ⟨xs.length, by simp, Nat.zero_le _, by simp, ⟨none, rfl⟩, Same.refl _⟩, ?_⟩
  rintro i m ys σ' H' ⟨rfl, hi, rfl, ⟨t, rfl⟩, hs⟩
  have q' := hs.seq hq
  by_cases hlt : i < xs.length
  · refine .inr ⟨⟨xs, xs[i], q', by simp [hlt]⟩, ?_, fun x H2 y => ?_⟩
    · rw [List.length_map]
      have z1 : ((xs.take i).filter p).length ≤ (xs.take i).length := List.length_filter_le _ _
      rw [List.length_take] at z1
      exact small1000 (by omega)
    obtain ⟨e, y⟩ := y
    subst e
    have hx := y xs q'
    have hmem := List.mem_of_getElem? hx
    show tc ((σ ++ [t]).set n (some x)) _ _
    rw [set_tail hn]
    refine hp x hmem _ hs _ fun H4 h4 => ?_
    have et := take_one_more hx
    cases hb : p x with
    | true =>
      rw [if_pos rfl]
      refine hf x hmem hb _ (hs.trans h4) _ fun H5 h5 => ⟨xs.length - (i + 1), by omega, rfl, hlt, ?_, ⟨_, rfl⟩, hs.trans (h4.trans h5)⟩
      rw [et, List.filter_append, List.map_append, List.filter_cons, hb]
      rfl
    | false =>
      rw [if_neg Bool.false_ne_true]
      refine ⟨xs.length - (i + 1), by omega, rfl, hlt, ?_, ⟨_, rfl⟩, hs.trans h4⟩
      rw [et, List.filter_append, List.map_append, List.filter_cons, hb]
      exact (List.append_nil _).symm
  · have e : i = xs.length := by omega
    subst e
    refine .inl ⟨⟨xs, q', Nat.le_refl _⟩, fun D hD => ?_⟩
    rw [List.take_length]
    exact hQ _ D hs hD
/-- .. over range(k) -/
theorem lcB_range {k : Nat} (hn : σ.length = n) (hz : k ≤ 1000) (p : Int → Bool) (f : Int → V)
    (hp : ∀ x : Int, 0 ≤ x → x < k → ∀ H', Same H1 H' → ∀ R : Bool → Hp → Prop, (∀ H'', Same H' H'' → R (p x) H'') → tc (σ ++ [some (.int x)]) H' R)
    (hf : ∀ x : Int, 0 ≤ x → x < k → p x = true → ∀ H', Same H1 H' → ∀ R : VK, (∀ H'', Same H' H'' → R (f x) H'') → te (σ ++ [some (.int x)]) H' R)
    (hQ : ∀ H' D, Same H1 H' → H' D = none → Q (.ref D) (upd H' D (.lst (((Wv.up k).filter p).map f)))) : tLcB (Itr 0 k) (gName n) tc te 1 σ H1 Q := by
  refine ⟨fun i m ys σ' H' => m = k - i ∧ i ≤ k ∧ ys = ((Wv.up i).filter p).map f ∧ (∃ t, σ' = σ ++ [t]) ∧ Same H1 H', ⟨k, by simp, Nat.zero_le _, rfl, ⟨none, rfl⟩, Same.refl _⟩, ?_⟩
  rintro i m ys σ' H' ⟨rfl, hi, rfl, ⟨t, rfl⟩, hs⟩
  by_cases hlt : i < k
  · refine .inr ⟨hlt, ?_, fun x H2 y => ?_⟩
    · rw [List.length_map]
      have z1 : ((Wv.up i).filter p).length ≤ (Wv.up i).length := List.length_filter_le _ _
      rw [Wv.up_length] at z1
      exact small1000 (by omega)
    obtain ⟨e, y⟩ := y
    have y' : x = .int (i : Int) := by rw [y]; congr 1; omega
    subst e y'
    show tc ((σ ++ [t]).set n (some (.int (i : Int)))) _ _
    rw [set_tail hn]
    refine hp i (by omega) (by omega) _ hs _ fun H4 h4 => ?_
    have et := Wv.up_succ i
    cases hb : p (i : Int) with
    | true =>
      rw [if_pos rfl]
      refine hf i (by omega) (by omega) hb _ (hs.trans h4) _ fun H5 h5 => ⟨k - (i + 1), by omega, rfl, hlt, ?_, ⟨_, rfl⟩, hs.trans (h4.trans h5)⟩
      rw [et, List.filter_append, List.map_append, List.filter_cons, hb]
      rfl
    | false =>
      rw [if_neg Bool.false_ne_true]
      refine ⟨k - (i + 1), by omega, rfl, hlt, ?_, ⟨_, rfl⟩, hs.trans h4⟩
      rw [et, List.filter_append, List.map_append, List.filter_cons, hb]
      exact (List.append_nil _).symm
  · have e : i = k := by omega
    subst e
    exact .inl ⟨Nat.le_refl _, fun D hD => hQ _ D hs hD⟩
/-- places and items -/
def pairs (xs : List V) : List (Nat × V) := (List.range xs.length).zip xs
theorem pairs_take {xs : List V} {i : Nat} {x : V} (h : xs[i]? = some x) : (pairs xs).take (i + 1) = (pairs xs).take i ++ [(i, x)] := by
  refine take_one_more ?_
  unfold pairs
  have hi := (List.getElem?_eq_some_iff.mp h).1
  rw [List.getElem?_zip_eq_some]
  exact ⟨by rw [List.getElem?_range hi], h⟩
theorem pairs_length (xs : List V) : (pairs xs).length = xs.length := by unfold pairs; rw [List.length_zip, List.length_range, Nat.min_self]
theorem set_tail2 {σ : St} {t u : Option V} {x y : V} {n m : Nat} (hn : σ.length = n) (hm : m = n + 1) : ((σ ++ [t, u]).set n (some x)).set m (some y) = σ ++ [some x, some y] := by
  subst hn hm
  rw [List.set_append_right _ _ (Nat.le_refl _), Nat.sub_self, List.set_append_right _ _ (Nat.le_succ _)]
  have e : σ.length + 1 - σ.length = 1 := by omega
  rw [e]
  rfl
theorem lcB_enum {m : Nat} (hn : σ.length = n) (hm : m = n + 1) (hq : SqL K H1 a xs) (hz : xs.length ≤ 1000) (p : Nat → V → Bool) (f : Nat → V → V)
    (hp : ∀ i x, xs[i]? = some x → ∀ H', Same H1 H' → ∀ R : Bool → Hp → Prop, (∀ H'', Same H' H'' → R (p i x) H'') → tc (σ ++ [some (.int (i : Nat)), some x]) H' R)
    (hf : ∀ i x, xs[i]? = some x → p i x = true → ∀ H', Same H1 H' → ∀ R : VK, (∀ H'', Same H' H'' → R (f i x) H'') → te (σ ++ [some (.int (i : Nat)), some x]) H' R)
    (hQ : ∀ H' D, Same H1 H' → H' D = none → Q (.ref D) (upd H' D (.lst (((pairs xs).filter fun q => p q.1 q.2).map fun q => f q.1 q.2)))) :
    tLcB (Ite K a) (gTup K 2 (gCons (gName n) (gCons (gName m) gNil))) tc te 2 σ H1 Q := by
  refine ⟨fun i k ys σ' H' => k = xs.length - i ∧ i ≤ xs.length ∧ ys = (((pairs xs).take i).filter fun q => p q.1 q.2).map (fun q => f q.1 q.2) ∧ (∃ t u, σ' = σ ++ [t, u]) ∧ Same H1 H', ⟨xs.length, by simp, Nat.zero_le _, by simp, ⟨none, none, rfl⟩, Same.refl _⟩, ?_⟩
  rintro i k ys σ' H' ⟨rfl, hi, rfl, ⟨t, u, rfl⟩, hs⟩
  have q' := hs.seq hq
  by_cases hlt : i < xs.length
  · refine .inr ⟨⟨xs, xs[i], q', by simp [hlt]⟩, ?_, fun y H2 yl => ?_⟩
    · rw [List.length_map]
      have z1 : (((pairs xs).take i).filter fun q => p q.1 q.2).length ≤ ((pairs xs).take i).length := List.length_filter_le _ _
      rw [List.length_take] at z1
      exact small1000 (by omega)
    obtain ⟨b, x, nb, e1, e2, yx⟩ := yl
    subst e1 e2
    have hx := yx xs q'
    have hs2 : Same H1 (upd H' b (.tup [.int (i : Nat), x])) := hs.trans (same_new nb _)
    refine ⟨b, [.int (i : Nat), x], rfl, SqT.of upd_same, rfl, _, _, rfl, _, _, rfl, rfl, ?_⟩
    show tc (((σ ++ [t, u]).set n (some (.int (i : Nat)))).set m (some x)) _ _
    rw [set_tail2 hn hm]
    refine hp i x hx _ hs2 _ fun H4 h4 => ?_
    have et := pairs_take hx
    cases hb : p i x with
    | true =>
      rw [if_pos rfl]
      refine hf i x hx hb _ (hs2.trans h4) _ fun H5 h5 => ⟨xs.length - (i + 1), by omega, rfl, hlt, ?_, ⟨_, _, rfl⟩, hs2.trans (h4.trans h5)⟩
      rw [et, List.filter_append, List.map_append, List.filter_cons]
      simp only [hb, if_true]
      rfl
    | false =>
      rw [if_neg Bool.false_ne_true]
      refine ⟨xs.length - (i + 1), by omega, rfl, hlt, ?_, ⟨_, _, rfl⟩, hs2.trans h4⟩
      rw [et, List.filter_append, List.map_append, List.filter_cons]
      simp only [hb, Bool.false_eq_true, if_false]
      exact (List.append_nil _).symm
  · have e : i = xs.length := by omega
    subst e
    refine .inl ⟨⟨xs, q', Nat.le_refl _⟩, fun D hD => ?_⟩
    rw [← pairs_length xs, List.take_length]
    exact hQ _ D hs hD
end
theorem isi_ii : isiB "int" "int" = true := by decide
theorem isi_ib : isiB "int" "bool" = false := by decide
theorem isi_ll : isiB "list" "list" = true := by decide
theorem isi_bb : isiB "bool" "bool" = true := by decide
theorem isi_bi : isiB "bool" "int" = true := by decide

/-! ## promises in short -/
def sp1 (pre : Int → Prop) (f : Int → V) : Sp := fun vs H Q _ => ∃ x, vs = [.int x] ∧ pre x ∧ ∀ H', Same H H' → Q (f x) H'
def sp2 (pre : Int → Int → Prop) (f : Int → Int → V) : Sp := fun vs H Q _ => ∃ x y, vs = [.int x, .int y] ∧ pre x y ∧ ∀ H', Same H H' → Q (f x y) H'
theorem ite_t {c : Bool} {A B : Prop} (h : c = true) (x : A) : if c = true then A else B := by rw [if_pos h]; exact x
theorem ite_f {c : Bool} {A B : Prop} (h : c = false) (x : B) : if c = true then A else B := by rw [if_neg (by rw [h]; exact Bool.false_ne_true)]; exact x
theorem ite_b {c : Bool} {A B : Prop} (h1 : c = true → A) (h2 : c = false → B) : if c = true then A else B := by
  cases c with
  | true => exact ite_t rfl (h1 rfl)
  | false => exact ite_f rfl (h2 rfl)
end L2

set_option Elab.async false
set_option linter.all false
set_option maxRecDepth 100000
namespace L2
open PySem PySem.Spec PyProof.Rows
theorem same_upd {H H' : Hp} {p : Addr} {o : HO} (h : Same H H') (n : H p = none) : Same H (upd H' p o) := fun b u q => by rw [upd_ne (ne_of_none q n)]; exact h b u q
section
variable {K : PySem.W.Frag} {σ : St} {H1 : Hp} {n : Nat} {tc : TT} {te : TE} {Q : VK}
/-- a comprehension over range(k) without a test, whose items are ints of which P is known -/
theorem lcB_rangeP {k : Nat} (hn : σ.length = n) (hz : k ≤ 1000) (P : Int → Prop)
    (hf : ∀ x : Int, 0 ≤ x → x < k → ∀ H', Same H1 H' → ∀ R : VK, (∀ v H'', P v → Same H' H'' → R (.int v) H'') → te (σ ++ [some (.int x)]) H' R)
    (hQ : ∀ (ws : List Int) H' D, ws.length = k → (∀ v ∈ ws, P v) → Same H1 H' → H' D = none → Q (.ref D) (upd H' D (.lst (ws.map V.int)))) : tLcB (Itr 0 k) (gName n) tTT te 1 σ H1 Q := by
  refine ⟨fun i m ys σ' H' => m = k - i ∧ i ≤ k ∧ (∃ ws : List Int, ws.length = i ∧ (∀ v ∈ ws, P v) ∧ ys = ws.map V.int) ∧ (∃ t, σ' = σ ++ [t]) ∧ Same H1 H', ⟨k, by simp, Nat.zero_le _, ⟨[], rfl, (fun v hv => by cases hv), rfl⟩, ⟨none, rfl⟩, Same.refl _⟩, ?_⟩
  rintro i m ys σ' H' ⟨rfl, hi, ⟨ws, wl, wp, rfl⟩, ⟨t, rfl⟩, hs⟩
  by_cases hlt : i < k
  · refine .inr ⟨hlt, ?_, fun x H2 y => ?_⟩
    · rw [List.length_map, wl]
      exact small1000 (by omega)
    obtain ⟨e, y⟩ := y
    have y' : x = .int (i : Int) := by rw [y]; congr 1; omega
    subst e y'
    dsimp only [gName, tTT]
    rw [if_pos rfl, set_tail hn]
    refine hf i (by omega) (by omega) _ hs _ fun v H5 pv h5 => ⟨k - (i + 1), by omega, rfl, hlt, ⟨ws ++ [v], by rw [List.length_append, wl]; rfl, fun u hu => ?_, ?_⟩, ⟨_, rfl⟩, hs.trans h5⟩
    · rcases List.mem_append.mp hu with z | z
      · exact wp u z
      · have z' : u = v := by simpa using z
        rw [z']; exact pv
    · rw [List.map_append]; rfl
  · have e : i = k := by omega
    subst e
    exact .inl ⟨Nat.le_refl _, fun D hD => hQ ws _ D wl wp hs hD⟩
end
end L2

set_option Elab.async false
set_option linter.all false
set_option maxRecDepth 100000
namespace L2
open PySem PySem.Spec PyProof.Rows
theorem qbl {Q : VK} {H : Hp} {b b' : Bool} (h : b = b') (q : Q (.bl b) H) : Q (.bl b') H := h ▸ q
/-! ## the same rules with the written part K named (a block's context bears it under its own name) -/
section
variable {X : Cx}
theorem ix_listK (K : PySem.W.Frag) (h : X.K = K := by rfl) : IxR X (rIxL K) := by subst h; exact ix_list
theorem ix_tupK (K : PySem.W.Frag) (h : X.K = K := by rfl) : IxR X (rIxT K) := by subst h; exact ix_tup
theorem call_anyK (K : PySem.W.Frag) (hc : X.calm = true) (h : X.K = K := by rfl) : CallR X (.builtin "any") (rAny K) := by subst h; exact call_any hc
theorem call_allK (K : PySem.W.Frag) (hc : X.calm = true) (h : X.K = K := by rfl) : CallR X (.builtin "all") (rAll K) := by subst h; exact call_all hc
theorem call_sumK (K : PySem.W.Frag) (hc : X.calm = true) (h : X.K = K := by rfl) : CallR X (.builtin "sum") (rSum K) := by subst h; exact call_sum hc
theorem call_isiK (K : PySem.W.Frag) (h : X.K = K := by rfl) : CallR X (.builtin "isinstance") (rIsi K) := by subst h; exact call_isi
def rLen (K : PySem.W.Frag) : List V → Hp → VK → Prop := fun xs H Q => ∃ p ys, xs = [.ref p] ∧ (SqL K H p ys ∨ SqT K H p ys) ∧ Q (.int ys.length) H
theorem call_lenK (K : PySem.W.Frag) (h : X.K = K := by rfl) : CallR X (.builtin "len") (rLen K) := by subst h; exact call_len_seq
def rListOf (K : PySem.W.Frag) : List V → Hp → VK → Prop := fun xs H Q => ∃ p ys, xs = [.ref p] ∧ (SqL K H p ys ∨ SqT K H p ys) ∧ ∀ l, H l = none → Q (.ref l) (upd H l (.lst ys))
theorem call_list_ofK (K : PySem.W.Frag) (h : X.K = K := by rfl) : CallR X (.type "list") (rListOf K) := by subst h; exact call_list_of
def rTupOf (K : PySem.W.Frag) : List V → Hp → VK → Prop := fun xs H Q => ∃ p ys, xs = [.ref p] ∧ ((SqL K H p ys ∧ ∀ l, H l = none → Q (.ref l) (upd H l (.tup ys))) ∨ (SqT K H p ys ∧ Q (.ref p) H))
theorem call_tuple_ofK (K : PySem.W.Frag) (h : X.K = K := by rfl) : CallR X (.type "tuple") (rTupOf K) := by subst h; exact call_tuple_of
theorem op_neLK (K : PySem.W.Frag) (hu : X.A.units < cLine) (h : X.K = K := by rfl) : OpR X (compareOp .NotEq) (rNeL K) := by subst h; exact op_neL hu
theorem op_eqLK (K : PySem.W.Frag) (hu : X.A.units < cLine) (h : X.K = K := by rfl) : OpR X (compareOp .Eq) (rEqL K) := by subst h; exact op_eqL hu
theorem sl_listK (K : PySem.W.Frag) (h : X.K = K := by rfl) : SlR X (rSlL K) := by subst h; exact sl_list
theorem pe_fldK (K : PySem.W.Frag) {e : Expr} {ta : TE} {f : Str} {pos : Pos} (he : PE X e ta) (hb : attributeBase e f X.env (eval e X.env) = eval e X.env) (h : X.K = K := by rfl) : PE X (.Attribute e f pos) (tFld K ta f) := by subst h; exact pe_fld he hb
theorem pe_revK (K : PySem.W.Frag) {e : Expr} {te : TE} {pos p2 p3 p4 : Pos} {k : Nat} (he : PE X e te) (h : X.K = K := by rfl) : PE X (.Subscript e (.Slice none none (some (.UnaryOp .USub (.Constant (.int 1) k p3) p4)) p2) pos) (tRev K te) := by subst h; exact pe_rev he
theorem pg_tupK (K : PySem.W.Frag) {es : List Expr} {k : Nat} {t : TGs} {n : Nat} {pos : Pos} (hc : X.calm = true) (h : PGs X es t) (hn : (assignEach es X.env).length = n := by rfl) (hst : (assignEach es X.env).findIdx? (·.1) = none := by rfl)
    (hK : X.K = K := by rfl) : PG X (.Tuple es k pos) (gTup K n t) := by subst hK; exact pg_tup hc h hn hst
theorem pi_listK (K : PySem.W.Frag) {tg l : Expr} {tl : TE} (hl : PE X l tl) (h : X.K = K := by rfl) : PI X tg l (iList K tl) := by subst h; exact pi_list hl
theorem pi_tupK (K : PySem.W.Frag) {tg l : Expr} {tl : TE} (hl : PE X l tl) (h : X.K = K := by rfl) : PI X tg l (iTup K tl) := by subst h; exact pi_tup hl
end
end L2

set_option Elab.async false
set_option linter.all false
set_option maxRecDepth 100000
namespace L2
open PySem PySem.Spec PyProof.Rows
/-! ## an exception in flight -/
/-- the exception at e, its newest entry at T, fl the entry's mark; nothing hangs behind it -/
def Fly (h : Heap) (e T : Addr) (cls fl : Value) : Prop :=
  ∃ oe vs oT ts, h.get? e = some oe ∧ oe.cls = cls ∧ oe.data = .fields vs ∧ vs[1]? = some (.ref T) ∧ vs[2]? = some .none ∧ T ≠ e ∧ h.get? T = some oT ∧ oT.data = .fields ts ∧ ts[3]? = some fl
/-- what stays: all but the records at ex and the slots of the frames at fs -/
structure KeptX (fs ex : List Addr) (h h' : Heap) : Prop where
  keep : ∀ b o, b ∉ fs → b ∉ ex → h.get? b = some o → h'.get? b = some o
  slot : ∀ b o, b ∈ fs → b ∉ ex → h.get? b = some o → ∃ sl, h'.get? b = some { o with slots := sl }
theorem KeptX.any {fs ex : List Addr} {h h' : Heap} (k : KeptX fs ex h h') {b : Addr} {o : Obj} (hx : b ∉ ex) (e : h.get? b = some o) : ∃ sl, h'.get? b = some { o with slots := sl } := by
  by_cases hb : b ∈ fs
  · exact k.slot b o hb hx e
  · exact ⟨o.slots, k.keep b o hb hx e⟩
theorem KeptX.trans {fs ex : List Addr} {h h1 h2 : Heap} (a : KeptX fs ex h h1) (b : KeptX fs ex h1 h2) : KeptX fs ex h h2 where
  keep := fun c o h1 h2 e => b.keep c o h1 h2 (a.keep c o h1 h2 e)
  slot := fun c o h1 h2 e => by
    obtain ⟨sl, e1⟩ := a.slot c o h1 h2 e
    obtain ⟨sl', e2⟩ := b.slot c _ h1 h2 e1
    exact ⟨sl', e2⟩
theorem KeptX.mono {fs ex ex' : List Addr} {h h' : Heap} (a : KeptX fs ex h h') (hx : ∀ b ∈ ex, b ∈ ex') : KeptX fs ex' h h' :=
  ⟨fun b o h1 h2 => a.keep b o h1 fun z => h2 (hx b z), fun b o h1 h2 => a.slot b o h1 fun z => h2 (hx b z)⟩
theorem KeptX.of_keeps {fs ex : List Addr} {h h' : Heap} (k : ∀ b o, h.get? b = some o → h'.get? b = some o) : KeptX fs ex h h' := ⟨fun b o _ _ e => k b o e, fun b o _ _ e => ⟨o.slots, k b o e⟩⟩
theorem frs_eq (l : List Env) : frs l = l.filterMap (·.frame) := rfl
/-- frames are no records -/
theorem frame_no {h base : Heap} {l : List Env} (hl : h.FunFrames base l) {b : Addr} {o : Obj} {vs : Array Value} (e : h.get? b = some o) (d : o.data = .fields vs) : b ∉ frs l := fun hm => by
  obtain ⟨_, o', ho, hn⟩ := hl.mem hm
  rw [e] at ho; cases ho
  exact hn vs d
section
variable {M : Model} {A : Around} {E : Value → Shared → Prop} {s : Shared}
theorem entry_own {base : Heap} {env : Env} {outer : List Env} {L e : Addr} {oe : Obj} {vs : Array Value} {head : Value} {hadNext : Bool} {Q : Unit → Shared → Prop}
    (hfr : A.frames = some (env :: outer)) (hl : s.heap.FunFrames base (env :: outer)) (hf : env.frame = some L) (he : s.heap.get? e = some oe) (hd : oe.data = .fields vs) (hsz : 1 < vs.size) (h2 : vs[2]? = some .none)
    (h : ∀ h' T, s.heap.get? T = none → Fly h' e T oe.cls (rawInt L) → KeptX (frs (env :: outer)) [e] s.heap h' → Q () { s with heap := h' }) :
    wpAny M A (do let a ← frameOf env; let pl ← entryPlaceOf L hadNext; let b ← EntryCells.newEntry head a .none (rawInt L) .none pl; setField (.ref e) 1 b) Q E s := by
  have hene := frame_no hl he hd
  refine wpAny_bind (wpAny_frameOf_fun hfr hl hf fun h₁ hs₁ => wpAny_bind (wpAny_entryPlaceOf fun pl hpl => ?_))
  unfold EntryCells.newEntry newFields
  refine wpAny_bind (wpAny_newObj_type ?_ (hpl.sizeOk5 _ _ _ _ _))
  have he₁ : h₁.get? e = some oe := (hs₁.2.1 e hene).trans he
  generalize ho : ({ cls := .type "traceback", dict := none, data := .fields ([head, .ref L, .none, rawInt L, .none] ++ (if pl.isEmpty then List.replicate 6 Value.none else pl)).toArray } : Obj) = oT
  have he₂ := Heap.get?_push_of_some (h := h₁) oT he₁
  have hTe : h₁.objs.size ≠ e := Nat.ne_of_gt (Heap.lt_size he₁)
  have hfree : oT.isFreed = false := by rw [← ho]; rfl
  refine wpAny_setField he₂ hd hsz (h _ h₁.objs.size ?_ ?_ ?_)
  · cases q : s.heap.get? h₁.objs.size with
    | none => rfl
    | some o' =>
      obtain ⟨sl, q'⟩ := hs₁.2.2 _ _ q
      exact absurd (Heap.lt_size q') (Nat.lt_irrefl _)
  · have hd₃ := Obj.data_mapFields hd (·.setIfInBounds 1 (Value.ref h₁.objs.size))
    refine ⟨_, _, oT, _, Heap.get?_update_self _ he₂ (Obj.isFreed_of_fields hd₃), Obj.cls_mapFields _ _, hd₃, by simp [hsz], by rw [Array.getElem?_setIfInBounds_ne (by decide)]; exact h2, hTe, ?_, by rw [← ho], by simp⟩
    rw [Heap.get?_update_other _ _ (Ne.symm hTe)]
    exact Heap.get?_push_size h₁ hfree
  · have keep : ∀ b o, b ≠ e → h₁.get? b = some o → ((h₁.push oT).update e (Obj.mapFields (·.setIfInBounds 1 (Value.ref h₁.objs.size)))).get? b = some o := fun b o hb q => by
      rw [Heap.get?_update_other _ _ (Ne.symm hb)]
      exact Heap.get?_push_of_some _ q
    refine ⟨fun b o hb hx q => keep b o (fun z => hx (by simp [z])) ((hs₁.2.1 b hb).trans q), fun b o hb hx q => ?_⟩
    obtain ⟨sl, q'⟩ := hs₁.2.2 b o q
    exact ⟨sl, keep b _ (fun z => hx (by simp [z])) q'⟩
/-- the entry's mark is taken away -/
theorem flight_own {e T : Addr} {cls fl : Value} {Q : Unit → Shared → Prop} (f : Fly s.heap e T cls fl) (h : ∀ h', Fly h' e T cls .none → (∀ b o, b ≠ T → s.heap.get? b = some o → h'.get? b = some o) → Q () { s with heap := h' }) :
    wpAny M A (setFlight (.ref e) none) Q E s := by
  obtain ⟨oe, vs, oT, ts, he, hc, hd, h1, h2, hne, hT, hdT, h3⟩ := f
  unfold setFlight
  refine wpAny_bind (wpAny_field he hd h1 ?_)
  rw [if_pos (show (Value.ref T != Value.none) = true from by simp)]
  have hz : 3 < ts.size := (Array.getElem?_eq_some_iff.mp h3).1
  refine wpAny_setField hT hdT hz (h _ ?_ fun b o hb q => (Heap.get?_update_other _ _ (Ne.symm hb)).trans q)
  have hd₃ := Obj.data_mapFields hdT (·.setIfInBounds 3 ((none : Option Addr).elim Value.none fun f => rawInt f))
  refine ⟨oe, vs, _, _, (Heap.get?_update_other _ _ hne).trans he, hc, hd, h1, h2, hne, Heap.get?_update_self _ hT (Obj.isFreed_of_fields hd₃), hd₃, by simp [hz]⟩
/-- noteFrame at a further frame -/
theorem note_own {base : Heap} {env : Env} {outer : List Env} {L e T : Addr} {cls : Value} {Q : Unit → Shared → Prop} (hfr : A.frames = some (env :: outer)) (hl : s.heap.FunFrames base (env :: outer)) (hf : env.frame = some L) (f : Fly s.heap e T cls .none)
    (h : ∀ h' T', s.heap.get? T' = none → Fly h' e T' cls (rawInt L) → KeptX (frs (env :: outer)) [e, T] s.heap h' → Q () { s with heap := h' }) : wpAny M A (noteFrame (.ref e) env) Q E s := by
  obtain ⟨oe, vs, oT, ts, he, hc, hd, h1, h2, hne, hT, hdT, h3⟩ := f
  unfold noteFrame
  simp only [hf]
  refine wpAny_bind (wpAny_field he hd h1 ?_)
  rw [if_pos (show (Value.ref T != Value.none) = true from by simp)]
  refine wpAny_bind (wpAny_field hT hdT h3 ?_)
  rw [if_neg (show ¬ ((Value.none == rawInt L) = true) from by simp [rawInt])]
  refine wpAny_bind (wpAny_setField hT hdT (Array.getElem?_eq_some_iff.mp h3).1 ?_)
  have other : ∀ b, b ≠ T → (s.heap.update T (Obj.mapFields (·.setIfInBounds 3 Value.none))).get? b = s.heap.get? b := fun b hb => Heap.get?_update_other _ _ (Ne.symm hb)
  have hTf := frame_no hl hT hdT
  have hl2 : (s.heap.update T (Obj.mapFields (·.setIfInBounds 3 Value.none))).FunFrames base (env :: outer) := hl.of_keeps fun b o hb hnf => ⟨o, (other b fun q => by rw [q, hT] at hb; cases hb; exact hnf ts hdT).trans hb, rfl⟩
  subst hc
  refine entry_own (s := { s with heap := s.heap.update T (Obj.mapFields (·.setIfInBounds 3 Value.none)) }) hfr hl2 hf ((other e (Ne.symm hne)).trans he) hd (Array.getElem?_eq_some_iff.mp h1).1 h2 fun h' T' hn' f' k' => h h' T' ?_ f' ?_
  · cases q : s.heap.get? T' with
    | none => rfl
    | some o' =>
      by_cases z : T' = T
      · subst z
        have hd₃ := Obj.data_mapFields hdT (·.setIfInBounds 3 Value.none)
        have := Heap.get?_update_self (Obj.mapFields (·.setIfInBounds 3 Value.none)) hT (Obj.isFreed_of_fields hd₃)
        have hn2 : (s.heap.update T' (Obj.mapFields (·.setIfInBounds 3 Value.none))).get? T' = none := hn'
        rw [hn2] at this; cases this
      · have hn2 : (s.heap.update T (Obj.mapFields (·.setIfInBounds 3 Value.none))).get? T' = none := hn'
        rw [other T' z, q] at hn2; cases hn2
  · refine ⟨fun b o hb hx q => k'.keep b o hb (fun z => hx (by simp at z; simp [z])) ((other b fun z => hx (by simp [z])).trans q), fun b o hb hx q => k'.slot b o hb (fun z => hx (by simp at z; simp [z])) ((other b fun z => hx (by simp [z])).trans q)⟩
/-- an exception just made leaves its frame -/
theorem leave_first {base h0 : Heap} {env : Env} {outer : List Env} {L e : Addr} {cls : Value} {args : List Value} {Q : Unit → Shared → Prop} (hfr : A.frames = some (env :: outer)) (hl : s.heap.FunFrames base (env :: outer)) (hf : env.frame = some L)
    (hx : Heap.MadeExcOf h0 s.heap e cls args) (h : ∀ h' T, s.heap.get? T = none → Fly h' e T cls .none → KeptX (frs (env :: outer)) [e] s.heap h' → Q () { s with heap := h' }) : wpAny M A (leaving env (.ref e)) Q E s := by
  obtain ⟨t, he, _, _⟩ := hx.there
  unfold leaving noteFrame
  simp only [hf]
  refine wpAny_bind (wpAny_bind (wpAny_field he rfl (x := .none) rfl ?_))
  rw [if_neg (by decide)]
  refine entry_own hfr hl hf he rfl (show 1 < 6 by decide) rfl fun h' T hn f k => ?_
  refine flight_own (s := { s with heap := h' }) f fun h2 f2 k2 => h h2 T hn f2 ?_
  exact ⟨fun b o hb hx' q => k2 b o (fun z => by rw [z, hn] at q; cases q) (k.keep b o hb hx' q), fun b o hb hx' q => by
    obtain ⟨sl, q'⟩ := k.slot b o hb hx' q
    exact ⟨sl, k2 b _ (fun z => by rw [z, hn] at q; cases q) q'⟩⟩
/-- .. and each further one -/
theorem leave_next {base : Heap} {env : Env} {outer : List Env} {L e T : Addr} {cls : Value} {Q : Unit → Shared → Prop} (hfr : A.frames = some (env :: outer)) (hl : s.heap.FunFrames base (env :: outer)) (hf : env.frame = some L) (f : Fly s.heap e T cls .none)
    (h : ∀ h' T', s.heap.get? T' = none → Fly h' e T' cls .none → KeptX (frs (env :: outer)) [e, T] s.heap h' → Q () { s with heap := h' }) : wpAny M A (leaving env (.ref e)) Q E s := by
  unfold leaving
  refine wpAny_bind (note_own hfr hl hf f fun h' T' hn f' k => ?_)
  refine flight_own (s := { s with heap := h' }) f' fun h2 f2 k2 => h h2 T' hn f2 ?_
  exact ⟨fun b o hb hx' q => k2 b o (fun z => by rw [z, hn] at q; cases q) (k.keep b o hb hx' q), fun b o hb hx' q => by
    obtain ⟨sl, q'⟩ := k.slot b o hb hx' q
    exact ⟨sl, k2 b _ (fun z => by rw [z, hn] at q; cases q) q'⟩⟩
end
end L2

set_option Elab.async false
set_option linter.all false
set_option maxRecDepth 100000
namespace L2
open PySem PySem.Spec PyProof.Rows
/-! ## an exception behind a call, by the layer's own heap -/
theorem ObjOk.some_at {P : Program} {w : World} {H : Hp} {h : Heap} {a : Addr} {o : HO} (x : ObjOk P w H h a o) : ∃ u, h.get? a = some u := by
  cases o with
  | lst xs => obtain ⟨_, _, _, _, e⟩ := x; exact ⟨_, e⟩
  | tup xs => obtain ⟨_, _, _, u, e, _⟩ := x; exact ⟨u, e⟩
  | dK kvs => obtain ⟨_, _, _, _, u, _, _, e, _⟩ := x; exact ⟨u, e⟩
  | dT kvs => obtain ⟨_, _, _, _, u, _, _, e, _⟩ := x; exact ⟨u, e⟩
  | set S n => obtain ⟨u, _, _, _, e, _⟩ := x; exact ⟨u, e⟩
  | ins C dx fs => obtain ⟨_, _, _, e, _⟩ := x; exact ⟨_, e⟩
  | own y => exact x
  | xd fs => obtain ⟨_, ⟨u, _, _, e, _⟩, _⟩ := x; exact ⟨u, e⟩
  | rng lo hi => obtain ⟨_, _, _, e⟩ := x; exact ⟨_, e⟩
  | frz ob u => obtain ⟨e, _⟩ := x; exact ⟨_, e⟩
  | tbl ps => exact ⟨_, (show h.get? a = some _ from x)⟩
  | met f y => exact ⟨_, (show h.get? a = some _ from x)⟩
  | ext φ => obtain ⟨_, e, _⟩ := x; exact e
theorem HOk.none_of {P : Program} {w : World} {H : Hp} {h : Heap} {a : Addr} (x : HOk P w H h) (n : h.get? a = none) : H a = none := by
  cases q : H a with
  | none => rfl
  | some o =>
    obtain ⟨u, e⟩ := (x a o q).some_at
    rw [n] at e; cases e
def CXe (P : Program) (w : World) : CXT := fun outer H s E e s' => ∃ (ea T : Addr) (cls : Value) (H' : Hp), e = .ref ea ∧ s'.os = s.os ∧ AllBare s'.gens ∧ Fly s'.heap ea T cls .none ∧ H' ea = none ∧ H' T = none ∧
  s.heap.get? ea = none ∧ s.heap.get? T = none ∧ Un (frs outer) [] H H' s.heap s'.heap ∧ HOk P w H' s'.heap ∧ E cls none H'
theorem frames_of {base h h' : Heap} : ∀ {l : List Env}, (∀ b ∈ frs l, ∀ o, h.get? b = some o → ∃ sl, h'.get? b = some { o with slots := sl }) → h.FunFrames base l → h'.FunFrames base l
  | [], _, _ => trivial
  | env :: r, k, hl => by
    obtain ⟨hk, ⟨L, o, hf, hn, ho, hd⟩, hr⟩ := hl
    obtain ⟨sl, e⟩ := k L (by unfold frs; rw [List.filterMap_cons, hf]; exact List.mem_cons_self) o ho
    exact ⟨hk, ⟨L, _, hf, hn, e, hd⟩, frames_of (fun b hb => k b (by unfold frs; rw [List.filterMap_cons, hf]; exact List.mem_cons_of_mem _ hb)) hr⟩
/-- a step of an exception's flight, for what is kept -/
theorem un_kept {P : Program} {w : World} {fs fs' ex : List Addr} {H H' : Hp} {h h1 h2 : Heap} (u : Un fs [] H H' h h1) (ok : HOk P w H' h1) (k : KeptX fs' ex h1 h2) (hx : ∀ b ∈ ex, H' b = none ∧ h.get? b = none) (hf : ∀ b ∈ fs', H' b = none)
    (sub : ∀ b ∈ fs', b ∈ fs ∨ h.get? b = none) : Un fs [] H H' h h2 ∧ HOk P w H' h2 := by
  have nx : ∀ b o, h.get? b = some o → b ∉ ex := fun b o e z => by rw [(hx b z).2] at e; cases e
  refine ⟨⟨fun b o e n hb _ => ?_, fun b o e n hb _ => ?_, u.free, fun b o e _ => ?_, u.tups, u.frzs, u.tbls⟩, fun a o e => ?_⟩
  · refine k.keep b o (fun z => ?_) (nx b o e) (u.keep b o e n hb (by simp))
    rcases sub b z with q | q
    · exact hb q
    · rw [q] at e; cases e
  · obtain ⟨sl, e1⟩ := u.slot b o e n hb (by simp)
    obtain ⟨sl', e2⟩ := k.any (nx b o e) e1
    exact ⟨sl', e2⟩
  · obtain ⟨o', e1⟩ := u.there b o e (by simp)
    obtain ⟨sl, e2⟩ := k.any (nx b o e) e1
    exact ⟨_, e2⟩
  · refine (ok a o e).stay (fun b v hb q => k.keep b v (fun z => ?_) (fun z => ?_) q) (fun _ q => q) fun _ _ q => q
    · rcases hb with rfl | hb
      · rw [hf _ z] at e; cases e
      · rw [hf _ z] at hb; cases hb
    · rcases hb with rfl | hb
      · rw [(hx _ z).1] at e; cases e
      · rw [(hx _ z).1] at hb; cases hb
section
variable {P : Program} {w : World} {K : PySem.W.Frag} {mg : Str → Option Value} {base : Heap} {N : List Str} {qual : Str} {scope : Scope} {f : Addr} {cd : Value} {A : Around} {outer : List Env} {s0 : Shared} {H0 : Hp} {E : XK}
/-- a raise in a def's body -/
theorem raise_leaves {pins : List (Addr × Obj)} {σ : St} {H : Hp} {s : Shared} {h' : Heap} {e : Addr} {cls : Value} {vs : List Value} (I : Inv (cxOf (CXe P w) P w K mg base N qual scope f cd A outer s0 H0 E) pins σ H s)
    (hx : Heap.MadeExcOf s.heap h' e cls vs) (hE : E cls none H) : (cxOf (CXe P w) P w K mg base N qual scope f cd A outer s0 H0 E).xe (.ref e) { s with heap := h' } := by
  have hl : h'.FunFrames base (envOfC qual scope s0.heap.objs.size f cd :: outer) := frames_of (fun b _ o q => ⟨o.slots, hx.keeps b o q⟩) I.stack
  have old : ∀ b o, s0.heap.get? b = some o → ∃ o', s.heap.get? b = some o' := fun b o q => I.base.there b o q (show b ∉ ([] : List Addr) by simp)
  have fresh : ∀ b, s.heap.get? b = none → s0.heap.get? b = none := fun b q => by
    cases z : s0.heap.get? b with
    | none => rfl
    | some o => obtain ⟨o', z'⟩ := old b o z; rw [q] at z'; cases z'
  refine leave_first (s := { s with heap := h' }) (base := base) I.ok.frames hl rfl hx fun h2 T hn fl k => ?_
  have hsT : s.heap.get? T = none := by
    cases z : s.heap.get? T with
    | none => rfl
    | some o =>
      have z2 := hx.keeps T o z
      have hn' : h'.get? T = none := hn
      rw [hn'] at z2; cases z2
  have nE : H e = none := I.hok.none_of hx.new
  have u1 : Un (frs outer) [] H0 H s0.heap h' := by
    have b := I.base
    exact ⟨fun b' o q n hb hz => hx.keeps _ _ (I.base.keep b' o q n hb hz), fun b' o q n hb hz => let ⟨sl, z⟩ := I.base.slot b' o q n hb hz; ⟨sl, hx.keeps _ _ z⟩, I.base.free, fun b' o q hz => let ⟨o', z⟩ := I.base.there b' o q hz; ⟨o', hx.keeps _ _ z⟩, I.base.tups, I.base.frzs, I.base.tbls⟩
  have ok1 : HOk P w H h' := I.hok.kept hx.keeps
  have z := un_kept u1 ok1 k (fun b hb => by
    have e' : b = e := by simpa using hb
    rw [e']; exact ⟨nE, fresh e hx.new⟩) (fun b hb => I.stkFree b hb) (fun b hb => by
    have hb' : b = s0.heap.objs.size ∨ b ∈ frs outer := by
      have := I.stkSub b hb
      exact List.mem_cons.mp this
    rcases hb' with q | q
    · exact .inr (by rw [q]; exact Heap.get?_none_of_le (Nat.le_refl _))
    · exact .inl q)
  exact ⟨e, T, cls, H, rfl, I.os, I.bare, fl, nE, I.hok.none_of hsT, fresh e hx.new, fresh T hsT, z.1, z.2, hE⟩
/-- an exception of a callee goes on to the caller's callers -/
theorem passes_on : Passes (CXe P w) (cxOf (CXe P w) P w K mg base N qual scope f cd A outer s0 H0 E) E := by
  intro pins σ H s e s' I h
  obtain ⟨ea, T, cls, H', rfl, os, bare, fl, n1, n2, m1, m2, un, hok, hE⟩ := h
  have un' : Un (frs (envOfC qual scope s0.heap.objs.size f cd :: outer)) [] H H' s.heap s'.heap := un
  have hl : s'.heap.FunFrames base (envOfC qual scope s0.heap.objs.size f cd :: outer) := frames_of (fun b hb o q => un'.slot b o q (I.stkFree b hb) hb (by simp)) I.stack
  have old : ∀ b o, s0.heap.get? b = some o → ∃ o', s.heap.get? b = some o' := fun b o q => I.base.there b o q (show b ∉ ([] : List Addr) by simp)
  have fresh : ∀ b, s.heap.get? b = none → s0.heap.get? b = none := fun b q => by
    cases z : s0.heap.get? b with
    | none => rfl
    | some o => obtain ⟨o', z'⟩ := old b o z; rw [q] at z'; cases z'
  have sub : ∀ b ∈ frs (envOfC qual scope s0.heap.objs.size f cd :: outer), b ∈ frs outer ∨ s0.heap.get? b = none := fun b hb => by
    rcases List.mem_cons.mp (show b ∈ s0.heap.objs.size :: frs outer from I.stkSub b hb) with q | q
    · exact .inr (by rw [q]; exact Heap.get?_none_of_le (Nat.le_refl _))
    · exact .inl q
  have frH : ∀ b ∈ frs (envOfC qual scope s0.heap.objs.size f cd :: outer), H' b = none := fun b hb => by
    obtain ⟨_, o, q, _⟩ := I.stack.mem hb
    exact un'.free b o q (I.stkFree b hb) (by simp)
  have u1 : Un (frs outer) [] H0 H' s0.heap s'.heap := by
    have nl : ∀ b o, s0.heap.get? b = some o → b ∉ frs outer → b ∉ frs (envOfC qual scope s0.heap.objs.size f cd :: outer) := fun b o q hb z => by
      rcases sub b z with y | y
      · exact hb y
      · rw [y] at q; cases q
    refine ⟨fun b o q n hb hz => un'.keep b o (I.base.keep b o q n hb hz) (I.base.free b o q n hz) (nl b o q hb) hz, fun b o q n hb hz => ?_, fun b o q n hz => ?_, fun b o q hz => ?_, fun b xs q => un'.tups b xs (I.base.tups b xs q), fun b o u q => un'.frzs b o u (I.base.frzs b o u q), fun b ps q => ?_⟩
    · obtain ⟨sl, z⟩ := I.base.slot b o q n hb hz
      obtain ⟨sl', z'⟩ := un'.any z (I.base.free b o q n hz) hz
      exact ⟨sl', z'⟩
    · obtain ⟨o', z⟩ := I.base.there b o q hz
      exact un'.free b o' z (I.base.free b o q n hz) hz
    · obtain ⟨o', z⟩ := I.base.there b o q hz
      exact un'.there b o' z hz
    · obtain ⟨m1', z1⟩ := I.base.tbls b ps q
      obtain ⟨m2', z2⟩ := un'.tbls b _ z1
      exact ⟨m1' ++ m2', by rw [z2, Array.append_assoc]⟩
  refine leave_next (base := base) I.ok.frames hl rfl fl fun h2 T' hn fl' k => ?_
  have z := un_kept u1 hok k (fun b hb => by
    rcases List.mem_cons.mp hb with q | q
    · rw [q]; exact ⟨n1, fresh ea m1⟩
    · have q' : b = T := by simpa using q
      rw [q']; exact ⟨n2, fresh T m2⟩) frH sub
  have nT' : s0.heap.get? T' = none := by
    cases y : s0.heap.get? T' with
    | none => rfl
    | some o =>
      obtain ⟨o', y'⟩ := u1.there T' o y (by simp)
      rw [hn] at y'; cases y'
  exact ⟨ea, T', cls, H', rfl, os.trans I.os, bare, fl', n1, hok.none_of hn, fresh ea m1, nT', z.1, z.2, hE⟩
/-- THE RULE for a def that may raise -/
theorem Fun.okX {x qual : Str} {st : Stmt} {f : Addr} {fd : FuncData} {N ps : List Str} {k : Nat} {sp : Sp} (F : Fun K x qual st f fd) (S : FnScope N ps (defScope st)) (len : ∀ vs H Q E, sp vs H Q E → vs.length = ps.length)
    (hbody : ∀ (cdv : Value) (A : Around) (outer : List Env) (s : Shared) (H : Hp) (vs : List V) (Q : VK) (E : XK), Room k (A.deeper (envOfC qual (defScope st) s.heap.objs.size f cdv)) → sp vs H Q E →
      ∃ t, PSs (cxOf (CXe P w) P w K mg base N qual (defScope st) f cdv A outer s H E) (defBody st) t ∧ t { nx := fun _ H' => Q .non H', rt := Q } (start N vs) H) : FnOk P w K mg base (CXe P w) (k + 1) f fd ps sp := by
  obtain ⟨oc, od, kV, doc, pm, an, cdv, ct, osl, rfl, lk, hcd⟩ := F.ex
  exact fn_of lk hcd S len fun A outer s H vs Q E hr hsp => hbody cdv A outer s H vs Q E hr hsp
end
/-! ## raise X('..') of an own class under ValueError -/
abbrev bmV : List Value := [.type "ValueError", .type "Exception", .type "BaseException", .type "object"]
section
open PySem.W
theorem own_here {K : Frag} {h : Heap} {mg : Str → Option Value} {x : Str} {C : Addr} {bmB : List Value} {newId : String} (X : K.In h) (b : mg x = some (.ref C)) (q : excIn K C bmB newId = true) : OwnCls x C bmB newId mg h := by
  refine ⟨b, ?_⟩
  unfold excIn at q
  split at q
  · rename_i e1 e2 e3 lk
    split at q
    · rename_i C2 tl j0 j1 j2 j3 nn j5 em es
      simp only [Bool.and_eq_true, beq_iff_eq, Bool.not_eq_true'] at q
      obtain ⟨⟨⟨⟨⟨rfl, rfl⟩, g1⟩, g2⟩, g3⟩, g4⟩ := q
      obtain ⟨y1, y2, y3, y4, y5, y6, y7, y8, y9, y10, y11⟩ := e2
      dsimp only at em g1 g3 g4
      subst em g1
      have z : e3 = #[j0, j1, j2, j3, some (.builtin nn), j5] := by
        obtain ⟨l⟩ := e3
        simp only at es
        rw [es]
      subst z
      exact ⟨_, _, _, _, _, _, _, _, _, _, _, _, _, _, _, _, _, X _ _ lk, .of_isNs (isNs_of_in X g3), nsMap_none_of_in X g3 g4, tail_of_in X g2⟩
    · cases q
  · cases q
end
section
variable {X : Cx}
def tRaise (EX : Hp → Prop) (ta : TA) : TS := fun _ σ H => ta σ H fun vs H1 => vs.length ≤ sizeLine ∧ EX H1
theorem ps_raise {x : Str} {C : Addr} {np cpos pos : Pos} {e : Expr} {ta : TA} {EX : Hp → Prop} (hc : X.calm = true) (hg : Gl X x) (hm : X.mg x = some (.ref C)) (q : PySem.W.excIn X.K C bmV "ValueError.__new__" = true) (ha : PA X [e] ta)
    (hx : ∀ pins σ H s h' ea vs, Inv X pins σ H s → Heap.MadeExcOf s.heap h' ea (.ref C) vs → EX H → X.xe (.ref ea) { s with heap := h' })
    (he : starEach [e] X.env = [(false, eval e X.env)] := by rfl) (hd : (x == ("__debug__" : Str)) = false := by decide) :
    PS X (.Raise (some (.Call (.Name x np) [e] [] cpos)) none pos) (tRaise EX ta) := by
  intro pins s σ H D I h
  have O : OwnCls x C bmV "ValueError.__new__" X.mg X.base := own_here I.mod.kin hm q
  obtain ⟨tl, N, nm, q1, bs, hdct, sn, sub, ab, col, dd, k0, k1, k2, k3, k5, mN, hC, hN, hni, T⟩ := O.obj
  refine wpAny_Raise_call_subT (C := C) (nm := nm) (q := q1) (N := N) (bs := bs) (bm := tl) (hdct := hdct) (sn := sn) (sub := sub) (ab := ab) (col := col) (dd := dd) (k0 := k0) (k1 := k1) (k2 := k2) (k3 := k3) (k5 := k5)
    PySem.F.excBase_ValueError (mN := mN) (T.hasType PySem.F.excBase_ValueError.hasBase) (I.ok.hd hc) (by rw [he]; rfl) hni (ld_glob I hg hm ⟨rfl, ?_⟩ hd)
  have hA := ha cpos pins s σ H _ I h
  rw [he] at hA ⊢
  refine Calls.evalArgs_plain (wpAny_mono hA (fun us s2 ⟨vs, H2, I2, r2, z, ex⟩ => ?_) fun _ _ y => y)
  exact ⟨rfl, by rw [← r2.length]; exact z, I2.bk _ _ hC, hN.keeps I2.bk, T.keeps I2.bk, fun h' ea hm' => hx pins σ H2 s2 h' ea us I2 hm' ex⟩
end
end L2

set_option Elab.async false
set_option linter.all false
set_option maxRecDepth 100000
namespace L2
open PySem PySem.Spec PyProof.Rows PySem.W
/-- what of the text an own exception class bears -/
structure XCls (K : Frag) (C : Addr) : Prop where
  ex : excIn K C bmV "ValueError.__new__" = true
  ga : findIn K (.ref C) "__getattribute__" = some (some (.builtin "BaseException.__getattribute__"))
  gn : findIn K (.ref C) "__getattr__" = some none
  cl : findIn K (.ref C) "__class__" = some (some (.builtin "object.__class__"))
  mb : mroIn K C (.type "BaseException") = some true
  mo : mroIn K C (.type "object") = some true
/-- an exception stands at e, nothing behind it -/
def ExcAt (e C : Addr) : Heap → Prop := fun h => ∃ oe vs, h.get? e = some oe ∧ oe.cls = .ref C ∧ oe.data = .fields vs ∧ vs[2]? = some .none
section
variable {prog : Program} {w : World} {A : Around} {E : Value → Shared → Prop} {h : Heap} {g : Array GenState} {d : Drawn} {t : Nat} {os : OsState} {a C : Addr} {o : Obj} {K : Frag}
theorem xc_get {R : Result → Shared → Prop} (X : K.In h) (x : XCls K C) (hx : h.get? a = some o) (hc : o.cls = .ref C) (hq : R (.ok (.ret (.ref C))) ⟨h, g, d, t, os⟩) :
    codeAny (model prog w) A (.call (.builtin "getset_descriptor.__get__") ⟨[.builtin "object.__class__", .ref a, .ref C], []⟩) R ⟨h, g, d, t, os⟩ := by
  have hT5 : (⟨h, g, d, t, os⟩ : Shared).TypeIs (.builtin "object.__class__") "getset_descriptor" := F.typeOf_object_class
  have LB : Looks (model prog w) h (isSubtype (.ref C) (.type (".".intercalate ("object.__class__".cutAt '.').dropLast))) true := by
    rw [F.owner_object_class]; exact looks_subIn X x.mo
  refine codeAny_call_builtin F.slot_gs_get.plain F.entry_gs_get (F.slot_gs_get.check _ _ _ _ _ _ _ _ hT5 (F.args_gs_get _ _ _) ?_)
  repeat (any_goals (first | assumption | (with_reducible refine wpAny_loadPart_at hx ?_; rw [hc]) | with_reducible refine LB.at ?_ | wp_step))
  refine ⟨Code.quiet_builtin _ (by decide +kernel), codeAny_builtin F.entry_object_class ?_⟩
  unfold Builtin.«object.__class__»
  repeat (any_goals (first | assumption | (with_reducible refine wpAny_loadPart_at hx ?_; rw [hc]) | wp_step))
theorem xc_entry {tk : Tok} {Q : Fin → Shared → Prop} (X : K.In h) (x : XCls K C) (hx : h.get? a = some o) (hc : o.cls = .ref C) (hq : Q (.done (.ret (.ref C))) ⟨h, g, d, t, os⟩) :
    wpAny (model prog w) A (Builtin.«object.__getattribute__» ⟨[.ref a, .str "__class__" tk], []⟩) Q E ⟨h, g, d, t, os⟩ := by
  have hT5 : (⟨h, g, d, t, os⟩ : Shared).TypeIs (.builtin "object.__class__") "getset_descriptor" := F.typeOf_object_class
  have f5 := F.typeOf_object_class
  have f6 := F.slot_gs_get.lookup
  have f7 := F.slot_gs_set.lookup
  have L1 : Looks (model prog w) h (typeLookup (.ref C) "__class__") (some (.builtin "object.__class__")) := looks_findIn X x.cl
  repeat (any_goals (first | assumption | (with_reducible refine wpAny_loadPart_at hx ?_; rw [hc]) | with_reducible refine L1.at ?_ | wp_step))
  refine xc_get X x hx hc ?_
  repeat (any_goals (first | assumption | wp_step))
theorem xc_check {M : Model} {nameV : Value} {Q : Unit → Shared → Prop} (X : K.In h) (x : XCls K C) (hx : h.get? a = some o) (hc : o.cls = .ref C) (hq : Q () ⟨h, g, d, t, os⟩) :
    wpAny M A (checkBuiltinCall "BaseException.__getattribute__" ⟨[.ref a, nameV], []⟩) Q E ⟨h, g, d, t, os⟩ := by
  have hk : builtinKind "BaseException.__getattribute__" = some .slot := by decide +kernel
  have hsplit : splitId "BaseException.__getattribute__" = some ("BaseException", "__getattribute__") := by decide +kernel
  have LB : Looks M h (isSubtype (.ref C) (.type "BaseException")) true := looks_subIn X x.mb
  have ha := F.args_bexc_ga (.ref a) nameV
  simp only [checkBuiltinCall, hk, hsplit]
  refine wpAny_bind ?_
  unfold isInstance
  repeat (first | (with_reducible refine wpAny_loadPart_at hx ?_; rw [hc]) | with_reducible refine LB.at ?_ | wp_step)
  exact hq
theorem xc_call {tk : Tok} {R : Result → Shared → Prop} (X : K.In h) (x : XCls K C) (hx : h.get? a = some o) (hc : o.cls = .ref C) (hq : R (.ok (.ret (.ref C))) ⟨h, g, d, t, os⟩) :
    codeAny (model prog w) A (.call (.builtin "BaseException.__getattribute__") ⟨[.ref a, .str "__class__" tk], []⟩) R ⟨h, g, d, t, os⟩ :=
  codeAny_call_builtin PySem.F.excAttr_ValueError.ga.plain F.entry_bexc_ga (xc_check X x hx hc (xc_entry X x hx hc hq))
theorem xc_by {tk : Tok} {Q : Value → Shared → Prop} (X : K.In h) (x : XCls K C) (hx : h.get? a = some o) (hc : o.cls = .ref C) (hq : Q (.ref C) ⟨h, g, d, t, os⟩) :
    wpAny (model prog w) A (getAttrBy (.ref a) (.str "__class__" tk) false) Q E ⟨h, g, d, t, os⟩ := by
  have f3 := PySem.F.excAttr_ValueError.ga.bind (.ref a)
  have hx2 : (Value.builtin "BaseException.__getattribute__" == Value.builtin "object.__getattribute__") = false := by decide +kernel
  have hx1 : (onTheHeap (Value.ref C) && Value.builtin "BaseException.__getattribute__" == Value.builtin "object.__getattribute__") = false := by rw [hx2]; rfl
  have L1 : Looks (model prog w) h (typeLookup (.ref C) "__getattribute__") (some (.builtin "BaseException.__getattribute__")) := looks_findIn X x.ga
  have L2' : Looks (model prog w) h (typeLookup (.ref C) "__getattr__") none := looks_findIn X x.gn
  repeat (any_goals (first | assumption | (with_reducible refine wpAny_loadPart_at hx ?_; rw [hc]) | with_reducible refine L1.at ?_ | with_reducible refine L2'.at ?_ | wp_step))
  refine xc_call X x hx hc ?_
  repeat (any_goals (first | assumption | wp_step))
theorem xc_attr {Q : Option Value → Shared → Prop} (X : K.In h) (x : XCls K C) (hx : h.get? a = some o) (hc : o.cls = .ref C) (hq : Q (some (.ref C)) ⟨h, g, d, t + 1, os⟩) : wpAny (model prog w) A (getAttr? (.ref a) "__class__") Q E ⟨h, g, d, t, os⟩ := by
  unfold getAttr? getAttrBy?
  repeat (any_goals (first | assumption | with_reducible apply xc_by X x hx hc | wp_step))
end
theorem xc_cls {K : Frag} {C : Addr} (x : XCls K C) : ∃ c' d' cd' sl', K.lookup C = some ⟨c', d', .cls cd', sl'⟩ ∧ c' = .type "type" := by
  have q := x.ex
  unfold excIn at q
  split at q
  · rename_i e1 e2 e3 lk
    exact ⟨_, _, _, _, lk, rfl⟩
  · cases q
theorem kitx_exc {K : Frag} {e C : Addr} (x : XCls K C) : KitX K (.ref e) (.ref C) (ExcAt e C) where
  ty := fun M h X p => by
    obtain ⟨oe, vs, h1, h2, _⟩ := p
    exact h2 ▸ (Looks.ld h1).andThen .now
  it := fun M h X p => by
    obtain ⟨c', d', cd', sl', ho, _⟩ := xc_cls x
    intro A' Q' E' s' k q
    unfold isType loadHead
    exact wpAny_bind (wpAny_loadPart (k _ _ (X _ _ ho)) (wpAny_pure q))
  ne := fun h tp dd its n sl X htp => by
    obtain ⟨c', d', cd', sl', ho, _⟩ := xc_cls x
    refine Bool.eq_false_iff.mpr fun q => ?_
    have ee : C = tp := Value.ref.inj (beq_iff_eq.mp q)
    subst ee
    have z := (X _ _ ho).symm.trans htp
    cases z
  ca := fun {prog w A E Q s} X p k => by
    obtain ⟨oe, vs, h1, h2, _⟩ := p
    obtain ⟨h, g, d, t, os⟩ := s
    exact xc_attr X x h1 h2 k
/-- an exception, tracked -/
abbrev excO (e C : Addr) : HO := .ext (ExcAt e C)
theorem excO_ok {P : Program} {w : World} {H : Hp} {h : Heap} {e C : Addr} (x : ExcAt e C h) : ObjOk P w H h e (excO e C) :=
  ⟨x, let ⟨oe, _, h1, _⟩ := x; ⟨oe, h1⟩, fun h1 h2 ⟨oe, vs, a1, a2, a3, a4⟩ k => ⟨oe, vs, k _ a1, a2, a3, a4⟩⟩
def rIsX (K : Frag) : List V → Hp → VK → Prop := fun xs H Q => ∃ e C c k, xs = [.ref e, c] ∧ H e = some (excO e C) ∧ XCls K C ∧ ((∃ D, c = .ref D ∧ kitOne K (.ref C) (.ref D) = some k) ∨ (∃ T, c = .ty T ∧ kitOne K (.ref C) (.type T) = some k)) ∧ Q (.bl k) H
section
variable {X : Cx}
theorem call_isX (K : Frag) (hK : X.K = K := by rfl) : CallR X (.builtin "isinstance") (rIsX K) := by
  subst hK
  intro pins s σ H xs us Q I r h
  obtain ⟨e, C, c, k, rfl, he, x, hc, q⟩ := h
  obtain ⟨u, v, rfl, ru, rv⟩ := r.two
  cases ru
  obtain ⟨p, _, _⟩ := (show ObjOk X.prog X.w H s.heap e (excO e C) from I.hok e _ he)
  rcases hc with ⟨D, rfl, z⟩ | ⟨T, rfl, z⟩
  · cases rv
    exact kia_one (kitx_exc x) I.kIn p z (fun z => nomatch z) fun tk => ⟨.bl k, H, I.tok tk, rfl, q⟩
  · cases rv
    exact kia_one (kitx_exc x) I.kIn p z (fun z => nomatch z) fun tk => ⟨.bl k, H, I.tok tk, rfl, q⟩
end
end L2

set_option Elab.async false
set_option linter.all false
set_option maxRecDepth 100000
namespace L2
open PySem PySem.Spec PyProof.Rows PySem.W
theorem entry_unchain : entryFor table "proto.unchain" = some Builtin.«proto.unchain» := entryFor_of_tree (by kernel_rfl)
section
variable {prog : Program} {w : World} {A : Around} {E : Value → Shared → Prop} {s : Shared}
/-- a new exception while another one is handled, behind which nothing hangs -/
theorem raise_under {α : Type} {e a : Addr} {oe on : Obj} {vs ns : Array Value} {Q : α → Shared → Prop} (hh : A.handled = some (.ref e)) (he : s.heap.get? e = some oe) (hd : oe.data = .fields vs) (h2 : vs[2]? = some .none) (hne : e ≠ a)
    (ha : s.heap.get? a = some on) (hn : on.data = .fields ns) (hz : 2 < ns.size)
    (h : E (.ref a) { s with heap := s.heap.update a (Obj.mapFields (·.setIfInBounds 2 (.ref e))) }) : wpAny (model prog w) A (raiseNew (.ref a) : Sem α) Q E s := by
  unfold raiseNew
  refine wpAny_bind (wpAny_handled ?_)
  rw [hh]
  have hb : (Value.ref e != Value.ref a) = true := by simp [hne]
  simp only [hb, if_true]
  refine wpAny_bind (wpAny_holding ?_)
  unfold runValue
  refine wpAny_bind (wpAny_run (codeAny_builtin entry_unchain ?_))
  unfold Builtin.«proto.unchain»
  refine wpAny_bind (wpAny_field he hd h2 ?_)
  rw [if_pos (by decide)]
  refine wpAny_pure ?_
  refine wpAny_pure ?_
  unfold updateField
  refine wpAny_bind (wpAny_bind (wpAny_load ha ?_))
  rw [hn]
  simp only [hz, if_true]
  exact wpAny_update ha (wpAny_throw h)
theorem next_end_h {it l e C : Addr} {i : Nat} {items : Array Value} {Q : Option Value → Shared → Prop} (hh : A.handled = some (.ref e)) (hx : ExcAt e C s.heap) (hit : s.heap.IsListIter it l i) (hl : s.heap.IsList l items) (hi : items[i]? = none) (hei : e ≠ it)
    (hQ : ∀ h', Heap.ExtBut it s.heap h' → Q none { s with heap := h' }) : wpAny (model prog w) A (pyNext (.ref it)) Q E s := by
  obtain ⟨o, ho, hc, hd⟩ := id hit
  obtain ⟨ol, hol, _, nl, hdl⟩ := hl
  obtain ⟨oe, vs, he, _, hde, h2⟩ := hx
  unfold pyNext
  refine wpAny_bind (wpAny_attempt (wpAny_callSpecial?_slot (name := Str.ofString "__next__") hit.typeIs slot_listiter_next (wpAny_call_entry slot_listiter_next hit.typeIs entry_listiter_next ?_ (args_listiter_next _))))
  show wpAny _ _ (field (.ref it) 0 >>= _) _ _ s
  refine wpAny_bind (wpAny_field ho hd (x := .ref l) rfl ?_)
  show wpAny _ _ (if (Value.ref l == Value.none) = true then _ else _) _ _ s
  rw [if_neg (show ¬ ((Value.ref l == Value.none) = true) from Bool.false_ne_true)]
  show wpAny _ _ (field (.ref it) 1 >>= _) _ _ s
  refine wpAny_bind (wpAny_field ho hd (x := .int i 0) rfl ?_)
  show wpAny _ _ (seqItems? (.ref l) >>= _) _ _ s
  refine wpAny_bind (wpAny_seqItems hol hdl ?_)
  simp only [Int.toNat_natCast, hi]
  refine wpAny_bind (wpAny_rule (wpAny_bind (wpAny_setField ho hd (by simp) ?_)))
  show wpAny _ _ (newExc (.type "StopIteration") [] >>= _) _ _ _
  refine wpAny_bind ?_
  simp only [newExc, newTuple]
  refine wpAny_bind (wpAny_newObj_type ?_ (by size_fits))
  refine wpAny_bind (m := firstArgMember _ _) (wpAny_of_eq (a := Value.none) (by first | rfl | (simp only [firstArgMember]; rfl)) ?_)
  refine wpAny_newObj_type ?_ (by size_fits)
  dsimp only
  generalize hG : (s.heap.update it (Obj.mapFields (·.setIfInBounds 0 Value.none))).push { cls := .type "tuple", dict := none, data := .seq ([] : List Value).toArray } = G
  have k1 : Heap.ExtBut it s.heap G := by rw [← hG]; exact (Heap.SameBut.update ..).extBut.push _
  have heG : G.get? e = some oe := k1 e oe hei he
  generalize hon : ({ cls := .type "StopIteration", dict := none, data := _ } : Obj) = on
  have hne : e ≠ G.objs.size := Nat.ne_of_lt (Heap.lt_size heG)
  refine raise_under (A := A.in1) hh (Heap.get?_push_of_some on heG) hde h2 hne (Heap.get?_push_size G (by rw [← hon]; rfl)) (by rw [← hon]) (by rw [Array.size_append]; exact Nat.lt_of_lt_of_le (show 2 < 6 by decide) (Nat.le_add_right _ _)) ?_
  refine wpAny_bind (wpAny_isInstance (T := "StopIteration") (b := true) ⟨_, Heap.get?_update_self _ (Heap.get?_push_size G (by rw [← hon]; rfl)) (by rw [← hon]; rfl), by rw [← hon]; rfl⟩ isSubtype_stop ?_)
  refine wpAny_pure (hQ _ fun b ob hb q => ?_)
  have q2 := k1 b ob hb q
  rw [Heap.get?_update_other _ _ (Nat.ne_of_gt (Heap.lt_size q2))]
  exact Heap.get?_push_of_some _ q2
theorem walks_h {e C I ax : Addr} (hh : A.handled = some (.ref e)) (hne : ax ≠ I) (hei : e ≠ I) (items : Array Value) :
    Walks prog w A I [I, ax, e] [I] items.size (fun i v => items[i]? = some v) (fun i h => h.IsListIter I ax i ∧ h.IsList ax items ∧ ExcAt e C h) where
  sub := fun b hb => by simp at hb; simp [hb]
  frame := fun _ _ _ st hk => ⟨st.1.at fun o q => hk I (by simp) o q, st.2.1.at fun o q => hk ax (by simp) o q, let ⟨oe, vs, a1, a2⟩ := st.2.2; ⟨oe, vs, hk e (by simp) _ a1, a2⟩⟩
  item := fun i s Q E hi st hQ => by
    refine wpAny_pyNext_list_item st.1 st.2.1 (x := items[i]) (by simp [hi]) fun h' hit' hs' => ?_
    obtain ⟨oe, vs, a1, a2⟩ := st.2.2
    exact hQ _ h' s.toks (by simp [hi]) ⟨hit', st.2.1.extBut hs'.extBut hne, oe, vs, hs'.extBut e oe hei a1, a2⟩ fun b o hb q => hs'.extBut b o (fun z => hb (by simp [z])) q
  done := fun s Q E st hQ => next_end_h hh st.2.2 st.1 st.2.1 (by simp) hei fun h' he' => hQ h' s.toks fun b o hb q => he' b o (fun z => hb (by simp [z])) q
  self := fun _ _ _ _ st hQ => wpAny_pyIter_listiter st.1 hQ
theorem any_h {e C l : Addr} {vs : List Value} {bs : List Bool} {Q : Value → Shared → Prop} (hh : A.handled = some (.ref e)) (hx : ExcAt e C s.heap) (hl : s.heap.IsList l vs.toArray) (hb : LSm.BoolsAre vs bs)
    (h : ∀ h' tk, (∀ b x, s.heap.get? b = some x → h'.get? b = some x) → Q (.bool (bs.any id)) { s with heap := h', toks := tk }) :
    wpAny (model prog w) A (call (.builtin "any") [.ref l]) Q E s := by
  have hlt : l < s.heap.objs.size := by obtain ⟨_, q, _⟩ := hl; exact Heap.lt_size q
  have hlte : e < s.heap.objs.size := by obtain ⟨_, _, q, _⟩ := hx; exact Heap.lt_size q
  obtain ⟨oe, ws, a1, a2⟩ := id hx
  refine call_any_walk (wpAny_pyIter_list hl ⟨s.heap.objs.size, [s.heap.objs.size, l, e], [s.heap.objs.size], vs.toArray.size, _, _, fun i => (bs[i]?).getD false, rfl,
    walks_h (A := A.in1) (C := C) hh (Nat.ne_of_lt hlt) (Nat.ne_of_lt hlte) vs.toArray, ⟨⟨_, Heap.get?_push_size _ rfl, rfl, rfl⟩, hl.push _, oe, ws, Heap.get?_push_of_some _ a1, a2⟩, fun i v s' Q' E' hP hQ => ?_, fun h' tk hk => ?_⟩)
  · obtain ⟨b, q, rfl⟩ := hb.get i v (by simpa using hP)
    simp only [q, Option.getD_some] at hQ
    exact wpAny_truthy_bool hQ
  · have q : ((List.range vs.toArray.size).any fun i => (bs[i]?).getD false) = bs.any id := by
      rw [List.size_toArray, hb.length]; exact LSm.range_any bs
    rw [q]
    exact h h' tk (LSm.kept_iter hk)
end
def rAnyH (K : Frag) (e : Addr) : List V → Hp → VK → Prop := fun xs H Q => ∃ (p : Addr) (bs : List Bool) (C : Addr), xs = [.ref p] ∧ SqL K H p (bs.map V.bl) ∧ H e = some (excO e C) ∧ Q (.bl (bs.any id)) H
theorem call_anyH {X : Cx} (K : Frag) (e : Addr) (hh : X.A.handled = some (.ref e)) (hK : X.K = K := by rfl) : CallR X (.builtin "any") (rAnyH K e) := by
  subst hK
  intro pins s σ H xs us Q I r h
  obtain ⟨p, bs, C, rfl, hq, he, q⟩ := h
  obtain ⟨u, rfl, ru⟩ := r.one
  cases ru
  obtain ⟨its, rv, pl, hz⟩ := I.list hq
  obtain ⟨x, _, _⟩ := (show ObjOk X.prog X.w H s.heap e (excO e C) from I.hok e _ he)
  exact any_h hh x pl.isList (bools_of rv) fun h' tk hk => ⟨.bl _, H, I.kept hk, rfl, q⟩
end L2

set_option Elab.async false
set_option linter.all false
set_option maxRecDepth 100000
namespace L2
open PySem PySem.Spec PyProof.Rows PySem.W
/-! ## try, except C as n -/
section
variable {M : Model} {A : Around} {E : Value → Shared → Prop} {s : Shared} {K : Frag}
theorem exc_matches {e C D : Addr} {Q : Bool → Shared → Prop} {k : Bool} (X : K.In s.heap) (x : XCls K D) (he : ExcAt e C s.heap) (hs : mroIn K C (.ref D) = some k) (h : Q k s) : wpAny M A (excMatches (.ref e) (.ref D)) Q E s := by
  obtain ⟨hh, g, d, tk, os⟩ := s
  obtain ⟨oe, vs, h1, h2, _⟩ := he
  obtain ⟨c', d', cd', sl', ho, rfl⟩ := xc_cls x
  have hD := X _ _ ho
  have LB : Looks M hh (isSubtype (.ref D) (.type "BaseException")) true := looks_subIn X x.mb
  have LS : Looks M hh (isSubtype (.ref C) (.ref D)) k := looks_subIn X hs
  have f := tc_notTuple
  unfold excMatches
  repeat (first | (with_reducible refine wpAny_loadPart_at h1 ?_; rw [h2]) | with_reducible refine wpAny_loadPart_at hD ?_ | with_reducible refine LB.at ?_ | with_reducible refine LS.at ?_ | wp_step)
  cases k
  · repeat (first | exact h | wp_step)
  · repeat (first | exact h | wp_step)
end
abbrev Cx.inTry (X : Cx) (pn : List (Addr × Obj)) (xe : Value → Shared → Prop) : Cx := { X with pn := pn, xe := xe }
abbrev Cx.inSuite (X : Cx) (ea : Addr) : Cx := { X with A := X.A.mark (some (.ref ea)), calm := false, xe := fun _ _ => False }
section
variable {X : Cx} {pins pins' : List (Addr × Obj)} {σ : St} {H : Hp} {s : Shared} {xe : Value → Shared → Prop} {ea : Addr}
theorem Inv.toTry (I : Inv X pins σ H s) (xe : Value → Shared → Prop) : Inv (X.inTry (X.pn ++ pins) xe) [] σ H s :=
  ⟨⟨I.ok.mod, I.ok.kind, I.ok.glob, I.ok.blt, I.ok.above, I.ok.inj, I.ok.has, I.ok.cab, I.ok.hd, I.ok.frames, I.ok.stk, I.ok.exf, I.ok.bs, I.ok.bsz, I.ok.noex, I.ok.exfs, I.ok.funs, I.ok.frf⟩, I.os, I.bare, I.base, I.loc, I.cell, I.free, I.freeC,
    fun p hp => I.pin p (by rw [List.append_nil] at hp; exact hp), I.hok, I.len⟩
theorem Inv.ofTry (I : Inv (X.inTry (X.pn ++ pins) xe) pins' σ H s) : Inv X pins σ H s :=
  ⟨⟨I.ok.mod, I.ok.kind, I.ok.glob, I.ok.blt, I.ok.above, I.ok.inj, I.ok.has, I.ok.cab, I.ok.hd, I.ok.frames, I.ok.stk, I.ok.exf, I.ok.bs, I.ok.bsz, I.ok.noex, I.ok.exfs, I.ok.funs, I.ok.frf⟩, I.os, I.bare, I.base, I.loc, I.cell, I.free, I.freeC,
    fun p hp => I.pin p (List.mem_append_left _ hp), I.hok, I.len⟩
theorem Inv.toSuite (I : Inv X pins σ H s) (ea : Addr) : Inv (X.inSuite ea) pins σ H s :=
  ⟨⟨I.ok.mod, I.ok.kind, I.ok.glob, I.ok.blt, I.ok.above, I.ok.inj, I.ok.has, I.ok.cab, (fun h => nomatch h), I.ok.frames, I.ok.stk, I.ok.exf, I.ok.bs, I.ok.bsz, I.ok.noex, I.ok.exfs, I.ok.funs, I.ok.frf⟩, I.os, I.bare, I.base, I.loc, I.cell, I.free, I.freeC, I.pin, I.hok, I.len⟩
theorem Inv.ofSuite (I : Inv (X.inSuite ea) pins σ H s) (ok : X.Ok) : Inv X pins σ H s := ⟨ok, I.os, I.bare, I.base, I.loc, I.cell, I.free, I.freeC, I.pin, I.hok, I.len⟩
/-- an object that stood untracked is tracked from here on -/
theorem Inv.track {a : Addr} {o : HO} (I : Inv X pins σ H s) (na : X.s₀.heap.get? a = none) (hn : H a = none) (new : ObjOk X.prog X.w (upd H a o) s.heap a o) (nl : a ≠ X.env.locals) (nc : ∀ x c, X.env.cells.lookup x = some c → c ≠ a) (np : ∀ p ∈ X.pn ++ pins, p.1 ≠ a) :
    Inv X pins σ (upd H a o) s := by
  have ne : ∀ {b : Addr} {u : HO}, H b = some u → b ≠ a := fun q => ne_of_none q hn
  refine ⟨I.ok, I.os, I.bare, ⟨I.base.keep, I.base.slot, fun b ob e n hx => ?_, I.base.there, fun b xs e => ?_, fun b ob u e => ?_, fun b ps e => ?_⟩, I.loc, I.cell, ?_, fun x c e => ?_, fun p hp => ?_, fun b u e => ?_, I.len⟩
  · rw [upd_ne (fun z => by rw [z, na] at e; cases e)]; exact I.base.free b ob e n hx
  · have z := I.base.tups b xs e; rw [upd_ne (ne z)]; exact z
  · have z := I.base.frzs b ob u e; rw [upd_ne (ne z)]; exact z
  · obtain ⟨more, z⟩ := I.base.tbls b ps e; exact ⟨more, by rw [upd_ne (ne z)]; exact z⟩
  · rw [upd_ne (Ne.symm nl)]; exact I.free
  · rw [upd_ne (nc x c e)]; exact I.freeC x c e
  · obtain ⟨e1, e2, e3, e4, e5⟩ := I.pin p hp
    exact ⟨e1, by rw [upd_ne (np p hp)]; exact e2, e3, e4, e5⟩
  · by_cases hb : b = a
    · subst hb
      rw [upd_same] at e; cases e
      exact new
    · rw [upd_ne hb] at e
      exact (I.hok b u e).stay (fun _ _ _ q => q) (fun c q => by rw [upd_ne (ne q)]; exact q) fun c xs q => by rw [upd_ne (ne q)]; exact q
/-- all names forgotten -/
theorem Inv.forget (I : Inv X pins σ H s) : Inv X pins (List.replicate X.N.length none) H s := I.weak (by rw [List.length_replicate, I.len]) fun i v e => by
  rw [List.getElem?_replicate] at e
  split at e <;> cases e
/-- the name behind the suite goes -/
theorem unbind_ok {M : Model} {A : Around} {E : Value → Shared → Prop} {n : Str} {i : Nat} {pos : Pos} {Q : Unit → Shared → Prop} (I : Inv X pins σ H s) (hN : X.N.Nodup) (hi : X.N[i]? = some n) (hl : X.env.scope.names.lookup n = some .local)
    (h : ∀ s', Inv X pins (List.replicate X.N.length none) H s' → Q () s') : wpAny M A (do bindName X.env n .none; unbindBehindTheSuite X.env n pos) Q E s := by
  refine wpAny_bind (wpAny_bindName (store_ok2 I hN hi (.inl hl) (v := .non) rfl (fun s1 I1 _ => ?_) (.inr hl)))
  unfold unbindBehindTheSuite
  refine wpAny_onRaise ?_
  obtain ⟨m, hn, hlk⟩ := I1.loc
  have hiσ : i < σ.length := by rw [I.len]; exact (List.getElem?_eq_some_iff.mp hi).1
  obtain ⟨u, r, q⟩ := hlk i n .non hi (by rw [List.getElem?_set_self hiσ]) (.inl hl)
  have hv : m n = some u := by
    rcases q with ⟨_, z⟩ | ⟨z, _⟩
    · exact z
    · have hl' : X.env.kindOf n = some .local := hl
      rw [hl'] at z
      rcases z with z | z <;> cases z
  refine wpAny_unbindName_local hl hn hv (by rw [I.ok.kind]; rfl) fun h' u' hn' sb => h _ ?_
  have I2 := I1.forget
  refine ⟨I2.ok, I2.os, I2.bare, ⟨fun b o e n' hb hx => ?_, fun b o e n' hb hx => ?_, I2.base.free, fun b o e hx => ?_, I2.base.tups, I2.base.frzs, I2.base.tbls⟩, ⟨_, hn', fun j y v e1 e2 e3 => ?_⟩, fun y c e => ?_, I2.free, I2.freeC, fun p hp => ?_, fun b ob e => ?_, I2.len⟩
  · exact (sb.2 b (Nat.ne_of_lt (Nat.lt_of_lt_of_le (Heap.lt_size e) I.ok.above))).trans (I2.base.keep b o e n' hb hx)
  · obtain ⟨sl, z⟩ := I2.base.slot b o e n' hb hx
    exact ⟨sl, (sb.2 b (Nat.ne_of_lt (Nat.lt_of_lt_of_le (Heap.lt_size e) I.ok.above))).trans z⟩
  · obtain ⟨o', z⟩ := I2.base.there b o e hx
    exact ⟨o', (sb.2 b (Nat.ne_of_lt (Nat.lt_of_lt_of_le (Heap.lt_size e) I.ok.above))).trans z⟩
  · rw [List.getElem?_replicate] at e2
    split at e2 <;> cases e2
  · obtain ⟨v, z⟩ := I2.cell y c e
    exact ⟨v, z.sameBut sb (I.cne y c e)⟩
  · obtain ⟨e1, e2, e3, e4, e5⟩ := I2.pin p hp
    exact ⟨(sb.2 p.1 e3).trans e1, e2, e3, e4, e5⟩
  · refine (I2.hok b ob e).stay (fun c v hc z => (sb.2 c ?_).trans z) (fun _ z => z) fun _ _ z => z
    rintro rfl
    rcases hc with rfl | hc
    · rw [I2.free] at e; cases e
    · rw [I2.free] at hc; cases hc
end
section
variable {X : Cx}
/-- what is wanted of an exception that the body lets out: it is caught, and the suite goes well -/
def Caught (X : Cx) (Cc : Addr) (i : Nat) (ts : Addr → TS) (D : Ends) : XK := fun cls _ H' => ∃ C, cls = .ref C ∧ XCls X.K C ∧ mroIn X.K C (.ref Cc) = some true ∧
  ∀ ea, H' ea = none → ts ea { nx := fun _ H2 => D.nx (List.replicate X.N.length none) H2, rt := D.rt } ((List.replicate X.N.length none).set i (some (.ref ea))) (upd H' ea (excO ea C))
theorem catch_own {cn n : Str} {cnp hpos : Pos} {Cc : Addr} {i : Nat} {b0 : Stmt} {suite : List Stmt} {ts : Addr → TS} (hex : X.ex = []) (hst : X.stack = X.env :: X.outer) (hf : X.env.frame = some X.env.locals) (hg : Gl X cn) (hm : X.mg cn = some (.ref Cc)) (xc : XCls X.K Cc)
    (hN : X.N.Nodup) (hi : X.N[i]? = some n) (hl : X.env.scope.names.lookup n = some .local) (hsu : ∀ ea, PSs (X.inSuite ea) (b0 :: suite) (ts ea))
    {pins pins' : List (Addr × Obj)} {σ : St} {H : Hp} {s s' : Shared} {e : Value} {D : Ends} {xe : Value → Shared → Prop} (I : Inv (X.inTry (X.pn ++ pins) xe) pins' σ H s) (h : CXe X.prog X.w X.stack H s (Caught X Cc i ts D) e s') (hd : (cn == ("__debug__" : Str)) = false := by decide) :
    wpAny (model X.prog X.w) X.A (noteFrame e X.env) (fun _ s2 => wpAny (model X.prog X.w) X.A (setFlight e none) (fun _ s3 =>
      wpAny (model X.prog X.w) X.A (handleBy e X.env [.ExceptHandler (some (.Name cn cnp)) (some n) (b0 :: suite) hpos]) (SP X pins D) X.xe s3) X.xe s2) X.xe s' := by
  obtain ⟨ea, T, cls, H', rfl, os, bare, fl, n1, n2, m1, m2, un, hok, C, rfl, xC, hsub, hts⟩ := h
  have IX : Inv X pins σ H s := I.ofTry
  have fr : s'.heap.FunFrames X.base X.stack := frames_of (fun b hb o q => un.slot b o q (IX.stkFree b hb) hb (by simp)) IX.stack
  have frH : ∀ b ∈ frs X.stack, H' b = none := fun b hb => by
    obtain ⟨_, o, q, _⟩ := IX.stack.mem hb
    exact un.free b o q (IX.stkFree b hb) (by simp)
  have hst' : frs (X.env :: X.outer) = frs X.stack := by rw [hst]
  refine note_own (base := X.base) (outer := X.outer) (by rw [← hst]; exact IX.ok.frames) (by rw [← hst]; exact fr) hf fl fun h2 T' hn fl2 k => ?_
  rw [hst'] at k
  have z2 := un_kept un hok k (fun b hb => by
    rcases List.mem_cons.mp hb with q | q
    · rw [q]; exact ⟨n1, m1⟩
    · have q' : b = T := by simpa using q
      rw [q']; exact ⟨n2, m2⟩) frH fun b hb => .inl hb
  have mT' : s.heap.get? T' = none := by
    cases y : s.heap.get? T' with
    | none => rfl
    | some o =>
      obtain ⟨o', y'⟩ := un.there T' o y (by simp)
      rw [hn] at y'; cases y'
  have nT' : H' T' = none := hok.none_of hn
  have exT : ∀ b ∈ [T'], H' b = none ∧ s.heap.get? b = none := fun b hb => by
    have q : b = T' := by simpa using hb
    rw [q]; exact ⟨nT', mT'⟩
  have flk : ∀ {ha hb : Heap}, (∀ b o, b ≠ T' → ha.get? b = some o → hb.get? b = some o) → KeptX (frs X.stack) [T'] ha hb := fun kk => ⟨fun b o _ hx q => kk b o (fun z => hx (by simp [z])) q, fun b o _ hx q => ⟨o.slots, kk b o (fun z => hx (by simp [z])) q⟩⟩
  refine flight_own (s := { s' with heap := h2 }) fl2 fun h3 fl3 k3 => ?_
  have z3 := un_kept z2.1 z2.2 (flk k3) exT frH fun b hb => .inl hb
  have I3 : Inv X pins σ H' { s' with heap := h3 } := IX.call' (s' := { s' with heap := h3 }) (ch := []) os z3.1 z3.2 bare fun b hb => absurd hb (by simp)
  have xAt : ∀ {hh : Heap} {fl : Value}, Fly hh ea T' (.ref C) fl → ExcAt ea C hh := fun f => let ⟨oe, vs, _, _, e1, e2, e3, _, e5, _⟩ := f; ⟨oe, vs, e1, e2, e3, e5⟩
  have IS := I3.forget.toSuite ea
  refine wpAny_handleBy_cons (codeAny_handlers_test (ld_glob IS hg hm (exc_matches IS.kIn xc (xAt fl3) hsub ?_) hd)) (by intro q; cases q)
  refine codeAny_handlers_suite_as (flight_own (s := { s' with heap := h3 }) fl3 fun h4 fl4 k4 => ?_)
  have z4 := un_kept z3.1 z3.2 (flk k4) exT frH fun b hb => .inl hb
  have I4 : Inv X pins σ H' { s' with heap := h4 } := IX.call' (s' := { s' with heap := h4 }) (ch := []) os z4.1 z4.2 bare fun b hb => absurd hb (by simp)
  have I5 : Inv X pins σ (upd H' ea (excO ea C)) { s' with heap := h4 } := by
    refine I4.track ?_ n1 (excO_ok (xAt fl4)) ?_ ?_ ?_
    · cases y : X.s₀.heap.get? ea with
      | none => rfl
      | some o =>
        by_cases hx : ea ∈ X.ex
        · rw [hex] at hx; cases hx
        · obtain ⟨o', y'⟩ := IX.base.there ea o y hx
          rw [m1] at y'; cases y'
    · intro z
      obtain ⟨m, ⟨o, _, _, q, _⟩, _⟩ := IX.loc
      rw [← z, m1] at q; cases q
    · intro x c q z
      obtain ⟨v, o, q', _⟩ := IX.cell x c q
      rw [z, m1] at q'; cases q'
    · intro p hp z
      have q := (IX.pin p hp).1
      rw [z, m1] at q; cases q
  refine store_ok2 (X := X.inSuite ea) (I5.forget.toSuite ea) hN hi (.inl hl) (v := .ref ea) rfl (fun s5 I6 _ => ?_) (.inr hl)
  refine wpAny_mono (hsu ea pins s5 _ _ _ I6 (hts ea n1)) (fun f s6 sp => ?_) fun _ _ z => z.elim
  cases f with
  | next =>
    obtain ⟨σ7, H7, I7, q7⟩ := sp
    exact unbind_ok (I7.ofSuite IX.ok) hN hi hl fun s8 I8 => ⟨_, H7, I8, q7⟩
  | brk => obtain ⟨σ7, H7, I7, q7⟩ := sp; exact q7.elim
  | cont => obtain ⟨σ7, H7, I7, q7⟩ := sp; exact q7.elim
  | ret u =>
    obtain ⟨v, σ7, H7, I7, r7, q7⟩ := sp
    exact unbind_ok (I7.ofSuite IX.ok) hN hi hl fun s8 I8 => ⟨v, _, H7, I8, r7, q7⟩
/-- try: body / except Cc as n: suite -/
def tTry (X : Cx) (Cc : Addr) (i : Nat) (tb : XK → TS) (ts : Addr → TS) : TS := fun D σ H => tb (Caught X Cc i ts D) D σ H
theorem ps_try {cn n : Str} {cnp hpos pos : Pos} {Cc : Addr} {i : Nat} {body : List Stmt} {b0 : Stmt} {suite : List Stmt} {tb : XK → TS} {ts : Addr → TS} (hex : X.ex = []) (hst : X.stack = X.env :: X.outer) (hf : X.env.frame = some X.env.locals) (hg : Gl X cn) (hm : X.mg cn = some (.ref Cc)) (xc : XCls X.K Cc)
    (hN : X.N.Nodup) (hi : X.N[i]? = some n) (hl : X.env.scope.names.lookup n = some .local) (hb : ∀ pn xe Eh, Passes (CXe X.prog X.w) (X.inTry pn xe) Eh → PSs (X.inTry pn xe) body (tb Eh)) (hsu : ∀ ea, PSs (X.inSuite ea) (b0 :: suite) (ts ea)) (hd : (cn == ("__debug__" : Str)) = false := by decide) :
    PS X (.Try body [.ExceptHandler (some (.Name cn cnp)) (some n) (b0 :: suite) hpos] [] [] pos) (tTry X Cc i tb ts) := by
  intro pins s σ H D I h
  refine wpAny_Try_except ?_
  refine wpAny_mono (hb (X.pn ++ pins) (fun e s1 => wpAny (model X.prog X.w) X.A (noteFrame e X.env) (fun _ s2 => wpAny (model X.prog X.w) X.A (setFlight e none) (fun _ s3 =>
      wpAny (model X.prog X.w) X.A (handleBy e X.env [.ExceptHandler (some (.Name cn cnp)) (some n) (b0 :: suite) hpos]) (SP X pins D) X.xe s3) X.xe s2) X.xe s1) (Caught X Cc i ts D)
    (fun pins' σ' H' s' e s'' I' h' => catch_own hex hst hf hg hm xc hN hi hl hsu I' h' hd) [] s σ H D (I.toTry _) h) (fun f s1 sp => ?_) fun e s1 z => z
  cases f with
  | next => obtain ⟨σ1, H1, I1, q1⟩ := sp; exact wpAny_execs_nil ⟨σ1, H1, I1.ofTry, q1⟩
  | brk => obtain ⟨σ1, H1, I1, q1⟩ := sp; exact ⟨σ1, H1, I1.ofTry, q1⟩
  | cont => obtain ⟨σ1, H1, I1, q1⟩ := sp; exact ⟨σ1, H1, I1.ofTry, q1⟩
  | ret u => obtain ⟨v, σ1, H1, I1, r1, q1⟩ := sp; exact ⟨v, σ1, H1, I1.ofTry, r1, q1⟩
end
end L2

set_option Elab.async false
set_option linter.all false
set_option maxRecDepth 100000
namespace L2
open PySem PySem.Spec PyProof.Rows PySem.W
section
variable {X : Cx} {CX : CXT} {k : Nat} {f : Addr} {fd : FuncData} {ps : List Str} {sp : Sp} {dvs : List V} {ds : List Value} {E : XK} {x : Str} {p pos : Pos} {e : Expr} {es : List Expr} {tf : TE} {t : TA}
/-- a call of a def that a name of the body holds -/
def tCallV (f : Addr) (sp : Sp) (dvs : List V) (E : XK) (tf : TE) (t : TA) : TE := fun σ H Q => tf σ H fun v H1 => v = .ref f ∧ t σ H1 fun vs H2 => sp (vs ++ dvs) H2 Q E
theorem pe_callV (F : FnOk X.prog X.w X.K X.mg X.base CX k f fd ps sp) (hr : Room k X.A) (hf : PE X (.Name x p) tf) (hk : PySem.W.keepIn X.K (.ref f) = true) (hb : Binds X.K fd ps ds) (hd : Vals dvs ds) (hx : Passes CX X E)
    (ha : PA X (e :: es) t) (he : starEach (e :: es) X.env = (false, eval e X.env) :: starEach es X.env := by rfl) (hpl : (backTo pos (starEach es X.env)).any (·.1) = false := by rfl) :
    PE X (.Call (.Name x p) (e :: es) [] pos) (tCallV f sp dvs E tf t) := by
  intro pins s σ H Q I h
  refine wpAny_Call_Name_kw (thn (hf pins s σ H _ I h) fun u s0 ⟨v, H0, I0, r0, ev, q0⟩ => ?_)
  subst ev
  cases r0
  refine PySem.W.callWith_K (h₀ := X.base) I.ok.mod.kin hk (thn (ha pos pins s0 σ H0 _ I0 q0) fun us s1 ⟨vs, H1, I1, r, q⟩ => ⟨I1.kIn, ?_⟩) he hpl
  exact run_fn F hr hb hd hx I1 r q
theorem boot_ValueErr : bootBuiltins "ValueError" = some (.type "ValueError") := by decide +kernel
theorem kit_own {K : Frag} {C D : Addr} {b : Bool} (xD : XCls K D) (hs : mroIn K C (.ref C) = some true) (h : mroIn K C (.ref D) = some b) : kitOne K (.ref C) (.ref D) = some b := by
  unfold kitOne
  split
  · rename_i e
    obtain rfl : C = D := Value.ref.inj (beq_iff_eq.mp e)
    rw [hs] at h; exact h
  · obtain ⟨c', d', cd', sl', lk, rfl⟩ := xc_cls xD
    unfold kitCls
    have e1 : clsIn K D = some cd' := by unfold clsIn; rw [lk]
    have e2 : typeIn K (.ref D) = some (.type "type") := by show Option.map _ (K.lookup D) = _; rw [lk]; rfl
    simp only [e1, e2, Option.isSome_some, beq_self_eq_true, Bool.and_self, if_true]
    exact h
theorem kit_ty {K : Frag} {C : Addr} {T : String} {b : Bool} (hm : kitMeta T = true) (h : mroIn K C (.type T) = some b) : kitOne K (.ref C) (.type T) = some b := by
  unfold kitOne
  split
  · rename_i e
    exact absurd (beq_iff_eq.mp e) (by intro z; cases z)
  · unfold kitCls
    simp only [hm, if_true]
    exact h
theorem kit_VE : kitMeta "ValueError" = true := by decide +kernel
/-- the ways out of a statement meet again -/
def tJoin (t : TS) : TS := fun D σ H => ∃ Mid : St → Hp → Prop, t { D with nx := Mid } σ H ∧ ∀ σ' H', Mid σ' H' → D.nx σ' H'
theorem ps_join {st : Stmt} {t : TS} (h : PS X st t) : PS X st (tJoin t) := by
  intro pins s σ H D I ⟨Mid, h1, h2⟩
  refine thn (h pins s σ H _ I h1) fun f s1 q => ?_
  cases f with
  | next =>
    obtain ⟨σ', H', I', q⟩ := q
    exact ⟨σ', H', I', h2 σ' H' q⟩
  | ret v => exact q
  | brk => exact q
  | cont => exact q
/-- a def that raises nothing here, whatever it may raise elsewhere -/
theorem passF {P : Program} {w : World} : Passes (CXe P w) X (fun _ _ _ => False) := fun _ _ _ _ _ _ _ ⟨_, _, _, _, _, _, _, _, _, _, _, _, _, _, z⟩ => z.elim
end
end L2

set_option Elab.async false
set_option linter.all false
set_option maxRecDepth 100000
namespace L2
open PySem PySem.Spec PyProof.Rows
/-! ## xs.count(k) of ints -/
section
variable {X : Cx}
def rCountI (K : PySem.W.Frag) : V → List V → Hp → VK → Prop := fun x vs H Q => ∃ (l : Addr) (ns : List Int) (k : Int), x = .ref l ∧ vs = [.int k] ∧ SqL K H l (ns.map V.int) ∧ Q (.int ((ns.count k : Nat) : Int)) H
theorem mt_countI (K : PySem.W.Frag) (hK : X.K = K := by rfl) : MtR X "list.count" (rCountI K) := by
  subst hK
  intro pins s σ H x vs v us Q I rx rv h
  obtain ⟨l, ns, k, rfl, rfl, hq, q⟩ := h
  cases rx
  obtain ⟨u, rfl, ru⟩ := rv.one
  obtain ⟨t, rfl⟩ := ru
  obtain ⟨its, r, pl, hz⟩ := I.list hq
  exact count_list_ints pl.isList (intsAre_of r) ⟨.int _, H, I.tok _, ⟨_, rfl⟩, q⟩
end
section
variable {X : Cx} {o e : Expr} {es : List Expr} {to : TE} {t : TA} {name : Str} {apos cpos : Pos} {T id : String} {r : V → List V → Hp → VK → Prop}
theorem pe_bmK (K : PySem.W.Frag) (pa : PlainAttrs T) (slot : Slot T name id) (hty : typeOf (.builtin id) = pure (.type "method_descriptor")) (hm : MtR X id r) (ho : PE X o to) (ha : PA X (e :: es) t)
    (hbase : attributeBase o name X.env (eval o X.env) = eval o X.env := by rfl)
    (hfew : ((backTo cpos (starEach (e :: es) X.env)).all (fun x => !x.1) && (backToKw cpos (keywordEach [] X.env)).all (fun x => x.1.isSome)
      && decide ((e :: es).length + ([] : List Keyword).length + (if ([] : List Keyword).isEmpty then 0 else 1) < 30)) = true := by rfl)
    (hline : (apos.endLine == cpos.line) = true := by rfl) (hs : starEach (e :: es) X.env = (false, eval e X.env) :: starEach es X.env := by rfl) (hplain : (backTo cpos (starEach es X.env)).any (·.1) = false := by rfl) (hK : X.K = K := by rfl) :
    PE X (.Call (.Attribute o name apos) (e :: es) [] cpos) (tBM K T r to t) := by
  subst hK
  exact pe_bm pa slot hty hm ho ha hbase hfew hline hs hplain
end
/-! ## a comprehension without a test, whose items are known by a word -/
section
variable {K : PySem.W.Frag} {a : Addr} {xs : List V} {σ : St} {H1 : Hp} {n : Nat} {te : TE} {Q : VK}
theorem lcB_listG (hn : σ.length = n) (hq : SqL K H1 a xs) (hz : xs.length ≤ 1000) (P : Nat → V → Hp → Prop) (hm : ∀ i v H' H'', P i v H' → Same H' H'' → P i v H'')
    (hf : ∀ i x, xs[i]? = some x → ∀ H', Same H1 H' → ∀ R : VK, (∀ v H'', P i v H'' → Same H' H'' → R v H'') → te (σ ++ [some x]) H' R)
    (hQ : ∀ ys H' D, ys.length = xs.length → (∀ i v, ys[i]? = some v → P i v H') → Same H1 H' → H' D = none → Q (.ref D) (upd H' D (.lst ys))) : tLcB (Itl K a) (gName n) tTT te 1 σ H1 Q := by
  refine ⟨fun i m ys σ' H' => m = xs.length - i ∧ i ≤ xs.length ∧ (ys.length = i ∧ ∀ j v, ys[j]? = some v → P j v H') ∧ (∃ t, σ' = σ ++ [t]) ∧ Same H1 H', ⟨xs.length, by simp, Nat.zero_le _, ⟨rfl, (fun j v hv => by simp at hv)⟩, ⟨none, rfl⟩, Same.refl _⟩, ?_⟩
  rintro i m ys σ' H' ⟨rfl, hi, ⟨yl, yp⟩, ⟨t, rfl⟩, hs⟩
  have q' := hs.seq hq
  by_cases hlt : i < xs.length
  · refine .inr ⟨⟨xs, xs[i], q', by simp [hlt]⟩, by rw [yl]; exact small1000 (by omega), fun x H2 y => ?_⟩
    obtain ⟨e, y⟩ := y
    subst e
    have hx := y xs q'
    dsimp only [gName, tTT]
    rw [if_pos rfl, set_tail hn]
    refine hf i x hx _ hs _ fun v H5 pv h5 => ⟨xs.length - (i + 1), by omega, rfl, hlt, ⟨by rw [List.length_append, yl]; rfl, fun j u hu => ?_⟩, ⟨_, rfl⟩, hs.trans h5⟩
    by_cases hj : j < i
    · rw [List.getElem?_append_left (by omega)] at hu
      exact hm _ _ _ _ (yp j u hu) h5
    · rw [List.getElem?_append_right (by omega)] at hu
      have e0 : j - ys.length = 0 := by
        cases h0 : j - ys.length with
        | zero => rfl
        | succ z => rw [h0] at hu; simp at hu
      have ej : j = i := by omega
      rw [e0] at hu
      have eu : v = u := by simpa using hu
      subst ej eu
      exact pv
  · have e : i = xs.length := by omega
    subst e
    exact .inl ⟨⟨xs, q', Nat.le_refl _⟩, fun D hD => hQ ys _ D yl yp hs hD⟩
/-- .. over range(lo, hi), without a test -/
theorem lcB_from {lo : Int} {k : Nat} (hn : σ.length = n) (hz : k ≤ 1000) (f : Int → V)
    (hf : ∀ x : Int, lo ≤ x → x < lo + k → ∀ H', Same H1 H' → ∀ R : VK, (∀ H'', Same H' H'' → R (f x) H'') → te (σ ++ [some (.int x)]) H' R)
    (hQ : ∀ H' D, Same H1 H' → H' D = none → Q (.ref D) (upd H' D (.lst ((Wv.up k).map fun i => f (lo + i))))) : tLcB (Itr lo k) (gName n) tTT te 1 σ H1 Q := by
  refine ⟨fun i m ys σ' H' => m = k - i ∧ i ≤ k ∧ ys = ((Wv.up i).map fun j => f (lo + j)) ∧ (∃ t, σ' = σ ++ [t]) ∧ Same H1 H', ⟨k, by simp, Nat.zero_le _, rfl, ⟨none, rfl⟩, Same.refl _⟩, ?_⟩
  rintro i m ys σ' H' ⟨rfl, hi, rfl, ⟨t, rfl⟩, hs⟩
  by_cases hlt : i < k
  · refine .inr ⟨hlt, ?_, fun x H2 y => ?_⟩
    · rw [List.length_map, Wv.up_length]
      exact small1000 (by omega)
    obtain ⟨e, y⟩ := y
    subst e y
    dsimp only [gName, tTT]
    rw [if_pos rfl, set_tail hn]
    refine hf (lo + i) (by omega) (by omega) _ hs _ fun H5 h5 => ⟨k - (i + 1), by omega, rfl, hlt, ?_, ⟨_, rfl⟩, hs.trans h5⟩
    rw [Wv.up_succ, List.map_append]
    rfl
  · have e : i = k := by omega
    subst e
    exact .inl ⟨Nat.le_refl _, fun D hD => hQ _ D hs hD⟩
end
end L2

set_option Elab.async false
set_option linter.all false
set_option maxRecDepth 100000
namespace L2
open PySem PySem.Spec PyProof.Rows Builtin Builtin.Str
section
variable {X : Cx}
/-! ## texts -/
theorem strs_of : ∀ {zs : List Str} {us : List Value}, Vals (zs.map V.str) us → ∃ l : List (Str × Tok), us = strValues l ∧ l.map (·.1) = zs
  | [], _, .nil => ⟨[], rfl, rfl⟩
  | z :: r, _, .cons h t => by
    obtain ⟨k, rfl⟩ := h
    obtain ⟨l, rfl, rfl⟩ := strs_of t
    exact ⟨(z, k) :: l, rfl, rfl⟩
theorem vals_strs : ∀ l : List (Str × Tok), Vals ((l.map (·.1)).map V.str) (strValues l)
  | [] => .nil
  | (z, k) :: l => .cons ⟨k, rfl⟩ (vals_strs l)
def rJoin (K : PySem.W.Frag) : V → List V → Hp → VK → Prop := fun x vs H Q => ∃ (sep : Str) (l : Addr) (zs : List Str), x = .str sep ∧ vs = [.ref l] ∧ SqL K H l (zs.map V.str) ∧
  (zs.map Str.length).sum + zs.length * sep.length ≤ 16777216 ∧ Q (.str (Str.join sep zs)) H
theorem mt_join (K : PySem.W.Frag) (hK : X.K = K := by rfl) : MtR X "str.join" (rJoin K) := by
  subst hK
  intro pins s σ H x vs v us Q I rx rv h
  obtain ⟨sep, l, zs, rfl, rfl, hq, hz, q⟩ := h
  obtain ⟨t, rfl⟩ := rx
  obtain ⟨u, rfl, ru⟩ := rv.one
  cases ru
  obtain ⟨its, r, pl, _⟩ := I.list hq
  obtain ⟨ls, rfl, rfl⟩ := strs_of r
  refine SC.join pl.isList rfl ?_ fun t' k => ⟨.str _, H, I.tok _, ⟨t', ?_⟩, q⟩
  · unfold JoinOk
    rw [Bool.not_eq_true']
    rw [StrLaws.joinTotal]
    unfold tooLong sizeLine
    have e : (2 : Nat) ^ 24 = 16777216 := by decide
    have hz' : ((ls.map (·.1)).map (fun x => x.length)).sum + (ls.map (·.1)).length * sep.length ≤ 16777216 := hz
    exact decide_eq_false (by omega)
  · show Value.str (Txt.join _ _) _ = _
    unfold Txt.join
    rw [StrLaws.glued_eq_join]
def rSplit : V → List V → Hp → VK → Prop := fun x vs H Q => ∃ (z sep : Str), x = .str z ∧ vs = [.str sep] ∧ sep.length = 1 ∧ z.length < 16777215 ∧
  ∀ p, H p = none → Q (.ref p) (upd H p (.lst ((Txt.split z sep).map V.str)))
theorem mt_split : MtR X "str.split" rSplit := by
  intro pins s σ H x vs v us Q I rx rv h
  obtain ⟨z, sep, rfl, rfl, h1, hz, q⟩ := h
  obtain ⟨t, rfl⟩ := rx
  obtain ⟨u, rfl, ru⟩ := rv.one
  obtain ⟨u, rfl⟩ := ru
  have hy : (sep.length == 0) = false := by rw [h1]; rfl
  have hpl : (partsBetween z (occurrences z sep 0 z.length (z.length + 1)) sep.length).length ≤ sizeLine := by
    have e : (sizeLine : Nat) = 16777216 := by decide
    have k := StrLaws.occ_length_le z sep 0 z.length (z.length + 1)
    rw [StrLaws.partsBetween_eq]
    have : ∀ (cuts : List Nat) (a : Nat), (StrLaws.partsFrom z sep.length a cuts).length = cuts.length + 1 := by
      intro cuts
      induction cuts with
      | nil => intro a; rfl
      | cons c r ih => intro a; show (_ :: StrLaws.partsFrom z sep.length (c + sep.length) r).length = _; rw [List.length_cons, ih]; rfl
    rw [this]
    omega
  have one : ∀ (tk : Nat), (Txt.split z sep) = [z] → EP X pins σ Q (.ref s.heap.objs.size) { s with heap := s.heap.push { cls := .type "list", data := .seq #[.str z t] }, toks := tk } := fun tk e => by
    refine ⟨.ref s.heap.objs.size, _, I.laid (t' := tk) (o := .lst ((Txt.split z sep).map V.str)) (fun b ob q => Heap.get?_push_of_some _ q) (Nat.le_refl _) ?_, rfl, q _ (I.hok.fresh (Nat.le_refl _))⟩
    rw [e]
    exact ⟨(by show 1 ≤ sizeLine; decide), [.str z t], 0, .cons ⟨t, rfl⟩ .nil, Heap.get?_push_size _ rfl⟩
  cases hc : (decide (z.length < sep.length) || decide (strKind z < strKind sep)) with
  | true =>
    refine call_meets F.slot_str_split (typeIs_str _ _ _) F.entry_str_split (F.args_str_split_2 _ _) (meets_str_split_cannot_occur z sep t u hc) ?_
    exact one _ (by unfold Txt.split; rw [if_pos hc])
  | false =>
    cases hf : (occurrences z sep 0 z.length (z.length + 1)).isEmpty with
    | true =>
      refine call_meets F.slot_str_split (typeIs_str _ _ _) F.entry_str_split (F.args_str_split_2 _ _) (meets_str_split_not_found z sep t u hc hy hf) ?_
      exact one _ (by unfold Txt.split; rw [if_neg (ne_true_of_eq_false hc), if_pos hf])
    | false =>
      refine call_meets F.slot_str_split (typeIs_str _ _ _) F.entry_str_split (F.args_str_split_2 _ _) (meets_str_split_sep z sep t u hc hy hf (Nat.le_trans (Nat.le_of_lt hz) (by decide)) hpl) ?_
      have e : Txt.split z sep = partsBetween z (occurrences z sep 0 z.length (z.length + 1)) sep.length := by
        unfold Txt.split
        rw [if_neg (ne_true_of_eq_false hc), if_neg (ne_true_of_eq_false hf)]
      show EP X pins σ Q (.ref s.heap.objs.size) { s with toks := _, heap := s.heap.push { cls := .type "list", data := .seq (strsFrom s.toks (partsBetween z (occurrences z sep 0 z.length (z.length + 1)) sep.length)).toArray } }
      rw [strsFrom_eq]
      refine ⟨.ref s.heap.objs.size, _, I.laid (o := .lst ((Txt.split z sep).map V.str)) (fun b ob q => Heap.get?_push_of_some _ q) (Nat.le_refl _) ?_, rfl, q _ (I.hok.fresh (Nat.le_refl _))⟩
      refine ⟨by rw [List.length_map, e]; exact hpl, _, 0, ?_, Heap.get?_push_size _ rfl⟩
      have w := vals_strs (numbered s.toks (partsBetween z (occurrences z sep 0 z.length (z.length + 1)) sep.length))
      rw [numbered_texts, ← e] at w
      rw [← e]
      exact w
def rSlS : V → Option Int → Option Int → Hp → VK → Prop := fun x lo hi H Q => ∃ z : Str, x = .str z ∧ z.length ≤ sizeLine ∧ Q (.str (Txt.slice z lo hi)) H
theorem sl_str : SlR X rSlS := by
  intro pins s σ H x v vl vu lo hi sl Q I rx hs pl pu h
  obtain ⟨z, rfl, hz, q⟩ := h
  obtain ⟨t, rfl⟩ := rx
  refine ⟨"str", _, F.slot_str_getitem.lookup, typeIs_str _ _ _, ?_⟩
  have fin : ∀ l u : Option (Int × Tok), l.map (·.1) = lo → u.map (·.1) = hi → s.heap.IsSlice sl l u none → wpAny (model X.prog X.w) X.A (getItem (.str z t) (.ref sl)) (EP X pins σ Q) X.xe s := by
    intro l u e1 e2 hsl
    refine wpAny_getItem_str_slice (st := none) hsl rfl ?_
    subst e1 e2
    exact post_val_or_str ⟨Nat.le_trans (Txt.slice_le z _ _) hz, fun t' k => ⟨.str _, H, I.tok _, ⟨t', rfl⟩, q⟩⟩
  cases pl with
  | none =>
    cases pu with
    | none => exact fin none none rfl rfl hs
    | int j tj => exact fin none (some (j, tj)) rfl rfl hs
  | int i ti =>
    cases pu with
    | none => exact fin (some (i, ti)) none rfl rfl hs
    | int j tj => exact fin (some (i, ti)) (some (j, tj)) rfl rfl hs
theorem call_int_str : CallR X (.type "int") (fun xs H Q => ∃ (z : Str) (n : Int), xs = [.str z] ∧ PySem.intText? z = some n ∧ z.length ≤ 640 ∧ Q (.int n) H) := by
  intro pins s σ H xs us Q I r h
  obtain ⟨z, n, rfl, hn, hl, q⟩ := h
  obtain ⟨u, rfl, ru⟩ := r.one
  obtain ⟨t, rfl⟩ := ru
  exact PySem.W.KIN.call_text hn hl ⟨.int n, H, I.tok _, ⟨_, rfl⟩, q⟩
/-- xs.index(x) of flat items -/
def rIndex (K : PySem.W.Frag) : V → List V → Hp → VK → Prop := fun x vs H Q => ∃ (l : Addr) (xs : List V) (y : V) (j : Nat), x = .ref l ∧ vs = [y] ∧ SqL K H l xs ∧ flatV y = true ∧ xs.all flatV = true ∧ j < xs.length ∧ xs.length ≤ 1000 ∧
  (∀ z, xs[j]? = some z → eqV z y = true) ∧ (∀ i z, i < j → xs[i]? = some z → eqV z y = false) ∧ Q (.int (j : Int)) H
theorem vals_at {xs : List V} {us : List Value} (r : Vals xs us) : ∀ {i : Nat} {u : Value}, us[i]? = some u → ∃ x, xs[i]? = some x ∧ RelV x u := by
  induction r with
  | nil => intro i u h; simp at h
  | cons r t ih =>
    intro i u h
    cases i with
    | zero => exact ⟨_, rfl, by have := Option.some.inj h; rw [← this]; exact r⟩
    | succ i => exact ih (by simpa using h)
theorem mt_index (K : PySem.W.Frag) (hK : X.K = K := by rfl) : MtR X "list.index" (rIndex K) := by
  subst hK
  intro pins s σ H x vs v us Q I rx rv h
  obtain ⟨l, xs, y, j, rfl, rfl, hq, fy, fx, hj, hz, hit, hno, q⟩ := h
  cases rx
  obtain ⟨u, rfl, ru⟩ := rv.one
  obtain ⟨its, r, pl, _⟩ := I.list hq
  obtain ⟨⟨cls, dd, data, sl⟩, ho, hc, n, hd⟩ := id pl.isList
  simp only at hc hd
  subst hc hd
  have hlen := r.length
  have key : ∀ i (hi : i < its.toArray.size), ∃ z, xs[i]? = some z ∧ flatV z = true ∧ eqU y its.toArray[i] = eqV z y := fun i hi => by
    have hi' : i < its.length := by simpa using hi
    obtain ⟨z, e, rz⟩ := vals_at r (List.getElem?_eq_getElem hi')
    have fz := List.all_eq_true.mp fx z (List.mem_of_getElem? e)
    exact ⟨z, e, fz, eqU_of rz fz⟩
  refine call_meets PySem.F.slot_list_index ⟨_, ho, rfl⟩ PySem.F.entry_list_index (PySem.F.args_list_index_2 _ _)
    (PySem.SeqAt.list_indexAt l its.toArray n dd sl u (eqU y) j (by simpa [hlen] using hj) (by omega) ?_ ?_) ⟨ho, fun w hw => ?_, ⟨.int _, H, I.tok _, ⟨_, rfl⟩, q⟩⟩
  · obtain ⟨z, e, _, e2⟩ := key j (by simpa [hlen] using hj)
    rw [e2]; exact hit z e
  · intro i hi hlt
    obtain ⟨z, e, _, e2⟩ := key i hi
    rw [e2]; exact hno i z hlt e
  · obtain ⟨i, hi, e⟩ := List.mem_iff_getElem.mp (show w ∈ its by simpa using hw)
    obtain ⟨z, ez, rz⟩ := vals_at r (List.getElem?_eq_getElem hi)
    have fz := List.all_eq_true.mp fx z (List.mem_of_getElem? ez)
    rw [← e, eqU_of rz fz]
    exact eqAt_V rz ru fz fy
/-- isinstance(x, str) -/
def rIsS (K : PySem.W.Frag) : List V → Hp → VK → Prop := fun xs H Q => ∃ x t k, xs = [x, .ty "str"] ∧ TyOf K H x (.type t) ∧ (t == "str") = k ∧ Q (.bl k) H
theorem call_isS (K : PySem.W.Frag) (hK : X.K = K := by rfl) : CallR X (.builtin "isinstance") (rIsS K) := by
  subst hK
  intro pins s σ H xs us Q I r h
  obtain ⟨x, t, k0, rfl, ty, ek, q⟩ := h
  obtain ⟨u, v, rfl, ru, rv⟩ := r.two
  cases rv
  rw [← ek] at q
  have fin : ∀ {k : Bool}, (t == "str") = k → EP X pins σ Q (.bool k) s := fun e => ⟨.bl _, H, I, rfl, e ▸ q⟩
  have fin' : ∀ {k : Bool} {tk : Nat}, (t == "str") = k → EP X pins σ Q (.bool k) { s with toks := tk } := fun e => ⟨.bl _, H, I.tok _, rfl, e ▸ q⟩
  cases ty with
  | int i => obtain ⟨tk, rfl⟩ := ru; exact IsiPair.int_str (fin' rfl)
  | bl b => cases ru; exact IsiPair.bool_str (fin' rfl)
  | @lst a ys e =>
    cases ru
    obtain ⟨_, _, n, _, h1⟩ := (show ObjOk X.prog X.w H s.heap a (.lst ys) from I.hok a _ e)
    exact IsiPair.list_str h1 rfl (fin' rfl)
  | @frz a o ys e =>
    cases ru
    obtain ⟨_, _, _, n, _, h1⟩ := (show ObjOk X.prog X.w H s.heap a (.frz o (.lst ys)) from I.hok a _ e)
    exact IsiPair.list_str h1 rfl (fin' rfl)
  | non => cases ru; exact IsiPair.NoneType_str (fin' rfl)
  | str z => obtain ⟨tk, rfl⟩ := ru; exact IsiPair.str_str (fin rfl)
  | flt z => obtain ⟨tk, rfl⟩ := ru; exact IsiPair.float_str (fin' rfl)
  | @tup a ys e =>
    cases ru
    obtain ⟨_, _, _, pp⟩ := (show ObjOk X.prog X.w H s.heap a (.tup ys) from I.hok a _ e)
    obtain ⟨o, h1, h2, _⟩ := pp
    exact IsiPair.tuple_str h1 h2 (fin' rfl)
  | @dK a kvs e =>
    cases ru
    obtain ⟨_, _, vs, _, pp⟩ := (show ObjOk X.prog X.w H s.heap a (.dK kvs) from I.hok a _ e)
    obtain ⟨o, es, ep, h1, h2, _⟩ := pp
    exact IsiPair.dict_str h1 h2.1 (fin' rfl)
  | @dT a kvs e =>
    cases ru
    obtain ⟨_, _, xs, _, o, es, ep, h1, h2, _⟩ := (show ObjOk X.prog X.w H s.heap a (.dT kvs) from I.hok a _ e)
    exact IsiPair.dict_str h1 h2.1 (fin' rfl)
end
end L2
namespace L2
open PySem PySem.Spec PyProof.Rows
section
variable {X : Cx}
theorem op_inK (K : PySem.W.Frag) (h : X.K = K := by rfl) : OpR X (compareOp .In) (rIn K false) := by subst h; exact op_in_seq
theorem op_notInK (K : PySem.W.Frag) (h : X.K = K := by rfl) : OpR X (compareOp .NotIn) (rIn K true) := by subst h; exact op_notIn_seq
end
end L2

set_option Elab.async false
set_option linter.all false
set_option maxRecDepth 100000
namespace L2
open PySem PySem.Spec PyProof.Rows
/-! ## a def that is called while an exception is handled -/
structure RoomH (k : Nat) (A : Around) : Prop where
  dp : A.depth + 3 * k + 5 < recursionLimit
  un : A.units + 16 * k + 200 < cLine
structure FnOkH (P : Program) (w : World) (K : PySem.W.Frag) (mg : Str → Option Value) (base : Heap) (CX : CXT) (k : Nat) (f : Addr) (fd : FuncData) (ps : List Str) (sp : Sp) : Prop where
  len : ∀ vs H Q E, sp vs H Q E → vs.length = ps.length
  run : ∀ (A : Around) (outer : List Env) (s : Shared) (H : Hp) (args : Args) (us : List Value) (vs : List V) (Q : VK) (E : XK), RoomH k A → Env0 P w K mg base A outer s H → BindsTo s fd args (ps.zip us) → Vals vs us → sp vs H Q E →
    codeAny (model P w) A (.call (.ref f) args) (CR CX outer P w H s Q E) s
def cxOfH (CX : CXT) (P : Program) (w : World) (K : PySem.W.Frag) (mg : Str → Option Value) (base : Heap) (N : List Str) (qual : Str) (scope : Scope) (f : Addr) (cd : Value) (A : Around) (outer : List Env) (s : Shared) (H : Hp) (E : XK) : Cx :=
  { cxOf CX P w K mg base N qual scope f cd A outer s H E with calm := false }
theorem inv_startH {CX : CXT} {P : Program} {w : World} {K : PySem.W.Frag} {mg : Str → Option Value} {base : Heap} {N ps : List Str} {qual : Str} {scope : Scope} {f : Addr} {cd : Value} {A : Around} {outer : List Env} {s s1 : Shared} {H : Hp} {E : XK} {us : List Value} {vs : List V}
    (S : FnScope N ps scope) (e0 : Env0 P w K mg base A outer s H) (hl : vs.length = ps.length) (r : Vals vs us)
    (x : InCallC s s.heap.objs.size (bindL (envOfC qual scope s.heap.objs.size f cd).kindOf (ps.zip us) fun _ => none) (cellsFrom (s.heap.objs.size + 1) scope.names []) (bindC (envOfC qual scope s.heap.objs.size f cd).kindOf (ps.zip us) fun _ => none) s1) :
    Inv (cxOfH CX P w K mg base N qual scope f cd A outer s H E) [] (start N vs) H s1 := by
  have hpl : ps.length ≤ N.length := by have := congrArg List.length S.pre; rw [List.length_take] at this; omega
  obtain ⟨h1, tk, rfl, hk⟩ := x.done
  have noA : ∀ b : Addr, b ∉ (cxOfH CX P w K mg base N qual scope f cd A outer s H E).ex := fun b z => absurd (show b ∈ ([] : List Addr) from z) (by simp)
  refine ⟨⟨e0.mod, S.kind, rfl, rfl, Nat.le_refl _, fun y z c h1 h2 => ?_, fun y hy => ?_, fun y c _ h => ?_, (fun z => nomatch z), Around.frames_deeper e0.frames, .inr ⟨rfl, rfl⟩, fun b z => absurd z (noA b), e0.bs, e0.bsz, fun b _ _ => noA b, fun b z => absurd z (noA b), e0.funs, e0.frf⟩,
    rfl, e0.bare, Un.kept hk, ⟨_, x.toInCall.ns, fun i y v h1 h2 h3 => ?_⟩, fun y c h => ⟨_, x.cell y c h⟩, e0.hok.fresh (Nat.le_refl _), fun y c h => ?_, fun p hp => absurd (show p ∈ ([] : List (Addr × Obj)) from hp) (by simp), e0.hok.kept hk, ?_⟩
  · exact name_of_addr x.apart (PySem.mem_of_lookup h1) (PySem.mem_of_lookup h2)
  · have hy : scope.names.lookup y = some .cell ∨ scope.names.lookup y = some .free := hy
    rcases hy with hy | hy
    · exact cell_has hy
    · exact absurd rfl (S.nofree _ (PySem.mem_of_lookup hy))
  · exact Nat.le_of_lt (x.above y c (PySem.mem_of_lookup h))
  · have hi : i < vs.length := by
      unfold start at h2
      by_cases hi : i < vs.length
      · exact hi
      · rw [List.getElem?_append_right (by simpa using hi)] at h2
        rw [List.getElem?_replicate] at h2
        split at h2 <;> cases h2
    have ha : vs[i]? = some v := by
      unfold start at h2
      rw [List.getElem?_append_left (by simpa using hi), List.getElem?_map] at h2
      cases e : vs[i]? with
      | none => rw [e] at h2; cases h2
      | some a => rw [e] at h2; cases h2; rfl
    obtain ⟨u, hu, rv⟩ := r.get ha
    have hp : ps[i]? = some y := by
      rw [← S.pre, List.getElem?_take_of_lt (by omega)]; exact h1
    have ndP : ps.Nodup := by rw [← S.pre]; exact S.nd.sublist (List.take_sublist _ _)
    refine ⟨u, rv, ?_⟩
    rcases S.par y (List.mem_of_getElem? hp) with k | k
    · exact .inl ⟨k, bindL_get ndP hp hu k⟩
    · obtain ⟨c, e⟩ := cell_has (n := s.heap.objs.size + 1) k
      refine .inr ⟨.inl k, c, e, ?_⟩
      have q := x.cell y c e
      rw [bindC_get ndP hp hu (by show scope.names.lookup y ≠ _; rw [k]; decide)] at q
      exact q
  · exact e0.hok.fresh (Nat.le_of_lt (x.above y c (PySem.mem_of_lookup h)))
  · unfold start
    show _ = N.length
    rw [List.length_append, List.length_map, List.length_replicate]
    omega
theorem fn_ofH {CX : CXT} {P : Program} {w : World} {K : PySem.W.Frag} {mg : Str → Option Value} {base : Heap} {k : Nat} {f : Addr} {name qual : Str} {params : Arguments} {body : List Stmt} {scope : Scope} {dV kV doc pm cdv ct oc : Value} {an od : Option Addr}
    {osl : Array (Option Value)} {N ps : List Str} {sp : Sp} (lk : K.lookup f = some ⟨oc, od, .func (PySem.W.fnOf name qual params body scope dV kV doc pm an cdv ct), osl⟩) (hcd : PySem.W.codeIn K cdv qual = true) (S : FnScope N ps scope)
    (len : ∀ vs H Q E, sp vs H Q E → vs.length = ps.length)
    (hbody : ∀ (A : Around) (outer : List Env) (s : Shared) (H : Hp) (vs : List V) (Q : VK) (E : XK), RoomH k (A.deeper (envOfC qual scope s.heap.objs.size f cdv)) → sp vs H Q E →
      ∃ t, PSs (cxOfH CX P w K mg base N qual scope f cdv A outer s H E) body t ∧ t { nx := fun _ H' => Q .non H', rt := Q } (start N vs) H) :
    FnOkH P w K mg base CX (k + 1) f (PySem.W.fnOf name qual params body scope dV kV doc pm an cdv ct) ps sp := by
  refine ⟨len, fun A outer s H args us vs Q E hr e0 hb r hsp => ?_⟩
  have hl := len _ _ _ _ hsp
  have KX : K.In s.heap := e0.mod.kin.keeps fun b o e => (e0.bs b o e).1
  have lim : s.heap.NoLimit := e0.mod.nolimit.keeps fun b o e => (e0.bs b o e).1
  have hkind : ∀ y ∈ ps.zip us, scope.names.lookup y.1 = some .local ∨ (scope.names.lookup y.1 = some .cell ∧ ((cellsFrom (s.heap.objs.size + 1) scope.names []).lookup y.1).isSome = true) := fun ⟨n, v⟩ hy => by
    rcases S.par n (List.of_mem_zip hy).1 with q | q
    · exact .inl q
    · exact .inr ⟨q, PySem.W.cellsFrom_some _ _ _ (.inl q)⟩
  have hdeep : RoomH k (A.deeper (envOfC qual scope s.heap.objs.size f cdv)) := ⟨by have := hr.dp; show A.depth + 1 + 3 * k + 5 < _; omega, by have := hr.un; show A.units + 3 + 16 * k + 200 < _; omega⟩
  refine codeAny_call_function (by have := hr.dp; omega) (KX _ _ lk) rfl S.co S.gen rfl (PySem.W.codeRec_of KX hcd) (hb _ _ _ _ ?_)
  refine wpAny_newFunctionEnv_cells S.kind hkind fun env he s1 x => ?_
  subst he
  refine ⟨lim.keeps x.toInCall.keep, codeAny_func ?_⟩
  obtain ⟨t, ht, hq⟩ := hbody A outer s H vs Q E hdeep hsp
  have I : Inv (cxOfH CX P w K mg base N qual scope f cdv A outer s H E) [] (start N vs) H s1 := inv_startH S e0 hl r x
  refine wpAny_mono (ht [] s1 (start N vs) H _ I hq) (fun fl s' hs => ?_) fun e s' hs => hs
  have fin : ∀ {σ' : St} {H' : Hp} {v : V} {u : Value}, Inv (cxOfH CX P w K mg base N qual scope f cdv A outer s H E) [] σ' H' s' → RelV v u → Q v H' → CE outer P w H s Q u s' :=
    fun {σ' H' v u} J rv q => ⟨v, H', J.os, J.bare, J.base, J.hok, rv, q⟩
  cases fl with
  | ret u =>
    obtain ⟨v, σ', H', J, rv, q⟩ := hs
    exact fin J rv q
  | next =>
    obtain ⟨σ', H', J, q⟩ := hs
    exact fin (v := V.non) (u := Value.none) J rfl q
  | brk =>
    obtain ⟨_, _, _, q⟩ := hs
    exact False.elim q
  | cont =>
    obtain ⟨_, _, _, q⟩ := hs
    exact False.elim q
section
variable {P : Program} {w : World} {K : PySem.W.Frag} {mg : Str → Option Value} {base : Heap}
theorem Fun.okH {x qual : Str} {st : Stmt} {f : Addr} {fd : FuncData} {N ps : List Str} {k : Nat} {sp : Sp} (F : Fun K x qual st f fd) (S : FnScope N ps (defScope st)) (len : ∀ vs H Q E, sp vs H Q E → vs.length = ps.length)
    (hbody : ∀ (cdv : Value) (A : Around) (outer : List Env) (s : Shared) (H : Hp) (vs : List V) (Q : VK) (E : XK), RoomH k (A.deeper (envOfC qual (defScope st) s.heap.objs.size f cdv)) → sp vs H Q E →
      ∃ t, PSs (cxOfH (CXe P w) P w K mg base N qual (defScope st) f cdv A outer s H E) (defBody st) t ∧ t { nx := fun _ H' => Q .non H', rt := Q } (start N vs) H) : FnOkH P w K mg base (CXe P w) (k + 1) f fd ps sp := by
  obtain ⟨oc, od, kV, doc, pm, an, cdv, ct, osl, rfl, lk, hcd⟩ := F.ex
  exact fn_ofH lk hcd S len fun A outer s H vs Q E hr hsp => hbody cdv A outer s H vs Q E hr hsp
end
section
variable {X : Cx} {CX : CXT} {k : Nat} {f C : Addr} {fd : FuncData} {ps : List Str} {sp : Sp} {dvs : List V} {ds : List Value} {E : XK} {x m : Str} {p pos apos : Pos} {e o : Expr} {es : List Expr} {ta : TE} {t : TA}
theorem run_fnH {pins : List (Addr × Obj)} {σ : St} {H : Hp} {s : Shared} {Q : VK} {us : List Value} {vs : List V} (F : FnOkH X.prog X.w X.K X.mg X.base CX k f fd ps sp) (hr : RoomH k X.A) (hb : Binds X.K fd ps ds) (hd : Vals dvs ds) (hx : Passes CX X E)
    (I : Inv X pins σ H s) (r : Vals vs us) (h : sp (vs ++ dvs) H Q E) : wpAny (model X.prog X.w) X.A (call (.ref f) us) (EP X pins σ Q) X.xe s := by
  have r2 : Vals (vs ++ dvs) (us ++ ds) := r.append hd
  have hl : (us ++ ds).length = ps.length := by rw [← r2.length]; exact F.len _ _ _ _ h
  refine wpAny_call (codeAny_mono (F.run X.A X.stack s H ⟨us, []⟩ (us ++ ds) (vs ++ dvs) Q E hr I.env0 (hb s us I.kIn hl) r2 h) fun r s' hq => ?_)
  cases r with
  | error e => exact hx pins σ H s e s' I hq
  | ok fl =>
    cases fl with
    | ret u => exact I.after hq
    | next => exact False.elim hq
    | brk => exact False.elim hq
    | cont => exact False.elim hq
theorem pe_callH (F : FnOkH X.prog X.w X.K X.mg X.base CX k f fd ps sp) (hr : RoomH k X.A) (hg : Gl X x) (hm : X.mg x = some (.ref f)) (hk : PySem.W.keepIn X.K (.ref f) = true) (hb : Binds X.K fd ps ds) (hd : Vals dvs ds) (hx : Passes CX X E)
    (ha : PA X (e :: es) t) (hdb : (x == ("__debug__" : Str)) = false := by decide) (he : starEach (e :: es) X.env = (false, eval e X.env) :: starEach es X.env := by rfl) (hpl : (backTo pos (starEach es X.env)).any (·.1) = false := by rfl) :
    PE X (.Call (.Name x p) (e :: es) [] pos) (tCall sp dvs E t) := by
  intro pins s σ H Q I h
  refine wpAny_Call_Name_kw (ld_glob I hg hm ?_ hdb)
  refine PySem.W.callWith_K (h₀ := X.base) I.ok.mod.kin hk (thn (ha pos pins s σ H _ I h) fun us s1 ⟨vs, H1, I1, r, q⟩ => ⟨I1.kIn, ?_⟩) he hpl
  exact run_fnH F hr hb hd hx I1 r q
/-- xs.count(x) of flat items -/
def rCountF (K : PySem.W.Frag) : V → List V → Hp → VK → Prop := fun x vs H Q => ∃ (l : Addr) (xs : List V) (y : V), x = .ref l ∧ vs = [y] ∧ SqL K H l xs ∧ flatV y = true ∧ xs.all flatV = true ∧ Q (.int ((xs.countP (fun z => eqV z y) : Nat) : Int)) H
theorem countP_eqU {y : V} : ∀ {xs : List V} {us : List Value}, Vals xs us → xs.all flatV = true → us.countP (eqU y) = xs.countP fun z => eqV z y
  | _, _, .nil, _ => rfl
  | z :: xs, u :: us, .cons r t, f => by
    rw [List.all_cons, Bool.and_eq_true] at f
    rw [List.countP_cons, List.countP_cons, eqU_of r f.1, countP_eqU t f.2]
theorem mt_countF (K : PySem.W.Frag) (hK : X.K = K := by rfl) : MtR X "list.count" (rCountF K) := by
  subst hK
  intro pins s σ H x vs v us Q I rx rv h
  obtain ⟨l, xs, y, rfl, rfl, hq, fy, fx, q⟩ := h
  cases rx
  obtain ⟨u, rfl, ru⟩ := rv.one
  obtain ⟨its, r, pl, _⟩ := I.list hq
  obtain ⟨⟨cls, dd, data, sl⟩, ho, hc, n, hd⟩ := id pl.isList
  simp only at hc hd
  subst hc hd
  refine call_meets PySem.F.slot_list_count ⟨_, ho, rfl⟩ PySem.F.entry_list_count (PySem.F.args_list_count_2 _ _) (PySem.SeqAt.list_countAt l its.toArray n dd sl u (eqU y)) ⟨ho, fun w hw => ?_, ?_⟩
  · obtain ⟨i, hi, e⟩ := List.mem_iff_getElem.mp (show w ∈ its by simpa using hw)
    obtain ⟨z, ez, rz⟩ := vals_at r (List.getElem?_eq_getElem hi)
    have fz := List.all_eq_true.mp fx z (List.mem_of_getElem? ez)
    rw [← e, eqU_of rz fz]
    exact eqAt_V rz ru fz fy
  · refine ⟨.int _, H, I.tok _, ⟨_, rfl⟩, ?_⟩
    rw [show its.toArray.toList = its from rfl, countP_eqU r fx]
    exact q
end
end L2

set_option Elab.async false
set_option linter.all false
set_option maxRecDepth 100000
namespace L2
open PySem PySem.Spec PyProof.Rows
theorem TyOf.same {K : PySem.W.Frag} {H H' : Hp} {v : V} {t : Value} (h : TyOf K H v t) (s : Same H H') : TyOf K H' v t := by
  cases h with
  | non => exact .non
  | bl x => exact .bl x
  | int i => exact .int i
  | str x => exact .str x
  | flt x => exact .flt x
  | lst e => exact .lst (s _ _ e)
  | frz e => exact .frz (s _ _ e)
  | tup e => exact .tup (s _ _ e)
  | dK e => exact .dK (s _ _ e)
  | dT e => exact .dT (s _ _ e)
  | ins e cl ha hn htk hm => exact .ins (s _ _ e) cl ha hn htk hm
/-- whole numbers from 0 to m, True and False are none -/
def whB (m : Int) : V → Bool
  | .int i => decide (0 ≤ i ∧ i ≤ m)
  | _ => false
theorem tyof_cases {K : PySem.W.Frag} {H : Hp} {v : V} {t : String} (h : TyOf K H v (.type t)) : (∃ i, v = .int i ∧ t = "int") ∨ (∃ b, v = .bl b ∧ t = "bool") ∨ (isiB t "int" = false ∧ ∀ m, whB m v = false) := by
  generalize e : Value.type t = c at h
  cases h with
  | non => cases e; exact .inr (.inr ⟨by decide, fun _ => rfl⟩)
  | bl x => cases e; exact .inr (.inl ⟨x, rfl, rfl⟩)
  | int i => cases e; exact .inl ⟨i, rfl, rfl⟩
  | str x => cases e; exact .inr (.inr ⟨by decide, fun _ => rfl⟩)
  | flt x => cases e; exact .inr (.inr ⟨by decide, fun _ => rfl⟩)
  | lst _ => cases e; exact .inr (.inr ⟨by decide, fun _ => rfl⟩)
  | frz _ => cases e; exact .inr (.inr ⟨by decide, fun _ => rfl⟩)
  | tup _ => cases e; exact .inr (.inr ⟨by decide, fun _ => rfl⟩)
  | dK _ => cases e; exact .inr (.inr ⟨by decide, fun _ => rfl⟩)
  | dT _ => cases e; exact .inr (.inr ⟨by decide, fun _ => rfl⟩)
  | ins _ _ _ _ _ _ => cases e
/-- a def that answers some and raises at others -/
theorem FnOk.both {P : Program} {w : World} {K : PySem.W.Frag} {mg : Str → Option Value} {base : Heap} {CX : CXT} {k : Nat} {f : Addr} {fd : FuncData} {ps : List Str} {sp sp' : Sp} (F : FnOk P w K mg base CX0 k f fd ps sp) (G : FnOk P w K mg base CX k f fd ps sp') :
    FnOk P w K mg base CX k f fd ps (fun vs H Q E => sp vs H Q E ∨ sp' vs H Q E) := by
  refine ⟨fun vs H Q E h => h.elim (F.len vs H Q E) (G.len vs H Q E), fun A outer s H args us vs Q E hr e0 hb r hsp => ?_⟩
  rcases hsp with h | h
  · refine codeAny_mono (F.run A outer s H args us vs Q E hr e0 hb r h) fun res s' hq => ?_
    cases res with
    | error e => exact False.elim hq
    | ok fl =>
      cases fl with
      | ret u => exact hq
      | next => exact False.elim hq
      | brk => exact False.elim hq
      | cont => exact False.elim hq
  · exact G.run A outer s H args us vs Q E hr e0 hb r h
section
variable {X : Cx} {pos : Pos}
/-- {} -/
def tDict0 : TE := fun _ H Q => ∀ p, H p = none → Q (.ref p) (upd H p (.dK []))
theorem pe_dict0 : PE X (.Dict [] [] pos) tDict0 := fun pins s σ H Q I h => by
  refine wpAny_Dict_empty ⟨.ref s.heap.objs.size, _, I.laid (a := s.heap.objs.size) (o := .dK []) (t' := s.toks) (fun _ _ q => Heap.get?_push_of_some _ q) (Nat.le_refl _) ?_, rfl, h _ (I.hok.fresh (Nat.le_refl _))⟩
  exact ⟨Nat.zero_le _, beq_eq_false_iff_ne.mpr (Ne.symm (Nat.ne_of_lt (Nat.lt_trans (by decide) (show mainGlobals < s.heap.objs.size from (I.mod.glob.keeps I.bk).lt)))), [], .nil, Heap.DictOf.new _⟩
end
end L2

set_option Elab.async false
set_option linter.all false
set_option maxRecDepth 100000
namespace Wv
open PySem
/-! ## orders and who turns -/
def fctN : Nat → Nat
  | 0 => 1
  | k + 1 => fctN k * (k + 1)
def turnB (tb : List Bool) (m g : Int) : Bool := !(hasB g m || at_ tb g) && at_ tb (Builtin.bitOr g (1 * 2 ^ m.toNat))
def ordStep (k : Nat) (L : List (List Int)) (j : Nat) : List (List Int) := (List.range j).flatMap fun a => L.map fun o => o.take a ++ [(k : Int)] ++ o.drop a
def ordL : Nat → List (List Int)
  | 0 => [[]]
  | k + 1 => ordStep k (ordL k) (k + 1)
def turnF (tb : List Bool) : Int → List Int → Int
  | _, [] => -1
  | g, m :: r => if (!at_ tb g && at_ tb (Builtin.bitOr g (1 * 2 ^ m.toNat))) = true then m else turnF tb (Builtin.bitOr g (1 * 2 ^ m.toNat)) r
def preF (x : Int) : Int → List Int → Int
  | g, [] => g
  | g, m :: r => if m = x then g else preF x (Builtin.bitOr g (1 * 2 ^ m.toNat)) r
def wN (n : Nat) (g : Int) : Nat := fctN (ins 5 g).length * fctN (n - 1 - (ins 5 g).length)
theorem or_in_f : ∀ n : Fin 6, ∀ g : Fin 32, ∀ m : Fin 5, g.val < 2 ^ n.val → m.val < n.val →
    (0 ≤ Builtin.bitOr (g.val : Int) (1 * 2 ^ ((m.val : Int)).toNat) ∧ Builtin.bitOr (g.val : Int) (1 * 2 ^ ((m.val : Int)).toNat) < ((2 ^ n.val : Nat) : Int) ∧ withinB (g.val : Int) (Builtin.bitOr (g.val : Int) (1 * 2 ^ ((m.val : Int)).toNat)) = true) := by decide +kernel
theorem or_in {n : Nat} (hn : n ≤ 5) {g m : Int} (hg : g ∈ up (2 ^ n)) (hm : m ∈ up n) : Builtin.bitOr g (1 * 2 ^ m.toNat) ∈ up (2 ^ n) ∧ withinB g (Builtin.bitOr g (1 * 2 ^ m.toNat)) = true := by
  have h5 := two_le hn
  obtain ⟨g0, g1⟩ := mem_up.mp hg
  obtain ⟨m0, m1⟩ := mem_up.mp hm
  have e1 : ((g.toNat : Nat) : Int) = g := by omega
  have e2 : ((m.toNat : Nat) : Int) = m := by omega
  have q := or_in_f ⟨n, by omega⟩ ⟨g.toNat, by omega⟩ ⟨m.toNat, by omega⟩ (by show g.toNat < 2 ^ n; omega) (by show m.toNat < n; omega)
  simp only [e1, e2] at q
  exact ⟨mem_up.mpr ⟨q.1, q.2.1⟩, q.2.2⟩
section
variable {n : Nat} {tb : List Bool}
theorem mono_or (hn : n ≤ 5) (hM : Mono n tb) {g m : Int} (hg : g ∈ up (2 ^ n)) (hm : m ∈ up n) (h : at_ tb g = true) : at_ tb (Builtin.bitOr g (1 * 2 ^ m.toNat)) = true :=
  hM _ _ hg (or_in hn hg hm).1 (or_in hn hg hm).2 h
theorem turnF_mem : ∀ (o : List Int) (g : Int), turnF tb g o = -1 ∨ turnF tb g o ∈ o
  | [], _ => .inl rfl
  | m :: r, g => by
    unfold turnF
    split
    · exact .inr List.mem_cons_self
    · rcases turnF_mem r (Builtin.bitOr g (1 * 2 ^ m.toNat)) with h | h
      · exact .inl h
      · exact .inr (List.mem_cons_of_mem _ h)
theorem pre_in (hn : n ≤ 5) {x : Int} : ∀ (o : List Int) (g : Int), g ∈ up (2 ^ n) → (∀ m ∈ o, m ∈ up n) → preF x g o ∈ up (2 ^ n)
  | [], _, hg, _ => hg
  | m :: r, g, hg, ho => by
    unfold preF
    split
    · exact hg
    · exact pre_in hn r _ (or_in hn hg (ho m List.mem_cons_self)).1 fun y hy => ho y (List.mem_cons_of_mem _ hy)
theorem pre_up (hn : n ≤ 5) (hM : Mono n tb) {x : Int} : ∀ (o : List Int) (g : Int), g ∈ up (2 ^ n) → (∀ m ∈ o, m ∈ up n) → at_ tb g = true → at_ tb (preF x g o) = true
  | [], _, _, _, h => h
  | m :: r, g, hg, ho, h => by
    unfold preF
    split
    · exact h
    · exact pre_up hn hM r _ (or_in hn hg (ho m List.mem_cons_self)).1 (fun y hy => ho y (List.mem_cons_of_mem _ hy)) (mono_or hn hM hg (ho m List.mem_cons_self) h)
theorem turn_pre (hn : n ≤ 5) (hM : Mono n tb) {x : Int} (hx0 : 0 ≤ x) : ∀ (o : List Int) (g : Int), g ∈ up (2 ^ n) → (∀ m ∈ o, m ∈ up n) → o.Nodup → x ∈ o →
    (turnF tb g o == x) = (!at_ tb (preF x g o) && at_ tb (Builtin.bitOr (preF x g o) (1 * 2 ^ x.toNat)))
  | [], _, _, _, _, hx => by cases hx
  | m :: r, g, hg, ho, nd, hx => by
    have hm := ho m List.mem_cons_self
    have hr : ∀ y ∈ r, y ∈ up n := fun y hy => ho y (List.mem_cons_of_mem _ hy)
    obtain ⟨nm, nr⟩ := List.nodup_cons.mp nd
    by_cases e : m = x
    · subst e
      unfold turnF preF
      rw [if_pos rfl]
      split
      · rename_i h
        rw [h]; simp
      · rename_i h
        have h' : (!at_ tb g && at_ tb (Builtin.bitOr g (1 * 2 ^ m.toNat))) = false := by simpa using h
        rw [h']
        have ne : turnF tb (Builtin.bitOr g (1 * 2 ^ m.toNat)) r ≠ m := by
          intro z
          rcases turnF_mem (tb := tb) r (Builtin.bitOr g (1 * 2 ^ m.toNat)) with q | q
          · omega
          · rw [z] at q; exact nm q
        simpa using ne
    · have hxr : x ∈ r := by
        rcases List.mem_cons.mp hx with z | z
        · exact absurd z.symm e
        · exact z
      unfold turnF preF
      rw [if_neg e]
      split
      · rename_i h
        have h2 : at_ tb (Builtin.bitOr g (1 * 2 ^ m.toNat)) = true := by
          rw [Bool.and_eq_true] at h; exact h.2
        rw [pre_up hn hM r _ (or_in hn hg hm).1 hr h2]
        simpa using e
      · exact turn_pre hn hM hx0 r _ (or_in hn hg hm).1 hr nr hxr
theorem ord_facts : ∀ n : Fin 6, ∀ o ∈ ordL n.val, o.Nodup ∧ o.length = n.val ∧ (∀ m ∈ o, 0 ≤ m ∧ m < (n.val : Int)) ∧ ∀ x : Fin 5, x.val < n.val → (x.val : Int) ∈ o := by decide +kernel
theorem pl_perm : ∀ n : Fin 6, ∀ x : Fin 5, x.val < n.val → ((ordL n.val).map (preF (x.val : Int) 0)).isPerm ((up (2 ^ n.val)).flatMap fun g => if hasB g (x.val : Int) = true then [] else List.replicate (wN n.val g) g) = true := by decide +kernel
theorem countP_flat (h p : Int → Bool) (w : Int → Nat) : ∀ l : List Int, (((l.flatMap fun g => if h g = true then [] else List.replicate (w g) g).countP p : Nat) : Int) = ((l.filter fun g => !h g && p g).map fun g => (w g : Int)).sum
  | [] => rfl
  | g :: r => by
    rw [List.flatMap_cons, List.countP_append, List.filter_cons, Int.natCast_add, countP_flat h p w r]
    cases hh : h g with
    | true => simp
    | false =>
      cases hp : p g with
      | true => simp [hp, List.countP_replicate]
      | false => simp [hp, List.countP_replicate]
theorem orders_eq (hn : n ≤ 5) (hM : Mono n tb) {x : Int} (hx : x ∈ up n) :
    ((((ordL n).map (turnF tb 0)).count x : Nat) : Int) = (((up (2 ^ n)).filter (turnB tb x)).map fun g => ((wN n g : Nat) : Int)).sum := by
  obtain ⟨x0, x1⟩ := mem_up.mp hx
  have ex : ((x.toNat : Nat) : Int) = x := by omega
  have z0 : (0 : Int) ∈ up (2 ^ n) := mem_up.mpr ⟨Int.le_refl _, by have := Nat.two_pow_pos n; omega⟩
  have F := ord_facts ⟨n, by omega⟩
  have P := pl_perm ⟨n, by omega⟩ ⟨x.toNat, by omega⟩ (by show x.toNat < n; omega)
  simp only [ex] at P F
  have P' := List.isPerm_iff.mp P
  have e1 : ((ordL n).map (turnF tb 0)).count x = ((ordL n).map (preF x 0)).countP fun g => !at_ tb g && at_ tb (Builtin.bitOr g (1 * 2 ^ x.toNat)) := by
    unfold List.count
    rw [List.countP_map, List.countP_map]
    refine List.countP_congr fun o ho => ?_
    obtain ⟨nd, _, hr, hmem⟩ := F o ho
    have hxo : x ∈ o := by have := hmem ⟨x.toNat, by omega⟩ (by show x.toNat < n; omega); simpa only [ex] using this
    have q := turn_pre hn hM x0 o 0 z0 (fun m hm => mem_up.mpr (hr m hm)) nd hxo
    show (turnF tb 0 o == x) = true ↔ _ = true
    rw [q]
    exact Iff.rfl
  rw [e1, P'.countP_eq, countP_flat]
  congr 2
  refine List.filter_congr fun g hg => ?_
  unfold turnB
  cases hasB g x <;> cases at_ tb g <;> simp
end
theorem fct_small : ∀ k : Fin 6, fctN k.val ≤ 120 := by decide
theorem whole_has_f : ∀ n : Fin 6, ∀ m : Fin 5, m.val < n.val → hasB (((2 ^ n.val : Nat) : Int) - 1) (m.val : Int) = true := by decide +kernel
theorem whole_has {n : Nat} (hn : n ≤ 5) {m : Int} (hm : m ∈ up n) : m ∈ ins n (((2 ^ n : Nat) : Int) - 1) := by
  obtain ⟨m0, m1⟩ := mem_up.mp hm
  have e2 : ((m.toNat : Nat) : Int) = m := by omega
  have q := whole_has_f ⟨n, by omega⟩ ⟨m.toNat, by omega⟩ (by show m.toNat < n; omega)
  simp only [e2] at q
  exact List.mem_filter.mpr ⟨hm, q⟩
theorem whole_in (n : Nat) : ((2 ^ n : Nat) : Int) - 1 ∈ up (2 ^ n) := mem_up.mpr ⟨by have := Nat.two_pow_pos n; omega, by omega⟩
theorem needed_same {n : Nat} (hn : n ≤ 5) (tb : List Bool) : ((up n).filter fun m => !at_ tb (((2 ^ n : Nat) : Int) - 1 - 1 * 2 ^ m.toNat)) = (up n).filter fun m => !at_ tb (Builtin.bitXor (((2 ^ n : Nat) : Int) - 1) (1 * 2 ^ m.toNat)) :=
  List.filter_congr fun m hm => by rw [(sub_ok hn (whole_in n) (whole_has hn hm)).1]
theorem swings_same {n : Nat} {tb : List Bool} {m : Int} (l : List Int) : ((l.filter fun g => !hasB g m && !at_ tb g).filter fun g => at_ tb (Builtin.bitOr g (1 * 2 ^ m.toNat))) = l.filter (turnB tb m) := by
  rw [List.filter_filter]
  refine List.filter_congr fun g _ => ?_
  unfold turnB
  cases hasB g m <;> cases at_ tb g <;> simp
end Wv

set_option Elab.async false
set_option linter.all false
set_option maxRecDepth 100000
set_option maxHeartbeats 4000000

namespace Wv
open PySem L2
def top (i : Nat) : Stmt := PySem.Challenge.pw_weighvote_k08_refused.main.body.getD i (.Pass ⟨0, 0, 0, 0⟩)
abbrev s_is_whole : Stmt := top 10
abbrev s_everybody : Stmt := top 11
abbrev s_is_member : Stmt := top 12
abbrev s_is_group : Stmt := top 13
abbrev s_groups_of : Stmt := top 14
abbrev s_has : Stmt := top 15
abbrev s_members_of : Stmt := top 16
abbrev s_with_member : Stmt := top 17
abbrev s_within : Stmt := top 18
abbrev s_weight_of : Stmt := top 19
abbrev s_Council_init : Stmt := inClass (top 23) 0
abbrev s_Council_carries : Stmt := inClass (top 23) 1
abbrev s_Council_least : Stmt := inClass (top 23) 2
abbrev s_Council_greatest : Stmt := inClass (top 23) 3
abbrev s_Council_is_least : Stmt := inClass (top 23) 4
abbrev s_Council_is_greatest : Stmt := inClass (top 23) 5
abbrev s_refuse_bad_council : Stmt := top 24
abbrev s_has_one_within : Stmt := top 25
abbrev s_weighted : Stmt := top 26
abbrev s_refuse_bad_weights : Stmt := top 27
abbrev s_tells_apart : Stmt := top 29
abbrev s_groups_apart : Stmt := top 30
abbrev s_stands : Stmt := top 31
abbrev s_refuse_no_member : Stmt := top 32
abbrev s_law_cell_at : Stmt := top 34
abbrev s_law_sort : Stmt := top 36
abbrev s_law_asked : Stmt := top 37
abbrev s_law : Stmt := top 38
/-- the addresses that the text names -/
structure Adr where
  C_Council : Addr
  C_CouncilError : Addr
  C_BadCouncil : Addr
  C_BadGroup : Addr
  C_NoMember : Addr
  C_Unlike : Addr
  C_BadWeights : Addr
  C_BadText : Addr
  a_is_whole : Addr
  d_is_whole : FuncData
  a_everybody : Addr
  d_everybody : FuncData
  a_is_member : Addr
  d_is_member : FuncData
  a_is_group : Addr
  d_is_group : FuncData
  a_groups_of : Addr
  d_groups_of : FuncData
  a_has : Addr
  d_has : FuncData
  a_members_of : Addr
  d_members_of : FuncData
  a_with_member : Addr
  d_with_member : FuncData
  a_within : Addr
  d_within : FuncData
  a_weight_of : Addr
  d_weight_of : FuncData
  a_Council_init : Addr
  d_Council_init : FuncData
  a_Council_carries : Addr
  d_Council_carries : FuncData
  a_Council_least : Addr
  d_Council_least : FuncData
  a_Council_greatest : Addr
  d_Council_greatest : FuncData
  a_Council_is_least : Addr
  d_Council_is_least : FuncData
  a_Council_is_greatest : Addr
  d_Council_is_greatest : FuncData
  a_refuse_bad_council : Addr
  d_refuse_bad_council : FuncData
  a_has_one_within : Addr
  d_has_one_within : FuncData
  a_weighted : Addr
  d_weighted : FuncData
  a_refuse_bad_weights : Addr
  d_refuse_bad_weights : FuncData
  a_tells_apart : Addr
  d_tells_apart : FuncData
  a_groups_apart : Addr
  d_groups_apart : FuncData
  a_stands : Addr
  d_stands : FuncData
  a_refuse_no_member : Addr
  d_refuse_no_member : FuncData
  a_law_cell_at : Addr
  d_law_cell_at : FuncData
  a_law_sort : Addr
  d_law_sort : FuncData
  a_law_asked : Addr
  d_law_asked : FuncData
  a_law : Addr
  d_law : FuncData
  t_MOST_MEMBERS : Tok
  t_MOST_WEIGHT : Tok
  t_MOST_QUOTA : Tok
structure Txt (K : PySem.W.Frag) (mg : Str → Option Value) (a : Adr) : Prop where
  cl_Council : Cls K a.C_Council
  m_Council : mg "Council" = some (.ref a.C_Council)
  mk_Council : Mk K a.C_Council a.a_Council_init
  m_CouncilError : mg "CouncilError" = some (.ref a.C_CouncilError)
  x_CouncilError : XCls K a.C_CouncilError
  m_BadCouncil : mg "BadCouncil" = some (.ref a.C_BadCouncil)
  x_BadCouncil : XCls K a.C_BadCouncil
  m_BadGroup : mg "BadGroup" = some (.ref a.C_BadGroup)
  x_BadGroup : XCls K a.C_BadGroup
  m_NoMember : mg "NoMember" = some (.ref a.C_NoMember)
  x_NoMember : XCls K a.C_NoMember
  m_Unlike : mg "Unlike" = some (.ref a.C_Unlike)
  x_Unlike : XCls K a.C_Unlike
  m_BadWeights : mg "BadWeights" = some (.ref a.C_BadWeights)
  x_BadWeights : XCls K a.C_BadWeights
  m_BadText : mg "BadText" = some (.ref a.C_BadText)
  x_BadText : XCls K a.C_BadText
  ki_BadCouncil_BadCouncil : PySem.W.kitOne K (.ref a.C_BadCouncil) (.ref a.C_BadCouncil) = some true
  ki_BadCouncil_BadGroup : PySem.W.kitOne K (.ref a.C_BadCouncil) (.ref a.C_BadGroup) = some false
  ki_BadCouncil_NoMember : PySem.W.kitOne K (.ref a.C_BadCouncil) (.ref a.C_NoMember) = some false
  ki_BadCouncil_BadWeights : PySem.W.kitOne K (.ref a.C_BadCouncil) (.ref a.C_BadWeights) = some false
  ki_BadCouncil_Unlike : PySem.W.kitOne K (.ref a.C_BadCouncil) (.ref a.C_Unlike) = some false
  ki_BadCouncil_BadText : PySem.W.kitOne K (.ref a.C_BadCouncil) (.ref a.C_BadText) = some false
  ki_BadCouncil_ValueError : PySem.W.kitOne K (.ref a.C_BadCouncil) (.type "ValueError") = some true
  ki_BadGroup_BadCouncil : PySem.W.kitOne K (.ref a.C_BadGroup) (.ref a.C_BadCouncil) = some false
  ki_BadGroup_BadGroup : PySem.W.kitOne K (.ref a.C_BadGroup) (.ref a.C_BadGroup) = some true
  ki_BadGroup_NoMember : PySem.W.kitOne K (.ref a.C_BadGroup) (.ref a.C_NoMember) = some false
  ki_BadGroup_BadWeights : PySem.W.kitOne K (.ref a.C_BadGroup) (.ref a.C_BadWeights) = some false
  ki_BadGroup_Unlike : PySem.W.kitOne K (.ref a.C_BadGroup) (.ref a.C_Unlike) = some false
  ki_BadGroup_BadText : PySem.W.kitOne K (.ref a.C_BadGroup) (.ref a.C_BadText) = some false
  ki_BadGroup_ValueError : PySem.W.kitOne K (.ref a.C_BadGroup) (.type "ValueError") = some true
  ki_NoMember_BadCouncil : PySem.W.kitOne K (.ref a.C_NoMember) (.ref a.C_BadCouncil) = some false
  ki_NoMember_BadGroup : PySem.W.kitOne K (.ref a.C_NoMember) (.ref a.C_BadGroup) = some false
  ki_NoMember_NoMember : PySem.W.kitOne K (.ref a.C_NoMember) (.ref a.C_NoMember) = some true
  ki_NoMember_BadWeights : PySem.W.kitOne K (.ref a.C_NoMember) (.ref a.C_BadWeights) = some false
  ki_NoMember_Unlike : PySem.W.kitOne K (.ref a.C_NoMember) (.ref a.C_Unlike) = some false
  ki_NoMember_BadText : PySem.W.kitOne K (.ref a.C_NoMember) (.ref a.C_BadText) = some false
  ki_NoMember_ValueError : PySem.W.kitOne K (.ref a.C_NoMember) (.type "ValueError") = some true
  ki_BadWeights_BadCouncil : PySem.W.kitOne K (.ref a.C_BadWeights) (.ref a.C_BadCouncil) = some false
  ki_BadWeights_BadGroup : PySem.W.kitOne K (.ref a.C_BadWeights) (.ref a.C_BadGroup) = some false
  ki_BadWeights_NoMember : PySem.W.kitOne K (.ref a.C_BadWeights) (.ref a.C_NoMember) = some false
  ki_BadWeights_BadWeights : PySem.W.kitOne K (.ref a.C_BadWeights) (.ref a.C_BadWeights) = some true
  ki_BadWeights_Unlike : PySem.W.kitOne K (.ref a.C_BadWeights) (.ref a.C_Unlike) = some false
  ki_BadWeights_BadText : PySem.W.kitOne K (.ref a.C_BadWeights) (.ref a.C_BadText) = some false
  ki_BadWeights_ValueError : PySem.W.kitOne K (.ref a.C_BadWeights) (.type "ValueError") = some true
  su_BadCouncil_CouncilError : PySem.W.mroIn K a.C_BadCouncil (.ref a.C_CouncilError) = some true
  su_BadGroup_CouncilError : PySem.W.mroIn K a.C_BadGroup (.ref a.C_CouncilError) = some true
  su_NoMember_CouncilError : PySem.W.mroIn K a.C_NoMember (.ref a.C_CouncilError) = some true
  su_BadWeights_CouncilError : PySem.W.mroIn K a.C_BadWeights (.ref a.C_CouncilError) = some true
  n_Council_members : NoAttr K a.C_Council "members"
  n_Council_table : NoAttr K a.C_Council "table"
  F_is_whole : Fun K "is_whole" "is_whole" s_is_whole a.a_is_whole a.d_is_whole
  m_is_whole : mg "is_whole" = some (.ref a.a_is_whole)
  F_everybody : Fun K "everybody" "everybody" s_everybody a.a_everybody a.d_everybody
  m_everybody : mg "everybody" = some (.ref a.a_everybody)
  F_is_member : Fun K "is_member" "is_member" s_is_member a.a_is_member a.d_is_member
  m_is_member : mg "is_member" = some (.ref a.a_is_member)
  F_is_group : Fun K "is_group" "is_group" s_is_group a.a_is_group a.d_is_group
  m_is_group : mg "is_group" = some (.ref a.a_is_group)
  F_groups_of : Fun K "groups_of" "groups_of" s_groups_of a.a_groups_of a.d_groups_of
  m_groups_of : mg "groups_of" = some (.ref a.a_groups_of)
  F_has : Fun K "has" "has" s_has a.a_has a.d_has
  m_has : mg "has" = some (.ref a.a_has)
  F_members_of : Fun K "members_of" "members_of" s_members_of a.a_members_of a.d_members_of
  m_members_of : mg "members_of" = some (.ref a.a_members_of)
  F_with_member : Fun K "with_member" "with_member" s_with_member a.a_with_member a.d_with_member
  m_with_member : mg "with_member" = some (.ref a.a_with_member)
  F_within : Fun K "within" "within" s_within a.a_within a.d_within
  m_within : mg "within" = some (.ref a.a_within)
  F_weight_of : Fun K "weight_of" "weight_of" s_weight_of a.a_weight_of a.d_weight_of
  m_weight_of : mg "weight_of" = some (.ref a.a_weight_of)
  F_Council_init : Fun K "__init__" "Council.__init__" s_Council_init a.a_Council_init a.d_Council_init
  F_Council_carries : Fun K "carries" "Council.carries" s_Council_carries a.a_Council_carries a.d_Council_carries
  mt_Council_carries : Meth K a.C_Council "carries" a.a_Council_carries
  F_Council_least : Fun K "least" "Council.least" s_Council_least a.a_Council_least a.d_Council_least
  mt_Council_least : Meth K a.C_Council "least" a.a_Council_least
  F_Council_greatest : Fun K "greatest" "Council.greatest" s_Council_greatest a.a_Council_greatest a.d_Council_greatest
  mt_Council_greatest : Meth K a.C_Council "greatest" a.a_Council_greatest
  F_Council_is_least : Fun K "is_least" "Council.is_least" s_Council_is_least a.a_Council_is_least a.d_Council_is_least
  mt_Council_is_least : Meth K a.C_Council "is_least" a.a_Council_is_least
  F_Council_is_greatest : Fun K "is_greatest" "Council.is_greatest" s_Council_is_greatest a.a_Council_is_greatest a.d_Council_is_greatest
  mt_Council_is_greatest : Meth K a.C_Council "is_greatest" a.a_Council_is_greatest
  F_refuse_bad_council : Fun K "refuse_bad_council" "refuse_bad_council" s_refuse_bad_council a.a_refuse_bad_council a.d_refuse_bad_council
  m_refuse_bad_council : mg "refuse_bad_council" = some (.ref a.a_refuse_bad_council)
  F_has_one_within : Fun K "has_one_within" "has_one_within" s_has_one_within a.a_has_one_within a.d_has_one_within
  m_has_one_within : mg "has_one_within" = some (.ref a.a_has_one_within)
  F_weighted : Fun K "weighted" "weighted" s_weighted a.a_weighted a.d_weighted
  m_weighted : mg "weighted" = some (.ref a.a_weighted)
  F_refuse_bad_weights : Fun K "refuse_bad_weights" "refuse_bad_weights" s_refuse_bad_weights a.a_refuse_bad_weights a.d_refuse_bad_weights
  m_refuse_bad_weights : mg "refuse_bad_weights" = some (.ref a.a_refuse_bad_weights)
  F_tells_apart : Fun K "tells_apart" "tells_apart" s_tells_apart a.a_tells_apart a.d_tells_apart
  m_tells_apart : mg "tells_apart" = some (.ref a.a_tells_apart)
  F_groups_apart : Fun K "groups_apart" "groups_apart" s_groups_apart a.a_groups_apart a.d_groups_apart
  m_groups_apart : mg "groups_apart" = some (.ref a.a_groups_apart)
  F_stands : Fun K "stands" "stands" s_stands a.a_stands a.d_stands
  m_stands : mg "stands" = some (.ref a.a_stands)
  F_refuse_no_member : Fun K "refuse_no_member" "refuse_no_member" s_refuse_no_member a.a_refuse_no_member a.d_refuse_no_member
  m_refuse_no_member : mg "refuse_no_member" = some (.ref a.a_refuse_no_member)
  F_law_cell_at : Fun K "_law_cell_at" "_law_cell_at" s_law_cell_at a.a_law_cell_at a.d_law_cell_at
  m_law_cell_at : mg "_law_cell_at" = some (.ref a.a_law_cell_at)
  F_law_sort : Fun K "_law_sort" "_law_sort" s_law_sort a.a_law_sort a.d_law_sort
  m_law_sort : mg "_law_sort" = some (.ref a.a_law_sort)
  F_law_asked : Fun K "_law_asked" "_law_asked" s_law_asked a.a_law_asked a.d_law_asked
  m_law_asked : mg "_law_asked" = some (.ref a.a_law_asked)
  F_law : Fun K "law" "law" s_law a.a_law a.d_law
  m_law : mg "law" = some (.ref a.a_law)
  g_MOST_MEMBERS : mg "MOST_MEMBERS" = some (.int 5 a.t_MOST_MEMBERS)
  g_MOST_WEIGHT : mg "MOST_WEIGHT" = some (.int 1000000 a.t_MOST_WEIGHT)
  g_MOST_QUOTA : mg "MOST_QUOTA" = some (.int 5000001 a.t_MOST_QUOTA)
  z_ValueError : mg "ValueError" = none
  z_all : mg "all" = none
  z_any : mg "any" = none
  z_bool : mg "bool" = none
  z_enumerate : mg "enumerate" = none
  z_int : mg "int" = none
  z_isinstance : mg "isinstance" = none
  z_len : mg "len" = none
  z_list : mg "list" = none
  z_range : mg "range" = none
  z_sum : mg "sum" = none
  z_tuple : mg "tuple" = none
theorem sc_is_whole : FnScope ["value", "most"] ["value", "most"] (defScope s_is_whole) := ⟨rfl, rfl, rfl, by decide +kernel, rfl, by decide +kernel, by decide +kernel⟩
theorem b_is_whole {K : PySem.W.Frag} {mg : Str → Option Value} {a : Adr} (T : Txt K mg a) : Binds K a.d_is_whole ["value", "most"] [] := T.F_is_whole.binds fun _ _ _ _ _ _ us hl => match us, hl with | [_, _], _ => rfl
theorem sc_everybody : FnScope ["members"] ["members"] (defScope s_everybody) := ⟨rfl, rfl, rfl, by decide +kernel, rfl, by decide +kernel, by decide +kernel⟩
theorem b_everybody {K : PySem.W.Frag} {mg : Str → Option Value} {a : Adr} (T : Txt K mg a) : Binds K a.d_everybody ["members"] [] := T.F_everybody.binds fun _ _ _ _ _ _ us hl => match us, hl with | [_], _ => rfl
theorem sc_is_member : FnScope ["value", "members"] ["value", "members"] (defScope s_is_member) := ⟨rfl, rfl, rfl, by decide +kernel, rfl, by decide +kernel, by decide +kernel⟩
theorem b_is_member {K : PySem.W.Frag} {mg : Str → Option Value} {a : Adr} (T : Txt K mg a) : Binds K a.d_is_member ["value", "members"] [] := T.F_is_member.binds fun _ _ _ _ _ _ us hl => match us, hl with | [_, _], _ => rfl
theorem sc_is_group : FnScope ["value", "members"] ["value", "members"] (defScope s_is_group) := ⟨rfl, rfl, rfl, by decide +kernel, rfl, by decide +kernel, by decide +kernel⟩
theorem b_is_group {K : PySem.W.Frag} {mg : Str → Option Value} {a : Adr} (T : Txt K mg a) : Binds K a.d_is_group ["value", "members"] [] := T.F_is_group.binds fun _ _ _ _ _ _ us hl => match us, hl with | [_, _], _ => rfl
theorem sc_groups_of : FnScope ["members"] ["members"] (defScope s_groups_of) := ⟨rfl, rfl, rfl, by decide +kernel, rfl, by decide +kernel, by decide +kernel⟩
theorem b_groups_of {K : PySem.W.Frag} {mg : Str → Option Value} {a : Adr} (T : Txt K mg a) : Binds K a.d_groups_of ["members"] [] := T.F_groups_of.binds fun _ _ _ _ _ _ us hl => match us, hl with | [_], _ => rfl
theorem sc_has : FnScope ["group", "member"] ["group", "member"] (defScope s_has) := ⟨rfl, rfl, rfl, by decide +kernel, rfl, by decide +kernel, by decide +kernel⟩
theorem b_has {K : PySem.W.Frag} {mg : Str → Option Value} {a : Adr} (T : Txt K mg a) : Binds K a.d_has ["group", "member"] [] := T.F_has.binds fun _ _ _ _ _ _ us hl => match us, hl with | [_, _], _ => rfl
theorem sc_members_of : FnScope ["group"] ["group"] (defScope s_members_of) := ⟨rfl, rfl, rfl, by decide +kernel, rfl, by decide +kernel, by decide +kernel⟩
theorem b_members_of {K : PySem.W.Frag} {mg : Str → Option Value} {a : Adr} (T : Txt K mg a) : Binds K a.d_members_of ["group"] [] := T.F_members_of.binds fun _ _ _ _ _ _ us hl => match us, hl with | [_], _ => rfl
theorem sc_with_member : FnScope ["group", "member"] ["group", "member"] (defScope s_with_member) := ⟨rfl, rfl, rfl, by decide +kernel, rfl, by decide +kernel, by decide +kernel⟩
theorem b_with_member {K : PySem.W.Frag} {mg : Str → Option Value} {a : Adr} (T : Txt K mg a) : Binds K a.d_with_member ["group", "member"] [] := T.F_with_member.binds fun _ _ _ _ _ _ us hl => match us, hl with | [_, _], _ => rfl
theorem sc_within : FnScope ["small", "large"] ["small", "large"] (defScope s_within) := ⟨rfl, rfl, rfl, by decide +kernel, rfl, by decide +kernel, by decide +kernel⟩
theorem b_within {K : PySem.W.Frag} {mg : Str → Option Value} {a : Adr} (T : Txt K mg a) : Binds K a.d_within ["small", "large"] [] := T.F_within.binds fun _ _ _ _ _ _ us hl => match us, hl with | [_, _], _ => rfl
theorem sc_weight_of : FnScope ["weights", "group"] ["weights", "group"] (defScope s_weight_of) := ⟨rfl, rfl, rfl, by decide +kernel, rfl, by decide +kernel, by decide +kernel⟩
theorem b_weight_of {K : PySem.W.Frag} {mg : Str → Option Value} {a : Adr} (T : Txt K mg a) : Binds K a.d_weight_of ["weights", "group"] [] := T.F_weight_of.binds fun _ _ _ _ _ _ us hl => match us, hl with | [_, _], _ => rfl
theorem sc_Council_init : FnScope ["self", "members", "groups"] ["self", "members", "groups"] (defScope s_Council_init) := ⟨rfl, rfl, rfl, by decide +kernel, rfl, by decide +kernel, by decide +kernel⟩
theorem b_Council_init {K : PySem.W.Frag} {mg : Str → Option Value} {a : Adr} (T : Txt K mg a) : Binds K a.d_Council_init ["self", "members", "groups"] [] := T.F_Council_init.binds fun _ _ _ _ _ _ us hl => match us, hl with | [_, _, _], _ => rfl
theorem sc_Council_carries : FnScope ["self", "group"] ["self", "group"] (defScope s_Council_carries) := ⟨rfl, rfl, rfl, by decide +kernel, rfl, by decide +kernel, by decide +kernel⟩
theorem b_Council_carries {K : PySem.W.Frag} {mg : Str → Option Value} {a : Adr} (T : Txt K mg a) : Binds K a.d_Council_carries ["self", "group"] [] := T.F_Council_carries.binds fun _ _ _ _ _ _ us hl => match us, hl with | [_, _], _ => rfl
theorem sc_Council_least : FnScope ["self"] ["self"] (defScope s_Council_least) := ⟨rfl, rfl, rfl, by decide +kernel, rfl, by decide +kernel, by decide +kernel⟩
theorem b_Council_least {K : PySem.W.Frag} {mg : Str → Option Value} {a : Adr} (T : Txt K mg a) : Binds K a.d_Council_least ["self"] [] := T.F_Council_least.binds fun _ _ _ _ _ _ us hl => match us, hl with | [_], _ => rfl
theorem sc_Council_greatest : FnScope ["self"] ["self"] (defScope s_Council_greatest) := ⟨rfl, rfl, rfl, by decide +kernel, rfl, by decide +kernel, by decide +kernel⟩
theorem b_Council_greatest {K : PySem.W.Frag} {mg : Str → Option Value} {a : Adr} (T : Txt K mg a) : Binds K a.d_Council_greatest ["self"] [] := T.F_Council_greatest.binds fun _ _ _ _ _ _ us hl => match us, hl with | [_], _ => rfl
theorem sc_Council_is_least : FnScope ["self", "group", "smaller"] ["self", "group"] (defScope s_Council_is_least) := ⟨rfl, rfl, rfl, by decide +kernel, rfl, by decide +kernel, by decide +kernel⟩
theorem b_Council_is_least {K : PySem.W.Frag} {mg : Str → Option Value} {a : Adr} (T : Txt K mg a) : Binds K a.d_Council_is_least ["self", "group"] [] := T.F_Council_is_least.binds fun _ _ _ _ _ _ us hl => match us, hl with | [_, _], _ => rfl
theorem sc_Council_is_greatest : FnScope ["self", "group", "larger"] ["self", "group"] (defScope s_Council_is_greatest) := ⟨rfl, rfl, rfl, by decide +kernel, rfl, by decide +kernel, by decide +kernel⟩
theorem b_Council_is_greatest {K : PySem.W.Frag} {mg : Str → Option Value} {a : Adr} (T : Txt K mg a) : Binds K a.d_Council_is_greatest ["self", "group"] [] := T.F_Council_is_greatest.binds fun _ _ _ _ _ _ us hl => match us, hl with | [_, _], _ => rfl
theorem sc_refuse_bad_council : FnScope ["members", "groups"] ["members", "groups"] (defScope s_refuse_bad_council) := ⟨rfl, rfl, rfl, by decide +kernel, rfl, by decide +kernel, by decide +kernel⟩
theorem b_refuse_bad_council {K : PySem.W.Frag} {mg : Str → Option Value} {a : Adr} (T : Txt K mg a) : Binds K a.d_refuse_bad_council ["members", "groups"] [] := T.F_refuse_bad_council.binds fun _ _ _ _ _ _ us hl => match us, hl with | [_, _], _ => rfl
theorem sc_has_one_within : FnScope ["groups", "group"] ["groups", "group"] (defScope s_has_one_within) := ⟨rfl, rfl, rfl, by decide +kernel, rfl, by decide +kernel, by decide +kernel⟩
theorem b_has_one_within {K : PySem.W.Frag} {mg : Str → Option Value} {a : Adr} (T : Txt K mg a) : Binds K a.d_has_one_within ["groups", "group"] [] := T.F_has_one_within.binds fun _ _ _ _ _ _ us hl => match us, hl with | [_, _], _ => rfl
theorem sc_weighted : FnScope ["weights", "quota", "members", "carrying"] ["weights", "quota"] (defScope s_weighted) := ⟨rfl, rfl, rfl, by decide +kernel, rfl, by decide +kernel, by decide +kernel⟩
theorem b_weighted {K : PySem.W.Frag} {mg : Str → Option Value} {a : Adr} (T : Txt K mg a) : Binds K a.d_weighted ["weights", "quota"] [] := T.F_weighted.binds fun _ _ _ _ _ _ us hl => match us, hl with | [_, _], _ => rfl
theorem sc_refuse_bad_weights : FnScope ["weights", "quota"] ["weights", "quota"] (defScope s_refuse_bad_weights) := ⟨rfl, rfl, rfl, by decide +kernel, rfl, by decide +kernel, by decide +kernel⟩
theorem b_refuse_bad_weights {K : PySem.W.Frag} {mg : Str → Option Value} {a : Adr} (T : Txt K mg a) : Binds K a.d_refuse_bad_weights ["weights", "quota"] [] := T.F_refuse_bad_weights.binds fun _ _ _ _ _ _ us hl => match us, hl with | [_, _], _ => rfl
theorem sc_tells_apart : FnScope ["council", "group", "one", "other"] ["council", "group", "one", "other"] (defScope s_tells_apart) := ⟨rfl, rfl, rfl, by decide +kernel, rfl, by decide +kernel, by decide +kernel⟩
theorem b_tells_apart {K : PySem.W.Frag} {mg : Str → Option Value} {a : Adr} (T : Txt K mg a) : Binds K a.d_tells_apart ["council", "group", "one", "other"] [] := T.F_tells_apart.binds fun _ _ _ _ _ _ us hl => match us, hl with | [_, _, _, _], _ => rfl
theorem sc_groups_apart : FnScope ["council", "one", "other"] ["council", "one", "other"] (defScope s_groups_apart) := ⟨rfl, rfl, rfl, by decide +kernel, rfl, by decide +kernel, by decide +kernel⟩
theorem b_groups_apart {K : PySem.W.Frag} {mg : Str → Option Value} {a : Adr} (T : Txt K mg a) : Binds K a.d_groups_apart ["council", "one", "other"] [] := T.F_groups_apart.binds fun _ _ _ _ _ _ us hl => match us, hl with | [_, _, _], _ => rfl
theorem sc_stands : FnScope ["council", "one", "other"] ["council", "one", "other"] (defScope s_stands) := ⟨rfl, rfl, rfl, by decide +kernel, rfl, by decide +kernel, by decide +kernel⟩
theorem b_stands {K : PySem.W.Frag} {mg : Str → Option Value} {a : Adr} (T : Txt K mg a) : Binds K a.d_stands ["council", "one", "other"] [] := T.F_stands.binds fun _ _ _ _ _ _ us hl => match us, hl with | [_, _, _], _ => rfl
theorem sc_refuse_no_member : FnScope ["council", "member"] ["council", "member"] (defScope s_refuse_no_member) := ⟨rfl, rfl, rfl, by decide +kernel, rfl, by decide +kernel, by decide +kernel⟩
theorem b_refuse_no_member {K : PySem.W.Frag} {mg : Str → Option Value} {a : Adr} (T : Txt K mg a) : Binds K a.d_refuse_no_member ["council", "member"] [] := T.F_refuse_no_member.binds fun _ _ _ _ _ _ us hl => match us, hl with | [_, _], _ => rfl
theorem sc_law_cell_at : FnScope ["_law_script", "_law_k"] ["_law_script", "_law_k"] (defScope s_law_cell_at) := ⟨rfl, rfl, rfl, by decide +kernel, rfl, by decide +kernel, by decide +kernel⟩
theorem b_law_cell_at {K : PySem.W.Frag} {mg : Str → Option Value} {a : Adr} (T : Txt K mg a) : Binds K a.d_law_cell_at ["_law_script", "_law_k"] [] := T.F_law_cell_at.binds fun _ _ _ _ _ _ us hl => match us, hl with | [_, _], _ => rfl
theorem sc_law_sort : FnScope ["_law_error", "_law_kinds"] ["_law_error"] (defScope s_law_sort) := ⟨rfl, rfl, rfl, by decide +kernel, rfl, by decide +kernel, by decide +kernel⟩
theorem b_law_sort {K : PySem.W.Frag} {mg : Str → Option Value} {a : Adr} (T : Txt K mg a) : Binds K a.d_law_sort ["_law_error"] [] := T.F_law_sort.binds fun _ _ _ _ _ _ us hl => match us, hl with | [_], _ => rfl
theorem sc_law_asked : FnScope ["_law_door", "_law_one", "_law_other", "_law_error"] ["_law_door", "_law_one", "_law_other"] (defScope s_law_asked) := ⟨rfl, rfl, rfl, by decide +kernel, rfl, by decide +kernel, by decide +kernel⟩
theorem b_law_asked {K : PySem.W.Frag} {mg : Str → Option Value} {a : Adr} (T : Txt K mg a) : Binds K a.d_law_asked ["_law_door", "_law_one", "_law_other"] [] := T.F_law_asked.binds fun _ _ _ _ _ _ us hl => match us, hl with | [_, _, _], _ => rfl
theorem sc_law : FnScope ["_law_script", "_law_more", "_law_members", "_law_bad", "_law_groups", "_law_thing", "_law_weights", "_law_quota", "_law_great"] ["_law_script"] (defScope s_law) := ⟨rfl, rfl, rfl, by decide +kernel, rfl, by decide +kernel, by decide +kernel⟩
theorem b_law {K : PySem.W.Frag} {mg : Str → Option Value} {a : Adr} (T : Txt K mg a) : Binds K a.d_law ["_law_script"] [] := T.F_law.binds fun _ _ _ _ _ _ us hl => match us, hl with | [_], _ => rfl

/-! ## the data -/
theorem kmt : ¬ (("members" : Str) = "table") := by decide +kernel
theorem ktm : ¬ (("table" : Str) = "members") := by decide +kernel
def flds (n : Int) (t : Addr) : List (Str × V) := putF "table" (.ref t) (putF "members" (.int n) [])
theorem flds_m (n : Int) (t : Addr) : (flds n t).lookup ("members" : Str) = some (.int n) := by
  unfold flds
  rw [lookup_putF, if_neg kmt, lookup_putF, if_pos rfl]
theorem flds_t (n : Int) (t : Addr) : (flds n t).lookup ("table" : Str) = some (.ref t) := by
  unfold flds
  rw [lookup_putF, if_pos rfl]
theorem flds_no (n : Int) (t : Addr) {m : Str} (h1 : ¬ m = "table") (h2 : ¬ m = "members") : (flds n t).lookup m = none := by
  unfold flds
  rw [lookup_putF, if_neg h1, lookup_putF, if_neg h2]
  rfl
/-- a council stands at p: n members, tb tells which groups carry -/
structure CAt (C : Addr) (H : Hp) (p : Addr) (n : Nat) (tb : List Bool) : Prop where
  ob : ∃ dx t, H p = some (.ins C dx (flds (n : Int) t)) ∧ H t = some (.tup (tb.map V.bl))
  n1 : 1 ≤ n
  n5 : n ≤ 5
  len : tb.length = 2 ^ n
theorem CAt.same {C : Addr} {H H' : Hp} {p : Addr} {n : Nat} {tb : List Bool} (c : CAt C H p n tb) (h : Same H H') : CAt C H' p n tb := by
  obtain ⟨⟨dx, t, h1, h2⟩, n1, n5, l⟩ := c
  exact ⟨⟨dx, t, h _ _ h1, h _ _ h2⟩, n1, n5, l⟩
theorem nat_pow (n : Nat) : ((2 ^ n : Nat) : Int) = 2 ^ n := by
  induction n with
  | zero => rfl
  | succ k ih => rw [Nat.pow_succ, Int.pow_succ, ← ih]; omega
theorem pow_n {n : Nat} : (1 : Int) * 2 ^ ((n : Int)).toNat = ((2 ^ n : Nat) : Int) := by
  rw [Int.toNat_natCast, nat_pow]; omega
theorem upto_up (n : Nat) : upto n = (up n).map V.int := by
  unfold upto up
  rw [List.map_map]
  rfl
theorem shl_ok {n : Nat} (h : n ≤ 1000) : CPow 1 (n : Int) := ⟨by omega, by omega, by decide⟩

/-! ## the promises -/
def sp_is_whole : Sp := sp2 (fun _ _ => True) fun v m => .bl (decide (0 ≤ v ∧ v ≤ m))
def sp_everybody : Sp := fun vs H Q _ => ∃ n : Nat, vs = [.int n] ∧ n ≤ 5 ∧ ∀ H', Same H H' → Q (.int (((2 ^ n : Nat) : Int) - 1)) H'
def sp_is_group : Sp := fun vs H Q _ => ∃ (v : Int) (n : Nat), vs = [.int v, .int n] ∧ n ≤ 5 ∧ ∀ H', Same H H' → Q (.bl (decide (0 ≤ v ∧ v ≤ ((2 ^ n : Nat) : Int) - 1))) H'
def sp_groups_of : Sp := fun vs H Q _ => ∃ n : Nat, vs = [.int n] ∧ n ≤ 5 ∧ ∀ r H', H r = none → Same H H' → H' r = some (.lst ((up (2 ^ n)).map V.int)) → Q (.ref r) H'
def sp_has : Sp := sp2 (fun _ m => 0 ≤ m) fun g m => .bl (hasB g m)
def sp_members_of : Sp := fun vs H Q _ => ∃ g : Int, vs = [.int g] ∧ ∀ r H', H r = none → Same H H' → H' r = some (.lst ((ins 5 g).map V.int)) → Q (.ref r) H'
def sp_with_member : Sp := sp2 (fun _ m => 0 ≤ m ∧ m ≤ 5) fun g m => .int (Builtin.bitOr g (1 * 2 ^ m.toNat))
def sp_within : Sp := sp2 (fun _ _ => True) fun s l => .bl (withinB s l)
def sp_weight_of : Sp := fun vs H Q _ => ∃ (l : Addr) (ws : List Int) (g : Int), vs = [.ref l, .int g] ∧ H l = some (.lst (ws.map V.int)) ∧ ws.length ≤ 1000 ∧ ∀ H', Same H H' → Q (.int (wtOf ws g)) H'
def sp_has_one_within : Sp := fun vs H Q _ => ∃ (l : Addr) (gs : List Int) (g : Int), vs = [.ref l, .int g] ∧ H l = some (.lst (gs.map V.int)) ∧ gs.length ≤ 1000 ∧ ∀ H', Same H H' → Q (.bl (carrB gs g)) H'
/-- groups of n members -/
def GrpOk (n : Nat) (gs : List Int) : Prop := gs.length ≤ 1000 ∧ ∀ g ∈ gs, 0 ≤ g ∧ g < ((2 ^ n : Nat) : Int)
def sp_refuse_bad_council : Sp := fun vs H Q _ => ∃ (n : Nat) (l : Addr) (gs : List Int), vs = [.int n, .ref l] ∧ 1 ≤ n ∧ n ≤ 5 ∧ H l = some (.lst (gs.map V.int)) ∧ GrpOk n gs ∧ ∀ H', Same H H' → Q .non H'
def sp_init (C : Addr) : Sp := fun vs H Q _ => ∃ (p dx : Addr) (n : Nat) (l : Addr) (gs : List Int), vs = [.ref p, .int n, .ref l] ∧ H p = some (.ins C dx []) ∧ 1 ≤ n ∧ n ≤ 5 ∧ H l = some (.lst (gs.map V.int)) ∧ GrpOk n gs ∧
  ∀ H', CAt C H' p n (tabOf n gs) → (∀ b o, H b = some o → b ≠ p → H' b = some o) → Q .non H'
def sp_carries (C : Addr) : Sp := fun vs H Q _ => ∃ (p : Addr) (n : Nat) (tb : List Bool) (g : Int), vs = [.ref p, .int g] ∧ CAt C H p n tb ∧ 0 ≤ g ∧ g < ((2 ^ n : Nat) : Int) ∧ ∀ H', Same H H' → Q (.bl (at_ tb g)) H'
def sp_is_least (C : Addr) : Sp := fun vs H Q _ => ∃ (p : Addr) (n : Nat) (tb : List Bool) (g : Int), vs = [.ref p, .int g] ∧ CAt C H p n tb ∧ 0 ≤ g ∧ g < ((2 ^ n : Nat) : Int) ∧
  ∀ H', Same H H' → Q (.bl (at_ tb g && !((ins n g).map fun m => at_ tb (g - 1 * 2 ^ m.toNat)).any id)) H'
def sp_is_greatest (C : Addr) : Sp := fun vs H Q _ => ∃ (p : Addr) (n : Nat) (tb : List Bool) (g : Int), vs = [.ref p, .int g] ∧ CAt C H p n tb ∧ 0 ≤ g ∧ g < ((2 ^ n : Nat) : Int) ∧
  ∀ H', Same H H' → Q (.bl (!at_ tb g && ((outs n g).map fun m => at_ tb (g + 1 * 2 ^ m.toNat)).all id)) H'
def sp_least (C : Addr) : Sp := fun vs H Q _ => ∃ (p : Addr) (n : Nat) (tb : List Bool), vs = [.ref p] ∧ CAt C H p n tb ∧
  ∀ r H', H r = none → Same H H' → H' r = some (.lst ((leastBy (fun g m => g - 1 * 2 ^ m.toNat) n tb).map V.int)) → Q (.ref r) H'
def sp_greatest (C : Addr) : Sp := fun vs H Q _ => ∃ (p : Addr) (n : Nat) (tb : List Bool), vs = [.ref p] ∧ CAt C H p n tb ∧
  ∀ r H', H r = none → Same H H' → H' r = some (.lst ((greatBy (fun g m => g + 1 * 2 ^ m.toNat) n tb).map V.int)) → Q (.ref r) H'

/-! ## groups.py -/
theorem ok_is_whole {P : Program} {w : World} {K : PySem.W.Frag} {mg : Str → Option Value} {base : Heap} {a : Adr} (T : Txt K mg a) : FnOk P w K mg base CX0 1 a.a_is_whole a.d_is_whole ["value", "most"] sp_is_whole := by
  refine T.F_is_whole.ok sc_is_whole (fun vs H Q E h => ?_) (fun cdv A outer s H vs Q E hr h => ?_)
  · obtain ⟨x, y, rfl, _⟩ := h; rfl
  obtain ⟨v, m, rfl, _, k⟩ := h
  refine ⟨_, (pss_one (ps_ret (pe_and (pe_callB (call_isiK K) rfl T.z_isinstance PyProof.Rows.boot_isinstance (pa_cons (pv 0) (pa_cons (pe_bltn (v := .ty "int") rfl T.z_int PyProof.Rows.boot_int rfl) pa_nil))) (pe_and (pe_not (pe_callB (call_isiK K) rfl T.z_isinstance PyProof.Rows.boot_isinstance (pa_cons (pv 0) (pa_cons (pe_bltn (v := .ty "bool") rfl T.z_bool PyProof.Rows.boot_bool rfl) pa_nil)))) (pe_one (pe_chain op_le op_le pe_int (pv 0) (pv 1))))))), ?_⟩
  refine ⟨_, rfl, _, "int", "int", true, rfl, .int v, .inl rfl, isi_ii, true, rfl, iteT ?_⟩
  refine ⟨_, rfl, _, "int", "bool", false, rfl, .int v, .inr (.inl rfl), isi_ib, false, rfl, true, rfl, iteT ?_⟩
  refine ⟨_, rfl, _, _, rfl, rfl, _, rfl, ?_⟩
  refine ite_b (fun c => ?_) (fun c => ?_)
  · refine ⟨_, rfl, _, _, rfl, rfl, ?_⟩
    have c' : 0 ≤ v := of_decide_eq_true c
    have e : decide (0 ≤ v ∧ v ≤ m) = decide (v ≤ m) := by
      rw [Bool.eq_iff_iff, decide_eq_true_eq, decide_eq_true_eq]
      exact ⟨fun z => z.2, fun z => ⟨c', z⟩⟩
    have q : Q (.bl (decide (0 ≤ v ∧ v ≤ m))) H := k H (Same.refl H)
    rw [e] at q
    exact q
  · have c' : ¬ 0 ≤ v := of_decide_eq_false c
    have e : decide (0 ≤ v ∧ v ≤ m) = false := decide_eq_false fun z => c' z.1
    have q : Q (.bl (decide (0 ≤ v ∧ v ≤ m))) H := k H (Same.refl H)
    rw [e] at q
    exact q
theorem ok_everybody {P : Program} {w : World} {K : PySem.W.Frag} {mg : Str → Option Value} {base : Heap} {a : Adr} (T : Txt K mg a) : FnOk P w K mg base CX0 1 a.a_everybody a.d_everybody ["members"] sp_everybody := by
  refine T.F_everybody.ok sc_everybody (fun vs H Q E h => ?_) (fun cdv A outer s H vs Q E hr h => ?_)
  · obtain ⟨x, rfl, _⟩ := h; rfl
  obtain ⟨n, rfl, hn, k⟩ := h
  refine ⟨_, (pss_one (ps_ret (pe_op op_sub (pe_op op_shl pe_int (pv 0)) pe_int))), ?_⟩
  refine ⟨_, rfl, _, _, rfl, rfl, shl_ok (by omega), _, _, rfl, rfl, ?_⟩
  have q := k H (Same.refl H)
  rw [← pow_n] at q
  exact q
theorem ok_is_group {P : Program} {w : World} {K : PySem.W.Frag} {mg : Str → Option Value} {base : Heap} {a : Adr} (T : Txt K mg a) : FnOk P w K mg base CX0 2 a.a_is_group a.d_is_group ["value", "members"] sp_is_group := by
  refine T.F_is_group.ok sc_is_group (fun vs H Q E h => ?_) (fun cdv A outer s H vs Q E hr h => ?_)
  · obtain ⟨x, n, rfl, _⟩ := h; rfl
  obtain ⟨v, n, rfl, hn, k⟩ := h
  refine ⟨_, (pss_one (ps_ret (pe_call (ok_is_whole T) hr rfl T.m_is_whole T.F_is_whole.kp (b_is_whole T) .nil pass0 (pa_cons (pv 0) (pa_cons (pe_call (ok_everybody T) hr rfl T.m_everybody T.F_everybody.kp (b_everybody T) .nil pass0 (pa_cons (pv 1) pa_nil)) pa_nil))))), ?_⟩
  refine ⟨_, rfl, _, rfl, n, rfl, hn, fun H1 h1 => ?_⟩
  exact ⟨_, _, rfl, trivial, fun H2 h2 => k H2 (h1.trans h2)⟩
theorem ok_groups_of {P : Program} {w : World} {K : PySem.W.Frag} {mg : Str → Option Value} {base : Heap} {a : Adr} (T : Txt K mg a) : FnOk P w K mg base CX0 1 a.a_groups_of a.d_groups_of ["members"] sp_groups_of := by
  refine T.F_groups_of.ok sc_groups_of (fun vs H Q E h => ?_) (fun cdv A outer s H vs Q E hr h => ?_)
  · obtain ⟨n, rfl, _⟩ := h; rfl
  obtain ⟨n, rfl, hn, k⟩ := h
  refine ⟨_, (pss_one (ps_ret (pe_callTy (call_list_rng rfl) rfl T.z_list PyProof.Rows.boot_list (pa_cons (pe_callTy call_range1 rfl T.z_range PyProof.Rows.boot_range (pa_cons (pe_op op_shl pe_int (pv 0)) pa_nil)) pa_nil)))), ?_⟩
  have h5 := two_le hn
  refine ⟨_, rfl, _, _, rfl, rfl, shl_ok (by omega), _, rfl, fun p hp => ?_⟩
  refine ⟨p, _, rfl, upd_same, ?_, ?_, fun l hl => ?_⟩
  · rw [pow_n]; exact Int.natCast_nonneg _
  · rw [pow_n]; omega
  have e : upto ((1 : Int) * 2 ^ ((n : Int)).toNat).toNat = (up (2 ^ n)).map V.int := by
    rw [pow_n, Int.toNat_natCast, upto_up]
  refine k l _ ((same_new hp _).free hl) ((same_new hp _).trans (same_new hl _)) ?_
  rw [upd_same, ← e]
theorem ok_has {P : Program} {w : World} {K : PySem.W.Frag} {mg : Str → Option Value} {base : Heap} {a : Adr} (T : Txt K mg a) : FnOk P w K mg base CX0 1 a.a_has a.d_has ["group", "member"] sp_has := by
  refine T.F_has.ok sc_has (fun vs H Q E h => ?_) (fun cdv A outer s H vs Q E hr h => ?_)
  · obtain ⟨x, y, rfl, _⟩ := h; rfl
  obtain ⟨g, m, rfl, hm, k⟩ := h
  refine ⟨_, (pss_one (ps_ret (pe_cmpR op_eq (pe_op op_and (pe_op op_shr (pv 0) (pv 1)) pe_int) pe_int (nomark _)))), ?_⟩
  refine ⟨_, rfl, _, rfl, _, _, rfl, rfl, hm, _, _, rfl, rfl, rfl, ?_⟩
  have q : Q (.bl (hasB g m)) H := k H (Same.refl H)
  unfold hasB at q
  rw [show decide (Builtin.bitAnd (g / 2 ^ m.toNat) 1 = 1) = decide (V.int (Builtin.bitAnd (g / 2 ^ m.toNat) 1) = V.int 1) by rw [dec_int]; rfl] at q
  exact q
theorem ok_members_of {P : Program} {w : World} {K : PySem.W.Frag} {mg : Str → Option Value} {base : Heap} {a : Adr} (T : Txt K mg a) : FnOk P w K mg base CX0 2 a.a_members_of a.d_members_of ["group"] sp_members_of := by
  refine T.F_members_of.ok sc_members_of (fun vs H Q E h => ?_) (fun cdv A outer s H vs Q E hr h => ?_)
  · obtain ⟨x, rfl, _⟩ := h; rfl
  obtain ⟨g, rfl, k⟩ := h
  refine ⟨_, (pss_one (ps_ret (pe_lc rfl (lcOk_of (S := defScope s_members_of) (N := ["group"]) (M := ["group", "member"]) (by decide +kernel)) (pi_range1 rfl T.z_range (pa_cons (pe_glob (v := .int 5) rfl T.g_MOST_MEMBERS ⟨_, rfl⟩) pa_nil)) (fun _ _ _ _ => (pg_name (i := 1) (show List.Nodup (["group", "member"] : List Str) by decide +kernel) rfl (by first | exact Or.inl rfl | exact Or.inr rfl))) (fun _ _ _ _ => (pifs_one (pt_val (pe_call (ok_has T) hr rfl T.m_has T.F_has.kp (b_has T) .nil pass0 (pa_cons (pv 0) (pa_cons (pv 1) pa_nil)))))) (fun _ _ _ _ => (pv 1))))), ?_⟩
  refine ⟨5, rfl, by omega, by omega, ?_⟩
  refine lcB_range (k := 5) rfl (by omega) (hasB g) V.int (fun x x0 x1 H1 s1 R q => ?_) (fun x x0 x1 hb H1 s1 R q => ?_) fun H1 D s1 hD => ?_
  · exact ⟨_, rfl, _, rfl, _, _, rfl, x0, fun H2 s2 => ⟨_, rfl, q H2 s2⟩⟩
  · exact ⟨_, rfl, q H1 (Same.refl _)⟩
  exact k D _ (s1.free hD) (s1.trans (same_new hD _)) upd_same
theorem ok_with_member {P : Program} {w : World} {K : PySem.W.Frag} {mg : Str → Option Value} {base : Heap} {a : Adr} (T : Txt K mg a) : FnOk P w K mg base CX0 1 a.a_with_member a.d_with_member ["group", "member"] sp_with_member := by
  refine T.F_with_member.ok sc_with_member (fun vs H Q E h => ?_) (fun cdv A outer s H vs Q E hr h => ?_)
  · obtain ⟨x, y, rfl, _⟩ := h; rfl
  obtain ⟨g, m, rfl, ⟨m0, m5⟩, k⟩ := h
  refine ⟨_, (pss_one (ps_ret (pe_op op_or (pv 0) (pe_op op_shl pe_int (pv 1))))), ?_⟩
  refine ⟨_, rfl, _, rfl, _, _, rfl, rfl, ⟨m0, by omega, by decide⟩, _, _, rfl, rfl, ?_⟩
  exact k H (Same.refl H)
theorem ok_within {P : Program} {w : World} {K : PySem.W.Frag} {mg : Str → Option Value} {base : Heap} {a : Adr} (T : Txt K mg a) : FnOk P w K mg base CX0 1 a.a_within a.d_within ["small", "large"] sp_within := by
  refine T.F_within.ok sc_within (fun vs H Q E h => ?_) (fun cdv A outer s H vs Q E hr h => ?_)
  · obtain ⟨x, y, rfl, _⟩ := h; rfl
  obtain ⟨x, y, rfl, _, k⟩ := h
  refine ⟨_, (pss_one (ps_ret (pe_cmpR op_eq (pe_op op_and (pv 0) (pv 1)) (pv 0) (nomark _)))), ?_⟩
  refine ⟨_, rfl, _, rfl, _, _, rfl, rfl, _, rfl, rfl, ?_⟩
  have q : Q (.bl (withinB x y)) H := k H (Same.refl H)
  unfold withinB at q
  rw [show decide (Builtin.bitAnd x y = x) = decide (V.int (Builtin.bitAnd x y) = V.int x) by rw [dec_int]; rfl] at q
  exact q
theorem pairs_sum (ws : List Int) (g : Int) : (((pairs (ws.map V.int)).filter fun q => hasB g (q.1 : Int)).map fun q => q.2) = (((up ws.length).filter (hasB g)).map fun k => ws.getD k.toNat 0).map V.int := by
  have key : ∀ n, n ≤ ws.length → ((((pairs (ws.map V.int)).take n).filter fun q => hasB g (q.1 : Int)).map fun q => q.2) = (((up n).filter (hasB g)).map fun k => ws.getD k.toNat 0).map V.int := by
    intro n
    induction n with
    | zero => intro _; rfl
    | succ n ih =>
      intro h
      have e : (ws.map V.int)[n]? = some (.int ws[n]) := by rw [List.getElem?_map, List.getElem?_eq_getElem h]; rfl
      rw [pairs_take e, up_succ, List.filter_append, List.filter_append, List.map_append, List.map_append, List.map_append, ih (by omega), List.filter_cons, List.filter_cons]
      congr 1
      cases hasB g (n : Int) with
      | true =>
        simp only [if_true, List.filter_nil, List.map_cons, List.map_nil, Int.toNat_natCast]
        rw [List.getD_eq_getElem?_getD, List.getElem?_eq_getElem (show n < ws.length by omega)]
        rfl
      | false => rfl
  have := key ws.length (Nat.le_refl _)
  rw [List.take_of_length_le (by rw [pairs_length, List.length_map]; exact Nat.le_refl _)] at this
  exact this
theorem ok_weight_of {P : Program} {w : World} {K : PySem.W.Frag} {mg : Str → Option Value} {base : Heap} {a : Adr} (T : Txt K mg a) : FnOk P w K mg base CX0 2 a.a_weight_of a.d_weight_of ["weights", "group"] sp_weight_of := by
  refine T.F_weight_of.ok sc_weight_of (fun vs H Q E h => ?_) (fun cdv A outer s H vs Q E hr h => ?_)
  · obtain ⟨l, ws, g, rfl, _⟩ := h; rfl
  obtain ⟨l, ws, g, rfl, hl, hz, k⟩ := h
  refine ⟨_, (pss_one (ps_ret (pe_callB (call_sumK K rfl) rfl T.z_sum PyProof.Rows.boot_sum (pa_cons (pe_lc rfl (lcOk_of (S := defScope s_weight_of) (N := ["weights", "group"]) (M := ["weights", "group", "member", "weight"]) (by decide +kernel)) (pi_enum rfl T.z_enumerate (pa_cons (pv 0) pa_nil)) (fun _ _ _ _ => (pg_tupK K (n := 2) rfl (pgs_cons (pg_name (i := 2) (show List.Nodup (["weights", "group", "member", "weight"] : List Str) by decide +kernel) rfl (by first | exact Or.inl rfl | exact Or.inr rfl)) (pgs_cons (pg_name (i := 3) (show List.Nodup (["weights", "group", "member", "weight"] : List Str) by decide +kernel) rfl (by first | exact Or.inl rfl | exact Or.inr rfl)) pgs_nil)))) (fun _ _ _ _ => (pifs_one (pt_val (pe_call (ok_has T) hr rfl T.m_has T.F_has.kp (b_has T) .nil pass0 (pa_cons (pv 1) (pa_cons (pv 2) pa_nil)))))) (fun _ _ _ _ => (pv 3))) pa_nil)))), ?_⟩
  refine ⟨_, rfl, l, _, rfl, SqL.of hl, ?_⟩
  refine lcB_enum rfl rfl (SqL.of hl) (by rw [List.length_map]; exact hz) (fun i _ => hasB g (i : Int)) (fun _ x => x) (fun i x hx H1 h1 R q => ?_) (fun i x hx _ H1 h1 R q => ?_) fun H1 D h1 hD => ?_
  · exact ⟨_, rfl, _, rfl, _, _, rfl, by omega, fun H2 h2 => ⟨_, rfl, q H2 h2⟩⟩
  · exact ⟨_, rfl, q H1 (Same.refl _)⟩
  · refine ⟨D, _, rfl, SqL.of (by rw [upd_same, pairs_sum]), ?_⟩
    exact k _ (h1.trans (same_new hD _))
theorem ok_has_one_within {P : Program} {w : World} {K : PySem.W.Frag} {mg : Str → Option Value} {base : Heap} {a : Adr} (T : Txt K mg a) : FnOk P w K mg base CX0 2 a.a_has_one_within a.d_has_one_within ["groups", "group"] sp_has_one_within := by
  refine T.F_has_one_within.ok sc_has_one_within (fun vs H Q E h => ?_) (fun cdv A outer s H vs Q E hr h => ?_)
  · obtain ⟨l, gs, g, rfl, _⟩ := h; rfl
  obtain ⟨l, gs, g, rfl, hl, hz, k⟩ := h
  refine ⟨_, (pss_one (ps_ret (pe_callB (call_anyK K rfl) rfl T.z_any PyProof.Rows.boot_any (pa_cons (pe_lc rfl (lcOk_of (S := defScope s_has_one_within) (N := ["groups", "group"]) (M := ["groups", "group", "told"]) (by decide +kernel)) (pi_listK K (pv 0)) (fun _ _ _ _ => (pg_name (i := 2) (show List.Nodup (["groups", "group", "told"] : List Str) by decide +kernel) rfl (by first | exact Or.inl rfl | exact Or.inr rfl))) (fun _ _ _ _ => pifs_nil) (fun _ _ _ _ => (pe_call (ok_within T) hr rfl T.m_within T.F_within.kp (b_within T) .nil pass0 (pa_cons (pv 2) (pa_cons (pv 1) pa_nil))))) pa_nil)))), ?_⟩
  refine ⟨_, rfl, l, rfl, ⟨_, SqL.of hl⟩, ?_⟩
  refine lcB_list rfl (SqL.of hl) (by rw [List.length_map]; exact hz) (fun _ => true) (fun x => match x with | .int o => .bl (withinB o g) | _ => .non) (fun x hx H1 h1 R q => q H1 (Same.refl _)) (fun x hx _ H1 h1 R q => ?_) fun H1 D h1 hD => ?_
  · obtain ⟨o, _, rfl⟩ := List.mem_map.mp hx
    exact ⟨_, rfl, _, rfl, _, _, rfl, trivial, fun H2 h2 => q H2 h2⟩
  · refine ⟨D, gs.map fun o => withinB o g, rfl, SqL.of ?_, ?_⟩
    · rw [upd_same, List.filter_eq_self.mpr (fun _ _ => rfl), List.map_map, List.map_map]
      rfl
    · have e : ((gs.map fun o => withinB o g).any id) = carrB gs g := by unfold carrB; rw [List.any_map]; rfl
      show Q (.bl ((gs.map fun o => withinB o g).any id)) _
      rw [e]
      exact k _ (h1.trans (same_new hD _))
/-! ## councils.py -/
theorem all_true {α : Type} {l : List α} {f : α → Bool} (h : ∀ x ∈ l, f x = true) : (l.map f).all id = true := by
  rw [List.all_map, List.all_eq_true]
  exact h
theorem ok_refuse_bad_council {P : Program} {w : World} {K : PySem.W.Frag} {mg : Str → Option Value} {base : Heap} {a : Adr} (T : Txt K mg a) : FnOk P w K mg base CX0 3 a.a_refuse_bad_council a.d_refuse_bad_council ["members", "groups"] sp_refuse_bad_council := by
  refine T.F_refuse_bad_council.ok sc_refuse_bad_council (fun vs H Q E h => ?_) (fun cdv A outer s H vs Q E hr h => ?_)
  · obtain ⟨n, l, gs, rfl, _⟩ := h; rfl
  obtain ⟨n, l, gs, rfl, n1, n5, hl, ⟨hz, hg⟩, k⟩ := h
  refine ⟨_, (pss_cons (ps_if (PW.pt (pw_or (pt_not (pt_val (pe_call (ok_is_whole T) (hr.mono (by decide)) rfl T.m_is_whole T.F_is_whole.kp (b_is_whole T) .nil pass0 (pa_cons (pv 0) (pa_cons (pe_glob (v := .int 5) rfl T.g_MOST_MEMBERS ⟨_, rfl⟩) pa_nil))))) (pw_or1 (pt_cmpR op_eq (pv 0) pe_int (nomark _))))) (pss_one ps_never) pss_nil)
      (pss_cons (ps_if (pt_not (pt_val (pe_callB (call_isiK K) rfl T.z_isinstance PyProof.Rows.boot_isinstance (pa_cons (pv 1) (pa_cons (pe_bltn (v := .ty "list") rfl T.z_list PyProof.Rows.boot_list rfl) pa_nil))))) (pss_one ps_never) pss_nil)
      (pss_one (ps_if (pt_not (pt_val (pe_callB (call_allK K rfl) rfl T.z_all PyProof.Rows.boot_all (pa_cons (pe_lc rfl (lcOk_of (S := defScope s_refuse_bad_council) (N := ["members", "groups"]) (M := ["members", "groups", "group"]) (by decide +kernel)) (pi_listK K (pv 1)) (fun _ _ _ _ => (pg_name (i := 2) (show List.Nodup (["members", "groups", "group"] : List Str) by decide +kernel) rfl (by first | exact Or.inl rfl | exact Or.inr rfl))) (fun _ _ _ _ => pifs_nil) (fun _ _ _ _ => (pe_call (ok_is_group T) hr rfl T.m_is_group T.F_is_group.kp (b_is_group T) .nil pass0 (pa_cons (pv 2) (pa_cons (pv 0) pa_nil))))) pa_nil)))) (pss_one ps_never) pss_nil)))), ?_⟩
  refine ⟨_, rfl, _, _, rfl, trivial, fun H1 h1 => ⟨_, rfl, ?_⟩⟩
  refine ite_f (by rw [decide_eq_true (by omega)]; rfl) ?_
  refine ⟨_, rfl, rfl, _, rfl, ?_⟩
  refine ite_f (decide_eq_false fun z => by have z' := V.int.inj z; omega) ?_
  refine ⟨_, rfl, _, "list", "list", true, rfl, .lst (h1 _ _ hl), .inr (.inr rfl), isi_ll, true, rfl, iteF ?_⟩
  refine ⟨_, rfl, l, rfl, ⟨_, SqL.of (h1 _ _ hl)⟩, ?_⟩
  refine lcB_list rfl (SqL.of (h1 _ _ hl)) (by rw [List.length_map]; exact hz) (fun _ => true) (fun x => match x with | .int o => .bl (decide (0 ≤ o ∧ o ≤ ((2 ^ n : Nat) : Int) - 1)) | _ => .non) (fun x hx H2 h2 R q => q H2 (Same.refl _)) (fun x hx _ H2 h2 R q => ?_) fun H2 D h2 hD => ?_
  · obtain ⟨o, _, rfl⟩ := List.mem_map.mp hx
    exact ⟨_, rfl, _, rfl, _, n, rfl, n5, fun H3 h3 => q H3 h3⟩
  · refine ⟨D, gs.map fun o => decide (0 ≤ o ∧ o ≤ ((2 ^ n : Nat) : Int) - 1), rfl, SqL.of ?_, _, rfl, ?_⟩
    · rw [upd_same, List.filter_eq_self.mpr (fun _ _ => rfl), List.map_map, List.map_map]
      rfl
    · refine ite_f (by rw [all_true fun o ho => decide_eq_true (by have := hg o ho; omega)]; rfl) ?_
      exact k _ (h1.trans (h2.trans (same_new hD _)))
theorem ok_Council_init {P : Program} {w : World} {K : PySem.W.Frag} {mg : Str → Option Value} {base : Heap} {a : Adr} (T : Txt K mg a) : FnOk P w K mg base CX0 4 a.a_Council_init a.d_Council_init ["self", "members", "groups"] (sp_init a.C_Council) := by
  refine T.F_Council_init.ok sc_Council_init (fun vs H Q E h => ?_) (fun cdv A outer s H vs Q E hr h => ?_)
  · obtain ⟨p, dx, n, l, gs, rfl, _⟩ := h; rfl
  obtain ⟨p, dx, n, l, gs, rfl, hp, n1, n5, hl, hg, k⟩ := h
  refine ⟨_, (pss_cons (ps_expr (pe_call (ok_refuse_bad_council T) hr rfl T.m_refuse_bad_council T.F_refuse_bad_council.kp (b_refuse_bad_council T) .nil pass0 (pa_cons (pv 1) (pa_cons (pv 2) pa_nil))))
      (pss_cons (ps_fld (pv 0) (pv 1) rfl)
      (pss_one (ps_fld (pv 0) (pe_callTy (call_tuple_ofK K) rfl T.z_tuple PyProof.Rows.boot_tuple (pa_cons (pe_lc rfl (lcOk_of (S := defScope s_Council_init) (N := ["self", "members", "groups"]) (M := ["self", "members", "groups", "group"]) (by decide +kernel)) (pi_listK K (pe_call (ok_groups_of T) (hr.mono (by decide)) rfl T.m_groups_of T.F_groups_of.kp (b_groups_of T) .nil pass0 (pa_cons (pv 1) pa_nil))) (fun _ _ _ _ => (pg_name (i := 3) (show List.Nodup (["self", "members", "groups", "group"] : List Str) by decide +kernel) rfl (by first | exact Or.inl rfl | exact Or.inr rfl))) (fun _ _ _ _ => pifs_nil) (fun _ _ _ _ => (pe_call (ok_has_one_within T) (hr.mono (by decide)) rfl T.m_has_one_within T.F_has_one_within.kp (b_has_one_within T) .nil pass0 (pa_cons (pv 2) (pa_cons (pv 3) pa_nil))))) pa_nil)) rfl)))), ?_⟩
  have npl : l ≠ p := ne_of hl hp (by intro z; cases z)
  refine ⟨_, rfl, _, rfl, n, l, gs, rfl, n1, n5, hl, hg, fun H1 h1 => ?_⟩
  refine ⟨_, rfl, _, rfl, p, a.C_Council, dx, [], rfl, h1 _ _ hp, T.cl_Council, T.n_Council_members, (by show 0 < 1000; decide), ?_⟩
  -- the table
  have hl2 : upd H1 p (.ins a.C_Council dx (putF "members" (.int n) [])) l = some (.lst (gs.map V.int)) := by rw [upd_ne npl]; exact h1 _ _ hl
  refine ⟨_, rfl, n, rfl, n5, fun r H2 nr h2 hr2 => ?_⟩
  refine ⟨r, rfl, ⟨_, SqL.of hr2⟩, ?_⟩
  have h5 := two_le n5
  refine lcB_list rfl (SqL.of hr2) (by rw [List.length_map, up_length]; omega) (fun _ => true) (fun x => match x with | .int o => .bl (carrB gs o) | _ => .non) (fun x hx H3 h3 R q => q H3 (Same.refl _)) (fun x hx _ H3 h3 R q => ?_) fun H3 D h3 hD => ?_
  · obtain ⟨o, _, rfl⟩ := List.mem_map.mp hx
    exact ⟨_, rfl, _, rfl, l, gs, o, rfl, h3 _ _ (h2 _ _ hl2), hg.1, fun H4 h4 => q H4 h4⟩
  · have hs3 : Same (upd H1 p (.ins a.C_Council dx (putF "members" (.int n) []))) (upd H3 D (.lst ((((up (2 ^ n)).map V.int).filter fun _ => true).map fun x => match x with | .int o => V.bl (carrB gs o) | _ => .non))) := h2.trans (h3.trans (same_new hD _))
    refine ⟨D, _, rfl, .inl ⟨SqL.of upd_same, fun t ht => ?_⟩⟩
    have et : ((((up (2 ^ n)).map V.int).filter fun _ => true).map fun x => match x with | .int o => V.bl (carrB gs o) | _ => .non) = (tabOf n gs).map V.bl := by
      unfold tabOf
      rw [List.filter_eq_self.mpr (fun _ _ => rfl), List.map_map, List.map_map]
      rfl
    rw [et] at hs3 ht ⊢
    have hp3 := hs3 p _ upd_same
    have npt : p ≠ t := ne_of_none hp3 ht
    refine ⟨_, rfl, p, a.C_Council, dx, _, rfl, (by rw [upd_ne npt]; exact hp3), T.cl_Council, T.n_Council_table, (by show 1 < 1000; decide), ?_⟩
    refine k _ ⟨⟨dx, t, upd_same, by rw [upd_ne npt.symm, upd_same]⟩, n1, n5, tabOf_length _ _⟩ fun b o hb nb => ?_
    rw [upd_ne nb]
    have hb3 := hs3 b o (by rw [upd_ne nb]; exact h1 _ _ hb)
    rw [upd_ne (ne_of_none hb3 ht)]
    exact hb3
theorem tup_at {tb : List Bool} {g : Int} (h0 : 0 ≤ g) (h1 : g < (tb.length : Int)) : atI (tb.map V.bl) g = some (.bl (at_ tb g)) := by
  have hg : g.toNat < tb.length := by omega
  have e : g = ((g.toNat : Nat) : Int) := by omega
  have q : atI (tb.map V.bl) ((g.toNat : Nat) : Int) = some (.bl (at_ tb g)) := atI_nat (by
    unfold at_
    rw [List.getElem?_map, List.getD_eq_getElem?_getD, List.getElem?_eq_getElem hg]
    rfl)
  rw [← e] at q
  exact q
theorem ok_Council_carries {P : Program} {w : World} {K : PySem.W.Frag} {mg : Str → Option Value} {base : Heap} {a : Adr} (T : Txt K mg a) : FnOk P w K mg base CX0 3 a.a_Council_carries a.d_Council_carries ["self", "group"] (sp_carries a.C_Council) := by
  refine T.F_Council_carries.ok sc_Council_carries (fun vs H Q E h => ?_) (fun cdv A outer s H vs Q E hr h => ?_)
  · obtain ⟨p, n, tb, g, rfl, _⟩ := h; rfl
  obtain ⟨p, n, tb, g, rfl, c, g0, g1, k⟩ := h
  refine ⟨_, (pss_cons (ps_if (pt_not (pt_val (pe_call (ok_is_group T) hr rfl T.m_is_group T.F_is_group.kp (b_is_group T) .nil pass0 (pa_cons (pv 1) (pa_cons (pe_fldK K (pv 0) rfl) pa_nil))))) (pss_one ps_never) pss_nil)
      (pss_one (ps_ret (pe_ix (ix_tupK K) (pe_fldK K (pv 0) rfl) (pv 1) (fun _ _ => rfl))))), ?_⟩
  obtain ⟨⟨dx, t, h1, h2⟩, n1, n5, hl⟩ := id c
  refine ⟨_, rfl, _, rfl, p, a.C_Council, dx, _, _, rfl, h1, T.cl_Council, T.n_Council_members, flds_m _ _, _, n, rfl, n5, fun H1 s1 => ⟨_, rfl, ?_⟩⟩
  refine ite_f (by rw [decide_eq_true (by omega)]; rfl) ?_
  refine ⟨_, rfl, p, a.C_Council, dx, _, _, rfl, s1 _ _ h1, T.cl_Council, T.n_Council_table, flds_t _ _, _, rfl, t, _, g, _, rfl, rfl, SqT.of (s1 _ _ h2), tup_at g0 (by rw [hl]; exact g1), ?_⟩
  exact k H1 s1
theorem ins_big : ∀ n : Fin 6, ∀ g : Fin 32, g.val < 2 ^ n.val → ins 5 (g.val : Int) = ins n.val (g.val : Int) := by decide +kernel
theorem ins_five {n : Nat} (hn : n ≤ 5) {g : Int} (hg : g ∈ up (2 ^ n)) : ins 5 g = ins n g := by
  have h5 := two_le hn
  obtain ⟨g0, g1⟩ := mem_up.mp hg
  have e1 : ((g.toNat : Nat) : Int) = g := by omega
  have q := ins_big ⟨n, by omega⟩ ⟨g.toNat, by omega⟩ (by show g.toNat < 2 ^ n; omega)
  simpa only [e1] using q
theorem filt_len {p : Int → Bool} {n : Nat} {m : Nat} (h : n ≤ m) : ((up n).filter p).length ≤ m := by
  have z := List.length_filter_le p (up n)
  rw [up_length] at z
  omega
theorem ok_Council_is_least {P : Program} {w : World} {K : PySem.W.Frag} {mg : Str → Option Value} {base : Heap} {a : Adr} (T : Txt K mg a) : FnOk P w K mg base CX0 4 a.a_Council_is_least a.d_Council_is_least ["self", "group"] (sp_is_least a.C_Council) := by
  refine T.F_Council_is_least.ok sc_Council_is_least (fun vs H Q E h => ?_) (fun cdv A outer s H vs Q E hr h => ?_)
  · obtain ⟨p, n, tb, g, rfl, _⟩ := h; rfl
  obtain ⟨p, n, tb, g, rfl, c, g0, g1, k⟩ := h
  refine ⟨_, (pss_cons (ps_lc (i := 2) sc_Council_is_least.nd rfl rfl rfl (lcOk_of (S := defScope s_Council_is_least) (N := ["self", "group", "smaller"]) (M := ["self", "group", "smaller", "member"]) (by decide +kernel)) (pi_listK K (pe_call (ok_members_of T) (hr.mono (by decide)) rfl T.m_members_of T.F_members_of.kp (b_members_of T) .nil pass0 (pa_cons (pv 1) pa_nil))) (fun _ _ _ _ => (pg_name (i := 3) (show List.Nodup (["self", "group", "smaller", "member"] : List Str) by decide +kernel) rfl (by first | exact Or.inl rfl | exact Or.inr rfl))) (fun _ _ _ _ => pifs_nil) (fun _ _ _ _ => (pe_op op_sub (pv 1) (pe_op op_shl pe_int (pv 3)))))
      (pss_one (ps_ret (pe_and (pe_meth (pv 0) T.cl_Council T.mt_Council_carries (ok_Council_carries T) hr (b_Council_carries T) .nil pass0 (pa_cons (pv 1) pa_nil)) (pe_one (pe_not (pe_callB (call_anyK K rfl) rfl T.z_any PyProof.Rows.boot_any (pa_cons (pe_lc rfl (lcOk_of (S := defScope s_Council_is_least) (N := ["self", "group", "smaller"]) (M := ["self", "group", "smaller", "one"]) (by decide +kernel)) (pi_listK K (pv 2)) (fun _ _ _ _ => (pg_name (i := 3) (show List.Nodup (["self", "group", "smaller", "one"] : List Str) by decide +kernel) rfl (by first | exact Or.inl rfl | exact Or.inr rfl))) (fun _ _ _ _ => pifs_nil) (fun _ _ _ _ => (pe_meth (pv 0) T.cl_Council T.mt_Council_carries (ok_Council_carries T) hr (b_Council_carries T) .nil pass0 (pa_cons (pv 3) pa_nil)))) pa_nil)))))))), ?_⟩
  obtain ⟨⟨dx, t, h1, h2⟩, n1, n5, hl⟩ := id c
  have hgm : g ∈ up (2 ^ n) := mem_up.mpr ⟨g0, g1⟩
  refine ⟨_, rfl, g, rfl, fun r H0 nr s0 hr0 => ?_⟩
  rw [ins_five n5 hgm] at hr0
  refine ⟨r, rfl, ⟨_, SqL.of hr0⟩, ?_⟩
  refine lcB_list rfl (SqL.of hr0) (by rw [List.length_map]; exact filt_len (by omega)) (fun _ => true) (fun x => match x with | .int m => .int (g - 1 * 2 ^ m.toNat) | _ => .non) (fun x hx H1 s1 R q => q H1 (Same.refl _)) (fun x hx _ H1 s1 R q => ?_) fun H1 D s1 hD => ?_
  · obtain ⟨m, hm, rfl⟩ := List.mem_map.mp hx
    have hm0 : 0 ≤ m := (mem_up.mp (List.mem_filter.mp hm).1).1
    have hm1 := (mem_up.mp (List.mem_filter.mp hm).1).2
    exact ⟨_, rfl, _, rfl, _, _, rfl, rfl, ⟨hm0, by omega, by decide⟩, _, _, rfl, rfl, q H1 (Same.refl _)⟩
  have s2 : Same H (upd H1 D (.lst ((((ins n g).map V.int).filter fun _ => true).map fun x => match x with | .int m => V.int (g - 1 * 2 ^ m.toNat) | _ => .non))) := s0.trans (s1.trans (same_new hD _))
  have hD2 : upd H1 D (.lst ((((ins n g).map V.int).filter fun _ => true).map fun x => match x with | .int m => V.int (g - 1 * 2 ^ m.toNat) | _ => .non)) D = some (.lst (((ins n g).map fun m => g - 1 * 2 ^ m.toNat).map V.int)) := by
    rw [upd_same, List.filter_eq_self.mpr (fun _ _ => rfl), List.map_map, List.map_map]
    rfl
  generalize upd H1 D (.lst ((((ins n g).map V.int).filter fun _ => true).map fun x => match x with | .int m => V.int (g - 1 * 2 ^ m.toNat) | _ => .non)) = H2 at s2 hD2
  have c2 := c.same s2
  obtain ⟨⟨dx2, t2, h12, h22⟩, _⟩ := id c2
  refine ⟨_, rfl, p, dx2, _, rfl, h12, flds_no _ _ (by decide +kernel) (by decide +kernel), _, rfl, p, n, tb, g, rfl, c2, g0, g1, fun H3 s3 => ⟨_, rfl, ?_⟩⟩
  refine ite_b (fun hc => ?_) (fun hc => ?_)
  · refine ⟨_, rfl, D, rfl, ⟨_, SqL.of (s3 _ _ hD2)⟩, ?_⟩
    refine lcB_list rfl (SqL.of (s3 _ _ hD2)) ?_ (fun _ => true) (fun x => match x with | .int o => .bl (at_ tb o) | _ => .non) (fun x hx H4 h4 R q => q H4 (Same.refl _)) (fun x hx _ H4 s4 R q => ?_) fun H4 D4 s4 hD4 => ?_
    · rw [List.length_map, List.length_map]
      exact filt_len (by omega)
    · obtain ⟨o, ho, rfl⟩ := List.mem_map.mp hx
      obtain ⟨m, hm, rfl⟩ := List.mem_map.mp ho
      have ok := sub_ok n5 hgm hm
      have c3 := c2.same (s3.trans s4)
      obtain ⟨⟨dx3, t3, h13, h23⟩, _⟩ := id c3
      exact ⟨_, rfl, p, dx3, _, rfl, h13, flds_no _ _ (by decide +kernel) (by decide +kernel), _, rfl, p, n, tb, _, rfl, c3, ok.2.1, ok.2.2, fun H5 s5 => q H5 s5⟩
    · refine ⟨D4, (ins n g).map fun m => at_ tb (g - 1 * 2 ^ m.toNat), rfl, SqL.of ?_, _, rfl, ?_⟩
      · rw [upd_same, List.filter_eq_self.mpr (fun _ _ => rfl), List.map_map, List.map_map, List.map_map]
        rfl
      · exact qbl (by rw [hc, Bool.true_and]) (k _ (s2.trans (s3.trans (s4.trans (same_new hD4 _)))))
  · exact qbl (by rw [hc, Bool.false_and]) (k _ (s2.trans s3))
theorem ok_Council_is_greatest {P : Program} {w : World} {K : PySem.W.Frag} {mg : Str → Option Value} {base : Heap} {a : Adr} (T : Txt K mg a) : FnOk P w K mg base CX0 4 a.a_Council_is_greatest a.d_Council_is_greatest ["self", "group"] (sp_is_greatest a.C_Council) := by
  refine T.F_Council_is_greatest.ok sc_Council_is_greatest (fun vs H Q E h => ?_) (fun cdv A outer s H vs Q E hr h => ?_)
  · obtain ⟨p, n, tb, g, rfl, _⟩ := h; rfl
  obtain ⟨p, n, tb, g, rfl, c, g0, g1, k⟩ := h
  refine ⟨_, (pss_cons (ps_lc (i := 2) sc_Council_is_greatest.nd rfl rfl rfl (lcOk_of (S := defScope s_Council_is_greatest) (N := ["self", "group", "larger"]) (M := ["self", "group", "larger", "member"]) (by decide +kernel)) (pi_range1 rfl T.z_range (pa_cons (pe_fldK K (pv 0) rfl) pa_nil)) (fun _ _ _ _ => (pg_name (i := 3) (show List.Nodup (["self", "group", "larger", "member"] : List Str) by decide +kernel) rfl (by first | exact Or.inl rfl | exact Or.inr rfl))) (fun _ _ _ _ => (pifs_one (pt_not (pt_val (pe_call (ok_has T) (hr.mono (by decide)) rfl T.m_has T.F_has.kp (b_has T) .nil pass0 (pa_cons (pv 1) (pa_cons (pv 3) pa_nil))))))) (fun _ _ _ _ => (pe_call (ok_with_member T) (hr.mono (by decide)) rfl T.m_with_member T.F_with_member.kp (b_with_member T) .nil pass0 (pa_cons (pv 1) (pa_cons (pv 3) pa_nil)))))
      (pss_one (ps_ret (pe_and (pe_not (pe_meth (pv 0) T.cl_Council T.mt_Council_carries (ok_Council_carries T) hr (b_Council_carries T) .nil pass0 (pa_cons (pv 1) pa_nil))) (pe_one (pe_callB (call_allK K rfl) rfl T.z_all PyProof.Rows.boot_all (pa_cons (pe_lc rfl (lcOk_of (S := defScope s_Council_is_greatest) (N := ["self", "group", "larger"]) (M := ["self", "group", "larger", "one"]) (by decide +kernel)) (pi_listK K (pv 2)) (fun _ _ _ _ => (pg_name (i := 3) (show List.Nodup (["self", "group", "larger", "one"] : List Str) by decide +kernel) rfl (by first | exact Or.inl rfl | exact Or.inr rfl))) (fun _ _ _ _ => pifs_nil) (fun _ _ _ _ => (pe_meth (pv 0) T.cl_Council T.mt_Council_carries (ok_Council_carries T) hr (b_Council_carries T) .nil pass0 (pa_cons (pv 3) pa_nil)))) pa_nil))))))), ?_⟩
  obtain ⟨⟨dx, t, h1, h2⟩, n1, n5, hl⟩ := id c
  refine ⟨_, rfl, p, a.C_Council, dx, _, _, rfl, h1, T.cl_Council, T.n_Council_members, flds_m _ _, n, rfl, by omega, by omega, ?_⟩
  have hgm : g ∈ up (2 ^ n) := mem_up.mpr ⟨g0, g1⟩
  refine lcB_range (k := n) rfl (by omega) (fun m => !hasB g m) (fun m => .int (Builtin.bitOr g (1 * 2 ^ m.toNat))) (fun x x0 x1 H1 s1 R q => ?_) (fun x x0 x1 hb H1 s1 R q => ?_) fun H1 D s1 hD => ?_
  · exact ⟨_, rfl, _, rfl, _, _, rfl, x0, fun H2 s2 => ⟨_, rfl, q H2 s2⟩⟩
  · exact ⟨_, rfl, _, rfl, _, _, rfl, ⟨x0, by omega⟩, fun H2 s2 => q H2 s2⟩
  have s2 : Same H (upd H1 D (.lst (((up n).filter fun m => !hasB g m).map fun m => .int (Builtin.bitOr g (1 * 2 ^ m.toNat))))) := s1.trans (same_new hD _)
  have hD2 : upd H1 D (.lst (((up n).filter fun m => !hasB g m).map fun m => .int (Builtin.bitOr g (1 * 2 ^ m.toNat)))) D = some (.lst (((outs n g).map fun m => g + 1 * 2 ^ m.toNat).map V.int)) := by
    rw [upd_same, List.map_map]
    have e : ((up n).filter fun m => !hasB g m).map (fun m => V.int (Builtin.bitOr g (1 * 2 ^ m.toNat))) = (outs n g).map (V.int ∘ fun m => g + 1 * 2 ^ m.toNat) := List.map_congr_left fun m hm => by
      show V.int (Builtin.bitOr g (1 * 2 ^ m.toNat)) = V.int (g + 1 * 2 ^ m.toNat)
      rw [(add_ok n5 hgm hm).1]
    rw [e]
  generalize upd H1 D (.lst (((up n).filter fun m => !hasB g m).map fun m => .int (Builtin.bitOr g (1 * 2 ^ m.toNat)))) = H2 at s2 hD2
  have c2 := c.same s2
  obtain ⟨⟨dx2, t2, h12, h22⟩, _⟩ := id c2
  refine ⟨_, rfl, p, dx2, _, rfl, h12, flds_no _ _ (by decide +kernel) (by decide +kernel), _, rfl, p, n, tb, g, rfl, c2, g0, g1, fun H3 s3 => ⟨_, rfl, _, rfl, ?_⟩⟩
  refine ite_b (fun hc => ?_) (fun hc => ?_)
  · refine ⟨_, rfl, D, rfl, ⟨_, SqL.of (s3 _ _ hD2)⟩, ?_⟩
    refine lcB_list rfl (SqL.of (s3 _ _ hD2)) ?_ (fun _ => true) (fun x => match x with | .int o => .bl (at_ tb o) | _ => .non) (fun x hx H4 h4 R q => q H4 (Same.refl _)) (fun x hx _ H4 s4 R q => ?_) fun H4 D4 s4 hD4 => ?_
    · rw [List.length_map, List.length_map]
      exact filt_len (by omega)
    · obtain ⟨o, ho, rfl⟩ := List.mem_map.mp hx
      obtain ⟨m, hm, rfl⟩ := List.mem_map.mp ho
      have ok := add_ok n5 hgm hm
      have c3 := c2.same (s3.trans s4)
      obtain ⟨⟨dx3, t3, h13, h23⟩, _⟩ := id c3
      exact ⟨_, rfl, p, dx3, _, rfl, h13, flds_no _ _ (by decide +kernel) (by decide +kernel), _, rfl, p, n, tb, _, rfl, c3, ok.2.1, ok.2.2, fun H5 s5 => q H5 s5⟩
    · refine ⟨D4, (outs n g).map fun m => at_ tb (g + 1 * 2 ^ m.toNat), rfl, SqL.of ?_, ?_⟩
      · rw [upd_same, List.filter_eq_self.mpr (fun _ _ => rfl), List.map_map, List.map_map, List.map_map]
        rfl
      · exact qbl (by rw [hc, Bool.true_and]) (k _ (s2.trans (s3.trans (s4.trans (same_new hD4 _)))))
  · exact qbl (by rw [hc, Bool.false_and]) (k _ (s2.trans s3))
theorem ok_Council_least {P : Program} {w : World} {K : PySem.W.Frag} {mg : Str → Option Value} {base : Heap} {a : Adr} (T : Txt K mg a) : FnOk P w K mg base CX0 5 a.a_Council_least a.d_Council_least ["self"] (sp_least a.C_Council) := by
  refine T.F_Council_least.ok sc_Council_least (fun vs H Q E h => ?_) (fun cdv A outer s H vs Q E hr h => ?_)
  · obtain ⟨p, n, tb, rfl, _⟩ := h; rfl
  obtain ⟨p, n, tb, rfl, c, k⟩ := h
  refine ⟨_, (pss_one (ps_ret (pe_lc rfl (lcOk_of (S := defScope s_Council_least) (N := ["self"]) (M := ["self", "group"]) (by decide +kernel)) (pi_listK K (pe_call (ok_groups_of T) (hr.mono (by decide)) rfl T.m_groups_of T.F_groups_of.kp (b_groups_of T) .nil pass0 (pa_cons (pe_fldK K (pv 0) rfl) pa_nil))) (fun _ _ _ _ => (pg_name (i := 1) (show List.Nodup (["self", "group"] : List Str) by decide +kernel) rfl (by first | exact Or.inl rfl | exact Or.inr rfl))) (fun _ _ _ _ => (pifs_one (pt_val (pe_meth (pv 0) T.cl_Council T.mt_Council_is_least (ok_Council_is_least T) hr (b_Council_is_least T) .nil pass0 (pa_cons (pv 1) pa_nil))))) (fun _ _ _ _ => (pv 1))))), ?_⟩
  obtain ⟨⟨dx, t, h1, h2⟩, n1, n5, hl⟩ := id c
  have h5 := two_le n5
  refine ⟨_, rfl, p, a.C_Council, dx, _, _, rfl, h1, T.cl_Council, T.n_Council_members, flds_m _ _, n, rfl, n5, fun r H1 nr s1 hr1 => ?_⟩
  refine ⟨r, rfl, ⟨_, SqL.of hr1⟩, ?_⟩
  refine lcB_list rfl (SqL.of hr1) (by rw [List.length_map, up_length]; omega) (fun x => match x with | .int g => at_ tb g && !((ins n g).map fun m => at_ tb (g - 1 * 2 ^ m.toNat)).any id | _ => false) (fun x => x) (fun x hx H2 s2 R q => ?_) (fun x hx _ H2 s2 R q => ⟨_, rfl, q H2 (Same.refl _)⟩) fun H2 D s2 hD => ?_
  · obtain ⟨g, hg, rfl⟩ := List.mem_map.mp hx
    obtain ⟨g0, g1⟩ := mem_up.mp hg
    have c2 := c.same (s1.trans s2)
    obtain ⟨⟨dx2, t2, h12, h22⟩, _⟩ := id c2
    exact ⟨_, rfl, p, dx2, _, rfl, h12, flds_no _ _ (by decide +kernel) (by decide +kernel), _, rfl, p, n, tb, g, rfl, c2, g0, g1, fun H3 s3 => ⟨_, rfl, q H3 s3⟩⟩
  · refine k D _ ((s1.trans s2).free hD) (s1.trans (s2.trans (same_new hD _))) ?_
    rw [upd_same, List.map_id']
    unfold leastBy
    rw [List.filter_map]
    rfl
theorem ok_Council_greatest {P : Program} {w : World} {K : PySem.W.Frag} {mg : Str → Option Value} {base : Heap} {a : Adr} (T : Txt K mg a) : FnOk P w K mg base CX0 5 a.a_Council_greatest a.d_Council_greatest ["self"] (sp_greatest a.C_Council) := by
  refine T.F_Council_greatest.ok sc_Council_greatest (fun vs H Q E h => ?_) (fun cdv A outer s H vs Q E hr h => ?_)
  · obtain ⟨p, n, tb, rfl, _⟩ := h; rfl
  obtain ⟨p, n, tb, rfl, c, k⟩ := h
  refine ⟨_, (pss_one (ps_ret (pe_lc rfl (lcOk_of (S := defScope s_Council_greatest) (N := ["self"]) (M := ["self", "group"]) (by decide +kernel)) (pi_listK K (pe_call (ok_groups_of T) (hr.mono (by decide)) rfl T.m_groups_of T.F_groups_of.kp (b_groups_of T) .nil pass0 (pa_cons (pe_fldK K (pv 0) rfl) pa_nil))) (fun _ _ _ _ => (pg_name (i := 1) (show List.Nodup (["self", "group"] : List Str) by decide +kernel) rfl (by first | exact Or.inl rfl | exact Or.inr rfl))) (fun _ _ _ _ => (pifs_one (pt_val (pe_meth (pv 0) T.cl_Council T.mt_Council_is_greatest (ok_Council_is_greatest T) hr (b_Council_is_greatest T) .nil pass0 (pa_cons (pv 1) pa_nil))))) (fun _ _ _ _ => (pv 1))))), ?_⟩
  obtain ⟨⟨dx, t, h1, h2⟩, n1, n5, hl⟩ := id c
  have h5 := two_le n5
  refine ⟨_, rfl, p, a.C_Council, dx, _, _, rfl, h1, T.cl_Council, T.n_Council_members, flds_m _ _, n, rfl, n5, fun r H1 nr s1 hr1 => ?_⟩
  refine ⟨r, rfl, ⟨_, SqL.of hr1⟩, ?_⟩
  refine lcB_list rfl (SqL.of hr1) (by rw [List.length_map, up_length]; omega) (fun x => match x with | .int g => !at_ tb g && ((outs n g).map fun m => at_ tb (g + 1 * 2 ^ m.toNat)).all id | _ => false) (fun x => x) (fun x hx H2 s2 R q => ?_) (fun x hx _ H2 s2 R q => ⟨_, rfl, q H2 (Same.refl _)⟩) fun H2 D s2 hD => ?_
  · obtain ⟨g, hg, rfl⟩ := List.mem_map.mp hx
    obtain ⟨g0, g1⟩ := mem_up.mp hg
    have c2 := c.same (s1.trans s2)
    obtain ⟨⟨dx2, t2, h12, h22⟩, _⟩ := id c2
    exact ⟨_, rfl, p, dx2, _, rfl, h12, flds_no _ _ (by decide +kernel) (by decide +kernel), _, rfl, p, n, tb, g, rfl, c2, g0, g1, fun H3 s3 => ⟨_, rfl, q H3 s3⟩⟩
  · refine k D _ ((s1.trans s2).free hD) (s1.trans (s2.trans (same_new hD _))) ?_
    rw [upd_same, List.map_id']
    unfold greatBy
    rw [List.filter_map]
    rfl
end Wv
namespace Wv
open PySem L2
/-! ## weighted -/
def WtsOk (ws : List Int) : Prop := 1 ≤ ws.length ∧ ws.length ≤ 5 ∧ ∀ w ∈ ws, 0 ≤ w ∧ w ≤ 1000000
def sp_refuse_bad_weights : Sp := fun vs H Q _ => ∃ (l : Addr) (ws : List Int) (q : Int), vs = [.ref l, .int q] ∧ H l = some (.lst (ws.map V.int)) ∧ WtsOk ws ∧ 0 ≤ q ∧ q ≤ 5000001 ∧ ∀ H', Same H H' → Q .non H'
def sp_weighted (C : Addr) : Sp := fun vs H Q _ => ∃ (l : Addr) (ws : List Int) (q : Int), vs = [.ref l, .int q] ∧ H l = some (.lst (ws.map V.int)) ∧ WtsOk ws ∧ 0 ≤ q ∧ q ≤ 5000001 ∧
  ∀ p H', H p = none → Same H H' → CAt C H' p ws.length ((up (2 ^ ws.length)).map fun g => decide (q ≤ wtOf ws g)) → Q (.ref p) H'
theorem ok_refuse_bad_weights {P : Program} {w : World} {K : PySem.W.Frag} {mg : Str → Option Value} {base : Heap} {a : Adr} (T : Txt K mg a) : FnOk P w K mg base CX0 2 a.a_refuse_bad_weights a.d_refuse_bad_weights ["weights", "quota"] sp_refuse_bad_weights := by
  refine T.F_refuse_bad_weights.ok sc_refuse_bad_weights (fun vs H Q E h => ?_) (fun cdv A outer s H vs Q E hr h => ?_)
  · obtain ⟨l, ws, q, rfl, _⟩ := h; rfl
  obtain ⟨l, ws, q, rfl, hl, ⟨w1, w5, hw⟩, q0, q1, k⟩ := h
  refine ⟨_, (pss_cons (ps_if (PW.pt (pw_or (pt_not (pt_val (pe_callB (call_isiK K) rfl T.z_isinstance PyProof.Rows.boot_isinstance (pa_cons (pv 0) (pa_cons (pe_bltn (v := .ty "list") rfl T.z_list PyProof.Rows.boot_list rfl) pa_nil))))) (pw_or1 (pt_not (pt_chain op_le op_le pe_int (pe_callB (call_lenK K) rfl T.z_len PySem.boot_len (pa_cons (pv 0) pa_nil)) (pe_glob (v := .int 5) rfl T.g_MOST_MEMBERS ⟨_, rfl⟩)))))) (pss_one ps_never) pss_nil)
      (pss_cons (ps_if (pt_not (pt_val (pe_callB (call_allK K rfl) rfl T.z_all PyProof.Rows.boot_all (pa_cons (pe_lc rfl (lcOk_of (S := defScope s_refuse_bad_weights) (N := ["weights", "quota"]) (M := ["weights", "quota", "weight"]) (by decide +kernel)) (pi_listK K (pv 0)) (fun _ _ _ _ => (pg_name (i := 2) (show List.Nodup (["weights", "quota", "weight"] : List Str) by decide +kernel) rfl (by first | exact Or.inl rfl | exact Or.inr rfl))) (fun _ _ _ _ => pifs_nil) (fun _ _ _ _ => (pe_call (ok_is_whole T) hr rfl T.m_is_whole T.F_is_whole.kp (b_is_whole T) .nil pass0 (pa_cons (pv 2) (pa_cons (pe_glob (v := .int 1000000) rfl T.g_MOST_WEIGHT ⟨_, rfl⟩) pa_nil))))) pa_nil)))) (pss_one ps_never) pss_nil)
      (pss_one (ps_if (pt_not (pt_val (pe_call (ok_is_whole T) hr rfl T.m_is_whole T.F_is_whole.kp (b_is_whole T) .nil pass0 (pa_cons (pv 1) (pa_cons (pe_glob (v := .int 5000001) rfl T.g_MOST_QUOTA ⟨_, rfl⟩) pa_nil))))) (pss_one ps_never) pss_nil)))), ?_⟩
  refine ⟨_, rfl, _, "list", "list", true, rfl, .lst hl, .inr (.inr rfl), isi_ll, true, rfl, iteF ?_⟩
  refine ⟨_, rfl, l, _, rfl, .inl (SqL.of hl), _, _, rfl, rfl, _, rfl, ?_⟩
  refine ite_t (decide_eq_true (by rw [List.length_map]; omega)) ?_
  refine ⟨_, _, rfl, rfl, _, rfl, ?_⟩
  refine ite_f (by rw [decide_eq_true (by rw [List.length_map]; omega)]; rfl) ?_
  refine ⟨_, rfl, l, rfl, ⟨_, SqL.of hl⟩, ?_⟩
  refine lcB_list rfl (SqL.of hl) (by rw [List.length_map]; omega) (fun _ => true) (fun x => match x with | .int o => .bl (decide (0 ≤ o ∧ o ≤ 1000000)) | _ => .non) (fun x hx H2 h2 R q => q H2 (Same.refl _)) (fun x hx _ H2 h2 R q => ?_) fun H2 D h2 hD => ?_
  · obtain ⟨o, _, rfl⟩ := List.mem_map.mp hx
    exact ⟨_, rfl, _, _, rfl, trivial, fun H3 h3 => q H3 h3⟩
  · refine ⟨D, ws.map fun o => decide (0 ≤ o ∧ o ≤ 1000000), rfl, SqL.of ?_, _, rfl, ?_⟩
    · rw [upd_same, List.filter_eq_self.mpr (fun _ _ => rfl), List.map_map, List.map_map]
      rfl
    · refine ite_f (by rw [all_true fun o ho => decide_eq_true (hw o ho)]; rfl) ?_
      refine ⟨_, rfl, _, _, rfl, trivial, fun H3 h3 => ⟨_, rfl, ?_⟩⟩
      refine ite_f (by rw [decide_eq_true ⟨q0, q1⟩]; rfl) ?_
      exact k _ (h2.trans ((same_new hD _).trans h3))
theorem ok_weighted {P : Program} {w : World} {K : PySem.W.Frag} {mg : Str → Option Value} {base : Heap} {a : Adr} (T : Txt K mg a) : FnOk P w K mg base CX0 6 a.a_weighted a.d_weighted ["weights", "quota"] (sp_weighted a.C_Council) := by
  refine T.F_weighted.ok sc_weighted (fun vs H Q E h => ?_) (fun cdv A outer s H vs Q E hr h => ?_)
  · obtain ⟨l, ws, q, rfl, _⟩ := h; rfl
  obtain ⟨l, ws, q, rfl, hl, ok, q0, q1, k⟩ := h
  refine ⟨_, (pss_cons (ps_expr (pe_call (ok_refuse_bad_weights T) (hr.mono (by decide)) rfl T.m_refuse_bad_weights T.F_refuse_bad_weights.kp (b_refuse_bad_weights T) .nil pass0 (pa_cons (pv 0) (pa_cons (pv 1) pa_nil))))
      (pss_cons (ps_set (i := 2) sc_weighted.nd rfl (by first | exact Or.inl rfl | exact Or.inr rfl) (pe_callB (call_lenK K) rfl T.z_len PySem.boot_len (pa_cons (pv 0) pa_nil)))
      (pss_cons (ps_lc (i := 3) sc_weighted.nd rfl rfl rfl (lcOk_of (S := defScope s_weighted) (N := ["weights", "quota", "members", "carrying"]) (M := ["weights", "quota", "members", "carrying", "group"]) (by decide +kernel)) (pi_listK K (pe_call (ok_groups_of T) (hr.mono (by decide)) rfl T.m_groups_of T.F_groups_of.kp (b_groups_of T) .nil pass0 (pa_cons (pv 2) pa_nil))) (fun _ _ _ _ => (pg_name (i := 4) (show List.Nodup (["weights", "quota", "members", "carrying", "group"] : List Str) by decide +kernel) rfl (by first | exact Or.inl rfl | exact Or.inr rfl))) (fun _ _ _ _ => (pifs_one (pt_cmpR op_ge (pe_call (ok_weight_of T) (hr.mono (by decide)) rfl T.m_weight_of T.F_weight_of.kp (b_weight_of T) .nil pass0 (pa_cons (pv 0) (pa_cons (pv 4) pa_nil))) (pv 1) (nomark _)))) (fun _ _ _ _ => (pv 4)))
      (pss_one (ps_ret (pe_make T.mk_Council (ok_Council_init T) hr rfl T.m_Council (b_Council_init T) .nil pass0 (pa_cons (pv 2) (pa_cons (pv 3) pa_nil)))))))), ?_⟩
  obtain ⟨w1, w5, hw⟩ := id ok
  have h5 := two_le w5
  refine ⟨_, rfl, _, rfl, l, ws, q, rfl, hl, ok, q0, q1, fun H1 h1 => ?_⟩
  refine ⟨_, rfl, l, _, rfl, .inl (SqL.of (h1 _ _ hl)), ?_⟩
  refine ⟨_, rfl, ws.length, ?_, w5, fun r H2 nr h2 hr2 => ?_⟩
  · rw [List.length_map]; rfl
  refine ⟨r, rfl, ⟨_, SqL.of hr2⟩, ?_⟩
  refine lcB_list rfl (SqL.of hr2) (by rw [List.length_map, up_length]; omega) (fun x => match x with | .int g => decide (q ≤ wtOf ws g) | _ => false) (fun x => x) (fun x hx H3 h3 R z => ?_) (fun x hx _ H3 h3 R z => ⟨_, rfl, z H3 (Same.refl _)⟩) fun H3 D h3 hD => ?_
  · obtain ⟨g, hg, rfl⟩ := List.mem_map.mp hx
    refine ⟨_, rfl, _, rfl, l, ws, g, rfl, h3 _ _ (h2 _ _ (h1 _ _ hl)), by omega, fun H4 h4 => ?_⟩
    exact ⟨_, rfl, _, _, rfl, rfl, _, rfl, z H4 h4⟩
  · have s3 : Same H (upd H3 D (.lst ((((up (2 ^ ws.length)).map V.int).filter fun x => match x with | .int g => decide (q ≤ wtOf ws g) | _ => false).map fun x => x))) := h1.trans (h2.trans (h3.trans (same_new hD _)))
    have eD : ((((up (2 ^ ws.length)).map V.int).filter fun x => match x with | .int g => decide (q ≤ wtOf ws g) | _ => false).map fun x => x) = ((up (2 ^ ws.length)).filter fun g => decide (q ≤ wtOf ws g)).map V.int := by
      rw [List.map_id', List.filter_map]
      rfl
    rw [eD] at s3 ⊢
    refine ⟨_, rfl, _, rfl, fun x dx nx ndx nex => ?_⟩
    have s4 : Same H (upd (upd (upd H3 D (.lst (((up (2 ^ ws.length)).filter fun g => decide (q ≤ wtOf ws g)).map V.int))) dx (.own x)) x (.ins a.C_Council dx [])) := s3.trans ((same_new ndx _).trans (same_new (by rw [upd_ne (Ne.symm nex)]; exact nx) _))
    have hDx : D ≠ x := ne_of_none (upd_same (H := H3) (a := D)) nx
    have hDd : D ≠ dx := ne_of_none (upd_same (H := H3) (a := D)) ndx
    refine ⟨x, dx, ws.length, D, (up (2 ^ ws.length)).filter fun g => decide (q ≤ wtOf ws g), ?_, upd_same, w1, w5, ?_, ⟨?_, fun g hg => ?_⟩, fun H5 c kp => ⟨rfl, ?_⟩⟩
    · rw [List.length_map]; rfl
    · rw [upd_ne hDx, upd_ne hDd, upd_same]
    · have z : ((up (2 ^ ws.length)).filter fun g => decide (q ≤ wtOf ws g)).length ≤ (up (2 ^ ws.length)).length := List.length_filter_le _ _
      rw [up_length] at z
      omega
    · exact mem_up.mp (List.mem_filter.mp hg).1
    · have nxH : H x = none := s3.free nx
      rw [tab_weights w5 rfl (fun w hw' => (hw w hw').1)] at c
      exact k x H5 nxH (fun b o hb => kp b o (s4 b o hb) (ne_of_none hb nxH)) c

end Wv
namespace Wv
open PySem L2
/-! ## who may stand for whom -/
def apartB (tb : List Bool) (one other g : Int) : Bool := !(hasB g one || hasB g other) && (at_ tb (Builtin.bitOr g (1 * 2 ^ one.toNat)) && !at_ tb (Builtin.bitOr g (1 * 2 ^ other.toNat)))
def sp_tells_apart (C : Addr) : Sp := fun vs H Q _ => ∃ (p : Addr) (n : Nat) (tb : List Bool) (g one other : Int), vs = [.ref p, .int g, .int one, .int other] ∧ CAt C H p n tb ∧ g ∈ up (2 ^ n) ∧ one ∈ up n ∧ other ∈ up n ∧ ∀ H', Same H H' → Q (.bl (apartB tb one other g)) H'
theorem ok_tells_apart {P : Program} {w : World} {K : PySem.W.Frag} {mg : Str → Option Value} {base : Heap} {a : Adr} (T : Txt K mg a) : FnOk P w K mg base CX0 4 a.a_tells_apart a.d_tells_apart ["council", "group", "one", "other"] (sp_tells_apart a.C_Council) := by
  refine T.F_tells_apart.ok sc_tells_apart (fun vs H Q E h => ?_) (fun cdv A outer s H vs Q E hr h => ?_)
  · obtain ⟨p, n, tb, g, one, other, rfl, _⟩ := h; rfl
  obtain ⟨p, n, tb, g, one, other, rfl, c, hg, h1, h2, k⟩ := h
  refine ⟨_, (pss_cons (ps_if (PW.pt (pw_or (pt_val (pe_call (ok_has T) (hr.mono (by decide)) rfl T.m_has T.F_has.kp (b_has T) .nil pass0 (pa_cons (pv 1) (pa_cons (pv 2) pa_nil)))) (pw_or1 (pt_val (pe_call (ok_has T) (hr.mono (by decide)) rfl T.m_has T.F_has.kp (b_has T) .nil pass0 (pa_cons (pv 1) (pa_cons (pv 3) pa_nil))))))) (pss_one (ps_ret pe_bl)) pss_nil)
      (pss_one (ps_ret (pe_and (pe_meth (pv 0) T.cl_Council T.mt_Council_carries (ok_Council_carries T) hr (b_Council_carries T) .nil pass0 (pa_cons (pe_call (ok_with_member T) (hr.mono (by decide)) rfl T.m_with_member T.F_with_member.kp (b_with_member T) .nil pass0 (pa_cons (pv 1) (pa_cons (pv 2) pa_nil))) pa_nil)) (pe_one (pe_not (pe_meth (pv 0) T.cl_Council T.mt_Council_carries (ok_Council_carries T) hr (b_Council_carries T) .nil pass0 (pa_cons (pe_call (ok_with_member T) (hr.mono (by decide)) rfl T.m_with_member T.F_with_member.kp (b_with_member T) .nil pass0 (pa_cons (pv 1) (pa_cons (pv 3) pa_nil))) pa_nil)))))))), ?_⟩
  obtain ⟨⟨dx, t, e1, e2⟩, n1, n5, hl⟩ := id c
  obtain ⟨i0, i1⟩ := mem_up.mp h1
  obtain ⟨j0, j1⟩ := mem_up.mp h2
  refine ⟨_, rfl, _, rfl, _, _, rfl, i0, fun H1 s1 => ⟨_, rfl, ?_⟩⟩
  refine ite_b (fun hc => iteT ?_) (fun hc => ?_)
  · exact qbl (by unfold apartB; rw [hc]; rfl) (k _ s1)
  refine ⟨_, rfl, _, rfl, _, _, rfl, j0, fun H2 s2 => ⟨_, rfl, ?_⟩⟩
  refine ite_b (fun hd => ?_) (fun hd => ?_)
  · exact qbl (by unfold apartB; rw [hc, hd]; rfl) (k _ (s1.trans s2))
  have s02 := s1.trans s2
  have c2 := c.same s02
  obtain ⟨⟨dx2, t2, h12, h22⟩, _⟩ := id c2
  obtain ⟨o0, o1⟩ := mem_up.mp (or_in n5 hg h1).1
  obtain ⟨q0, q1⟩ := mem_up.mp (or_in n5 hg h2).1
  refine ⟨_, rfl, p, dx2, _, rfl, h12, flds_no _ _ (by decide +kernel) (by decide +kernel), _, rfl, _, rfl, _, _, rfl, ⟨i0, by omega⟩, fun H3 s3 => ?_⟩
  refine ⟨p, n, tb, _, rfl, c2.same s3, o0, o1, fun H4 s4 => ⟨_, rfl, ?_⟩⟩
  have s04 := s02.trans (s3.trans s4)
  refine ite_b (fun he => ?_) (fun he => ?_)
  · have c4 := c.same s04
    obtain ⟨⟨dx4, t4, h14, h24⟩, _⟩ := id c4
    refine ⟨_, rfl, p, dx4, _, rfl, h14, flds_no _ _ (by decide +kernel) (by decide +kernel), _, rfl, _, rfl, _, _, rfl, ⟨j0, by omega⟩, fun H5 s5 => ?_⟩
    refine ⟨p, n, tb, _, rfl, c4.same s5, q0, q1, fun H6 s6 => ⟨_, rfl, ?_⟩⟩
    exact qbl (by unfold apartB; rw [hc, hd, he]; simp) (k _ (s04.trans (s5.trans s6)))
  · exact qbl (by unfold apartB; rw [hc, hd, he]; rfl) (k _ s04)
def sp_groups_apart (C : Addr) : Sp := fun vs H Q _ => ∃ (p : Addr) (n : Nat) (tb : List Bool) (one other : Int), vs = [.ref p, .int one, .int other] ∧ CAt C H p n tb ∧ one ∈ up n ∧ other ∈ up n ∧
  ∀ r H', H r = none → Same H H' → H' r = some (.lst (((up (2 ^ n)).filter (apartB tb one other)).map V.int)) → Q (.ref r) H'
theorem ok_groups_apart {P : Program} {w : World} {K : PySem.W.Frag} {mg : Str → Option Value} {base : Heap} {a : Adr} (T : Txt K mg a) : FnOk P w K mg base CX0 5 a.a_groups_apart a.d_groups_apart ["council", "one", "other"] (sp_groups_apart a.C_Council) := by
  refine T.F_groups_apart.ok sc_groups_apart (fun vs H Q E h => ?_) (fun cdv A outer s H vs Q E hr h => ?_)
  · obtain ⟨p, n, tb, one, other, rfl, _⟩ := h; rfl
  obtain ⟨p, n, tb, one, other, rfl, c, h1, h2, k⟩ := h
  refine ⟨_, (pss_one (ps_ret (pe_lc rfl (lcOk_of (S := defScope s_groups_apart) (N := ["council", "one", "other"]) (M := ["council", "one", "other", "group"]) (by decide +kernel)) (pi_listK K (pe_call (ok_groups_of T) (hr.mono (by decide)) rfl T.m_groups_of T.F_groups_of.kp (b_groups_of T) .nil pass0 (pa_cons (pe_fldK K (pv 0) rfl) pa_nil))) (fun _ _ _ _ => (pg_name (i := 3) (show List.Nodup (["council", "one", "other", "group"] : List Str) by decide +kernel) rfl (by first | exact Or.inl rfl | exact Or.inr rfl))) (fun _ _ _ _ => (pifs_one (pt_val (pe_call (ok_tells_apart T) hr rfl T.m_tells_apart T.F_tells_apart.kp (b_tells_apart T) .nil pass0 (pa_cons (pv 0) (pa_cons (pv 3) (pa_cons (pv 1) (pa_cons (pv 2) pa_nil)))))))) (fun _ _ _ _ => (pv 3))))), ?_⟩
  obtain ⟨⟨dx, t, e1, e2⟩, n1, n5, hl⟩ := id c
  have h5 := two_le n5
  refine ⟨_, rfl, p, a.C_Council, dx, _, _, rfl, e1, T.cl_Council, T.n_Council_members, flds_m _ _, n, rfl, n5, fun r H1 nr s1 hr1 => ?_⟩
  refine ⟨r, rfl, ⟨_, SqL.of hr1⟩, ?_⟩
  refine lcB_list rfl (SqL.of hr1) (by rw [List.length_map, up_length]; omega) (fun x => match x with | .int g => apartB tb one other g | _ => false) (fun x => x) (fun x hx H2 s2 R q => ?_) (fun x hx _ H2 s2 R q => ⟨_, rfl, q H2 (Same.refl _)⟩) fun H2 D s2 hD => ?_
  · obtain ⟨g, hg, rfl⟩ := List.mem_map.mp hx
    exact ⟨_, rfl, _, rfl, _, rfl, _, rfl, p, n, tb, g, one, other, rfl, c.same (s1.trans s2), hg, h1, h2, fun H3 s3 => ⟨_, rfl, q H3 s3⟩⟩
  · refine k D _ ((s1.trans s2).free hD) (s1.trans (s2.trans (same_new hD _))) ?_
    rw [upd_same, List.map_id', List.filter_map]
    rfl
end Wv

set_option Elab.async false
set_option linter.all false
set_option maxRecDepth 100000
set_option maxHeartbeats 4000000

namespace Wv
open PySem L2
/-! ## refusals -/
def sp_wholeV (K : PySem.W.Frag) : Sp := fun vs H Q _ => ∃ (v : V) (m : Int) (t : String), vs = [v, .int m] ∧ TyOf K H v (.type t) ∧ ∀ H', Same H H' → Q (.bl (whB m v)) H'
theorem okv_is_whole {P : Program} {w : World} {K : PySem.W.Frag} {mg : Str → Option Value} {base : Heap} {a : Adr} (T : Txt K mg a) : FnOk P w K mg base CX0 1 a.a_is_whole a.d_is_whole ["value", "most"] (sp_wholeV K) := by
  refine T.F_is_whole.ok sc_is_whole (fun vs H Q E h => ?_) (fun cdv A outer s H vs Q E hr h => ?_)
  · obtain ⟨v, m, t, rfl, _⟩ := h; rfl
  obtain ⟨v, m, t, rfl, ty, k⟩ := h
  refine ⟨_, (pss_one (ps_ret (pe_and (pe_callB (call_isiK K) rfl T.z_isinstance PyProof.Rows.boot_isinstance (pa_cons (pv 0) (pa_cons (pe_bltn (v := .ty "int") rfl T.z_int PyProof.Rows.boot_int rfl) pa_nil))) (pe_and (pe_not (pe_callB (call_isiK K) rfl T.z_isinstance PyProof.Rows.boot_isinstance (pa_cons (pv 0) (pa_cons (pe_bltn (v := .ty "bool") rfl T.z_bool PyProof.Rows.boot_bool rfl) pa_nil)))) (pe_one (pe_chain op_le op_le pe_int (pv 0) (pv 1))))))), ?_⟩
  rcases tyof_cases ty with ⟨i, rfl, rfl⟩ | ⟨b, rfl, rfl⟩ | ⟨e, hw⟩
  · refine ⟨_, rfl, _, "int", "int", true, rfl, .int i, .inl rfl, isi_ii, true, rfl, iteT ?_⟩
    refine ⟨_, rfl, _, "int", "bool", false, rfl, .int i, .inr (.inl rfl), isi_ib, false, rfl, true, rfl, iteT ?_⟩
    refine ⟨_, rfl, _, _, rfl, rfl, _, rfl, ?_⟩
    have q : Q (.bl (decide (0 ≤ i ∧ i ≤ m))) H := k H (Same.refl H)
    refine ite_b (fun c => ?_) (fun c => ?_)
    · refine ⟨_, rfl, _, _, rfl, rfl, ?_⟩
      have c' : 0 ≤ i := of_decide_eq_true c
      exact qbl (by rw [Bool.eq_iff_iff, decide_eq_true_eq, decide_eq_true_eq]; exact ⟨fun z => z.2, fun z => ⟨c', z⟩⟩) q
    · have c' : ¬ 0 ≤ i := of_decide_eq_false c
      exact qbl (decide_eq_false fun z => c' z.1) q
  · refine ⟨_, rfl, _, "bool", "int", true, rfl, .bl b, .inl rfl, isi_bi, true, rfl, iteT ?_⟩
    refine ⟨_, rfl, _, "bool", "bool", true, rfl, .bl b, .inr (.inl rfl), isi_bb, true, rfl, false, rfl, iteF ?_⟩
    exact k H (Same.refl H)
  · refine ⟨_, rfl, _, t, "int", false, rfl, ty, .inl rfl, e, false, rfl, iteF ?_⟩
    have q := k H (Same.refl H)
    rw [hw] at q
    exact q
def sp_groupV (K : PySem.W.Frag) : Sp := fun vs H Q _ => ∃ (v : V) (n : Nat) (t : String), vs = [v, .int n] ∧ n ≤ 5 ∧ TyOf K H v (.type t) ∧ ∀ H', Same H H' → Q (.bl (whB (((2 ^ n : Nat) : Int) - 1) v)) H'
theorem okv_is_group {P : Program} {w : World} {K : PySem.W.Frag} {mg : Str → Option Value} {base : Heap} {a : Adr} (T : Txt K mg a) : FnOk P w K mg base CX0 2 a.a_is_group a.d_is_group ["value", "members"] (sp_groupV K) := by
  refine T.F_is_group.ok sc_is_group (fun vs H Q E h => ?_) (fun cdv A outer s H vs Q E hr h => ?_)
  · obtain ⟨v, n, t, rfl, _⟩ := h; rfl
  obtain ⟨v, n, t, rfl, hn, ty, k⟩ := h
  refine ⟨_, (pss_one (ps_ret (pe_call (okv_is_whole T) hr rfl T.m_is_whole T.F_is_whole.kp (b_is_whole T) .nil pass0 (pa_cons (pv 0) (pa_cons (pe_call (ok_everybody T) hr rfl T.m_everybody T.F_everybody.kp (b_everybody T) .nil pass0 (pa_cons (pv 1) pa_nil)) pa_nil))))), ?_⟩
  refine ⟨_, rfl, _, rfl, n, rfl, hn, fun H1 h1 => ?_⟩
  exact ⟨v, _, t, rfl, ty.same h1, fun H2 h2 => k H2 (h1.trans h2)⟩
def sp_memberV (K : PySem.W.Frag) : Sp := fun vs H Q _ => ∃ (v : V) (n : Int) (t : String), vs = [v, .int n] ∧ TyOf K H v (.type t) ∧ ∀ H', Same H H' → Q (.bl (whB (n - 1) v)) H'
theorem okv_is_member {P : Program} {w : World} {K : PySem.W.Frag} {mg : Str → Option Value} {base : Heap} {a : Adr} (T : Txt K mg a) : FnOk P w K mg base CX0 2 a.a_is_member a.d_is_member ["value", "members"] (sp_memberV K) := by
  refine T.F_is_member.ok sc_is_member (fun vs H Q E h => ?_) (fun cdv A outer s H vs Q E hr h => ?_)
  · obtain ⟨v, n, t, rfl, _⟩ := h; rfl
  obtain ⟨v, n, t, rfl, ty, k⟩ := h
  refine ⟨_, (pss_one (ps_ret (pe_call (okv_is_whole T) hr rfl T.m_is_whole T.F_is_whole.kp (b_is_whole T) .nil pass0 (pa_cons (pv 0) (pa_cons (pe_op op_sub (pv 1) pe_int) pa_nil))))), ?_⟩
  exact ⟨_, rfl, _, rfl, _, _, rfl, rfl, v, _, t, rfl, ty, fun H2 h2 => k H2 h2⟩
/-- what makes no council -/
def BadC (K : PySem.W.Frag) (H : Hp) (m g : V) : Prop := (∃ t, TyOf K H m (.type t) ∧ (whB 5 m = false ∨ m = .int 0)) ∨
  (∃ (n : Nat) (t : String), m = .int n ∧ 1 ≤ n ∧ n ≤ 5 ∧ TyOf K H g (.type t) ∧ isiB t "list" = false) ∨
  (∃ (n : Nat) (l : Addr) (xs : List V), m = .int n ∧ 1 ≤ n ∧ n ≤ 5 ∧ g = .ref l ∧ H l = some (.lst xs) ∧ xs.length ≤ 1000 ∧ (∀ x ∈ xs, ∃ t, TyOf K H x (.type t)) ∧ (xs.map (whB (((2 ^ n : Nat) : Int) - 1))).all id = false)
theorem BadC.same {K : PySem.W.Frag} {H H' : Hp} {m g : V} (h : BadC K H m g) (s : Same H H') : BadC K H' m g := by
  rcases h with ⟨t, ty, h⟩ | ⟨n, t, e, n1, n5, ty, h⟩ | ⟨n, l, xs, e, n1, n5, eg, hl, hz, ty, h⟩
  · exact .inl ⟨t, ty.same s, h⟩
  · exact .inr (.inl ⟨n, t, e, n1, n5, ty.same s, h⟩)
  · exact .inr (.inr ⟨n, l, xs, e, n1, n5, eg, s _ _ hl, hz, fun x hx => let ⟨t, q⟩ := ty x hx; ⟨t, q.same s⟩, h⟩)
def sp_bad_council (K : PySem.W.Frag) (B : Addr) : Sp := fun vs H Q E => ∃ m g : V, vs = [m, g] ∧ BadC K H m g ∧ ∀ H', Same H H' → E (.ref B) none H'
theorem okx_refuse_bad_council {P : Program} {w : World} {K : PySem.W.Frag} {mg : Str → Option Value} {base : Heap} {a : Adr} (T : Txt K mg a) : FnOk P w K mg base (CXe P w) 3 a.a_refuse_bad_council a.d_refuse_bad_council ["members", "groups"] (sp_bad_council K a.C_BadCouncil) := by
  refine T.F_refuse_bad_council.okX sc_refuse_bad_council (fun vs H Q E h => ?_) (fun cdv A outer s H vs Q E hr h => ?_)
  · obtain ⟨m, g, rfl, _⟩ := h; rfl
  obtain ⟨m, g, rfl, hb, k⟩ := h
  refine ⟨_, (pss_cons (ps_if (PW.pt (pw_or (pt_not (pt_val (pe_call (okv_is_whole T) (hr.mono (by decide)) rfl T.m_is_whole T.F_is_whole.kp (b_is_whole T) .nil pass0 (pa_cons (pv 0) (pa_cons (pe_glob (v := .int 5) rfl T.g_MOST_MEMBERS ⟨_, rfl⟩) pa_nil))))) (pw_or1 (pt_cmpR op_eq (pv 0) pe_int (nomark _))))) (pss_one (ps_raise (EX := fun H' => E (.ref a.C_BadCouncil) none H') rfl rfl T.m_BadCouncil T.x_BadCouncil.ex (pa_cons pe_str pa_nil) fun _ _ _ _ _ _ _ I hm ex => raise_leaves I hm ex)) pss_nil)
      (pss_cons (ps_if (pt_not (pt_val (pe_callB (call_isiK K) rfl T.z_isinstance PyProof.Rows.boot_isinstance (pa_cons (pv 1) (pa_cons (pe_bltn (v := .ty "list") rfl T.z_list PyProof.Rows.boot_list rfl) pa_nil))))) (pss_one (ps_raise (EX := fun H' => E (.ref a.C_BadCouncil) none H') rfl rfl T.m_BadCouncil T.x_BadCouncil.ex (pa_cons pe_str pa_nil) fun _ _ _ _ _ _ _ I hm ex => raise_leaves I hm ex)) pss_nil)
      (pss_one (ps_if (pt_not (pt_val (pe_callB (call_allK K rfl) rfl T.z_all PyProof.Rows.boot_all (pa_cons (pe_lc rfl (lcOk_of (S := defScope s_refuse_bad_council) (N := ["members", "groups"]) (M := ["members", "groups", "group"]) (by decide +kernel)) (pi_listK K (pv 1)) (fun _ _ _ _ => (pg_name (i := 2) (show List.Nodup (["members", "groups", "group"] : List Str) by decide +kernel) rfl (by first | exact Or.inl rfl | exact Or.inr rfl))) (fun _ _ _ _ => pifs_nil) (fun _ _ _ _ => (pe_call (okv_is_group T) hr rfl T.m_is_group T.F_is_group.kp (b_is_group T) .nil pass0 (pa_cons (pv 2) (pa_cons (pv 0) pa_nil))))) pa_nil)))) (pss_one (ps_raise (EX := fun H' => E (.ref a.C_BadCouncil) none H') rfl rfl T.m_BadCouncil T.x_BadCouncil.ex (pa_cons pe_str pa_nil) fun _ _ _ _ _ _ _ I hm ex => raise_leaves I hm ex)) pss_nil)))), ?_⟩
  have one : (1 : Nat) ≤ sizeLine := by decide
  rcases hb with ⟨t, ty, h⟩ | ⟨n, t, rfl, n1, n5, ty, h⟩ | ⟨n, l, xs, rfl, n1, n5, rfl, hl, hz, ty, h⟩
  · refine ⟨_, rfl, m, _, t, rfl, ty, fun H1 h1 => ⟨_, rfl, ?_⟩⟩
    cases hw : whB 5 m with
    | false => exact iteT (iteT ⟨one, k _ h1⟩)
    | true =>
      rcases h with h | rfl
      · rw [hw] at h; cases h
      · refine iteF ⟨_, rfl, rfl, _, rfl, ?_⟩
        exact ite_t (decide_eq_true rfl) ⟨one, k _ h1⟩
  · refine ⟨_, rfl, _, _, "int", rfl, .int _, fun H1 h1 => ⟨_, rfl, ?_⟩⟩
    refine ite_f (by show (!decide _) = false; rw [decide_eq_true (by omega)]; rfl) ?_
    refine ⟨_, rfl, rfl, _, rfl, ?_⟩
    refine ite_f (decide_eq_false fun z => by have z' := V.int.inj z; omega) ?_
    exact ⟨_, rfl, _, t, "list", false, rfl, ty.same h1, .inr (.inr rfl), h, false, rfl, iteT ⟨one, k _ h1⟩⟩
  · refine ⟨_, rfl, _, _, "int", rfl, .int _, fun H1 h1 => ⟨_, rfl, ?_⟩⟩
    refine ite_f (by show (!decide _) = false; rw [decide_eq_true (by omega)]; rfl) ?_
    refine ⟨_, rfl, rfl, _, rfl, ?_⟩
    refine ite_f (decide_eq_false fun z => by have z' := V.int.inj z; omega) ?_
    refine ⟨_, rfl, _, "list", "list", true, rfl, .lst (h1 _ _ hl), .inr (.inr rfl), isi_ll, true, rfl, iteF ?_⟩
    refine ⟨_, rfl, l, rfl, ⟨_, SqL.of (h1 _ _ hl)⟩, ?_⟩
    refine lcB_list rfl (SqL.of (h1 _ _ hl)) hz (fun _ => true) (fun x => .bl (whB (((2 ^ n : Nat) : Int) - 1) x)) (fun x hx H2 h2 R q => q H2 (Same.refl _)) (fun x hx _ H2 h2 R q => ?_) fun H2 D h2 hD => ?_
    · obtain ⟨t, tx⟩ := ty x hx
      exact ⟨_, rfl, _, rfl, x, n, t, rfl, n5, tx.same (h1.trans h2), fun H3 h3 => q H3 h3⟩
    · refine ⟨D, xs.map (whB (((2 ^ n : Nat) : Int) - 1)), rfl, SqL.of ?_, _, rfl, ?_⟩
      · rw [upd_same, List.filter_eq_self.mpr (fun _ _ => rfl), List.map_map]
        rfl
      · rw [h]
        exact iteT ⟨one, k _ (h1.trans (h2.trans (same_new hD _)))⟩
def sp_bad_init (K : PySem.W.Frag) (C B : Addr) : Sp := fun vs H Q E => ∃ (p dx : Addr) (m g : V), vs = [.ref p, m, g] ∧ H p = some (.ins C dx []) ∧ BadC K H m g ∧ ∀ H', Same H H' → E (.ref B) none H'
theorem okb_Council_init {P : Program} {w : World} {K : PySem.W.Frag} {mg : Str → Option Value} {base : Heap} {a : Adr} (T : Txt K mg a) : FnOk P w K mg base (CXe P w) 4 a.a_Council_init a.d_Council_init ["self", "members", "groups"] (sp_bad_init K a.C_Council a.C_BadCouncil) := by
  refine T.F_Council_init.okX sc_Council_init (fun vs H Q E h => ?_) (fun cdv A outer s H vs Q E hr h => ?_)
  · obtain ⟨p, dx, m, g, rfl, _⟩ := h; rfl
  obtain ⟨p, dx, m, g, rfl, hp, hb, k⟩ := h
  refine ⟨_, (pss_cons (ps_expr (pe_call (okx_refuse_bad_council T) hr rfl T.m_refuse_bad_council T.F_refuse_bad_council.kp (b_refuse_bad_council T) .nil passes_on (pa_cons (pv 1) (pa_cons (pv 2) pa_nil))))
      (pss_cons (ps_fld (pv 0) (pv 1) rfl)
      (pss_one (ps_fld (pv 0) (pe_callTy (call_tuple_ofK K) rfl T.z_tuple PyProof.Rows.boot_tuple (pa_cons (pe_lc rfl (lcOk_of (S := defScope s_Council_init) (N := ["self", "members", "groups"]) (M := ["self", "members", "groups", "group"]) (by decide +kernel)) (pi_listK K (pe_call (ok_groups_of T) (hr.mono (by decide)) rfl T.m_groups_of T.F_groups_of.kp (b_groups_of T) .nil pass0 (pa_cons (pv 1) pa_nil))) (fun _ _ _ _ => (pg_name (i := 3) (show List.Nodup (["self", "members", "groups", "group"] : List Str) by decide +kernel) rfl (by first | exact Or.inl rfl | exact Or.inr rfl))) (fun _ _ _ _ => pifs_nil) (fun _ _ _ _ => (pe_call (ok_has_one_within T) (hr.mono (by decide)) rfl T.m_has_one_within T.F_has_one_within.kp (b_has_one_within T) .nil pass0 (pa_cons (pv 2) (pa_cons (pv 3) pa_nil))))) pa_nil)) rfl)))), ?_⟩
  exact ⟨_, rfl, _, rfl, m, g, rfl, hb, k⟩
theorem okx_Council_init {P : Program} {w : World} {K : PySem.W.Frag} {mg : Str → Option Value} {base : Heap} {a : Adr} (T : Txt K mg a) : FnOk P w K mg base (CXe P w) 4 a.a_Council_init a.d_Council_init ["self", "members", "groups"] (fun vs H Q E => sp_init a.C_Council vs H Q E ∨ sp_bad_init K a.C_Council a.C_BadCouncil vs H Q E) := FnOk.both (ok_Council_init T) (okb_Council_init T)
def sp_bad_group (K : PySem.W.Frag) (C B : Addr) : Sp := fun vs H Q E => ∃ (p : Addr) (n : Nat) (tb : List Bool) (v : V) (t : String), vs = [.ref p, v] ∧ CAt C H p n tb ∧ TyOf K H v (.type t) ∧ whB (((2 ^ n : Nat) : Int) - 1) v = false ∧ ∀ H', Same H H' → E (.ref B) none H'
theorem okx_Council_carries {P : Program} {w : World} {K : PySem.W.Frag} {mg : Str → Option Value} {base : Heap} {a : Adr} (T : Txt K mg a) : FnOk P w K mg base (CXe P w) 3 a.a_Council_carries a.d_Council_carries ["self", "group"] (sp_bad_group K a.C_Council a.C_BadGroup) := by
  refine T.F_Council_carries.okX sc_Council_carries (fun vs H Q E h => ?_) (fun cdv A outer s H vs Q E hr h => ?_)
  · obtain ⟨p, n, tb, v, t, rfl, _⟩ := h; rfl
  obtain ⟨p, n, tb, v, t, rfl, c, ty, hw, k⟩ := h
  refine ⟨_, (pss_cons (ps_if (pt_not (pt_val (pe_call (okv_is_group T) hr rfl T.m_is_group T.F_is_group.kp (b_is_group T) .nil pass0 (pa_cons (pv 1) (pa_cons (pe_fldK K (pv 0) rfl) pa_nil))))) (pss_one (ps_raise (EX := fun H' => E (.ref a.C_BadGroup) none H') rfl rfl T.m_BadGroup T.x_BadGroup.ex (pa_cons pe_str pa_nil) fun _ _ _ _ _ _ _ I hm ex => raise_leaves I hm ex)) pss_nil)
      (pss_one (ps_ret (pe_ix (ix_listK K) (pe_fldK K (pv 0) rfl) (pv 1) (fun _ _ => rfl))))), ?_⟩
  obtain ⟨⟨dx, tt, h1, h2⟩, n1, n5, hl⟩ := id c
  refine ⟨_, rfl, _, rfl, p, a.C_Council, dx, _, _, rfl, h1, T.cl_Council, T.n_Council_members, flds_m _ _, v, n, t, rfl, n5, ty, fun H1 s1 => ⟨_, rfl, ?_⟩⟩
  rw [hw]
  exact iteT ⟨(by show 1 ≤ sizeLine; decide), k _ s1⟩
/-! ### members -/
def sp_good_member (C : Addr) : Sp := fun vs H Q _ => ∃ (p : Addr) (n : Nat) (tb : List Bool) (m : Int), vs = [.ref p, .int m] ∧ CAt C H p n tb ∧ 0 ≤ m ∧ m < n ∧ ∀ H', Same H H' → Q .non H'
theorem ok_is_member {P : Program} {w : World} {K : PySem.W.Frag} {mg : Str → Option Value} {base : Heap} {a : Adr} (T : Txt K mg a) : FnOk P w K mg base CX0 2 a.a_is_member a.d_is_member ["value", "members"] (sp2 (fun _ _ => True) fun v n => .bl (decide (0 ≤ v ∧ v ≤ n - 1))) := by
  refine T.F_is_member.ok sc_is_member (fun vs H Q E h => ?_) (fun cdv A outer s H vs Q E hr h => ?_)
  · obtain ⟨x, y, rfl, _⟩ := h; rfl
  obtain ⟨x, y, rfl, _, k⟩ := h
  refine ⟨_, (pss_one (ps_ret (pe_call (ok_is_whole T) hr rfl T.m_is_whole T.F_is_whole.kp (b_is_whole T) .nil pass0 (pa_cons (pv 0) (pa_cons (pe_op op_sub (pv 1) pe_int) pa_nil))))), ?_⟩
  exact ⟨_, rfl, _, rfl, _, _, rfl, rfl, _, _, rfl, trivial, fun H1 h1 => k H1 h1⟩
theorem ok_refuse_no_member {P : Program} {w : World} {K : PySem.W.Frag} {mg : Str → Option Value} {base : Heap} {a : Adr} (T : Txt K mg a) : FnOk P w K mg base CX0 3 a.a_refuse_no_member a.d_refuse_no_member ["council", "member"] (sp_good_member a.C_Council) := by
  refine T.F_refuse_no_member.ok sc_refuse_no_member (fun vs H Q E h => ?_) (fun cdv A outer s H vs Q E hr h => ?_)
  · obtain ⟨p, n, tb, m, rfl, _⟩ := h; rfl
  obtain ⟨p, n, tb, m, rfl, c, m0, m1, k⟩ := h
  refine ⟨_, (pss_one (ps_if (pt_not (pt_val (pe_call (ok_is_member T) hr rfl T.m_is_member T.F_is_member.kp (b_is_member T) .nil pass0 (pa_cons (pv 1) (pa_cons (pe_fldK K (pv 0) rfl) pa_nil))))) (pss_one ps_never) pss_nil)), ?_⟩
  obtain ⟨⟨dx, tt, h1, h2⟩, n1, n5, hl⟩ := id c
  refine ⟨_, rfl, _, rfl, p, a.C_Council, dx, _, _, rfl, h1, T.cl_Council, T.n_Council_members, flds_m _ _, _, _, rfl, trivial, fun H1 s1 => ⟨_, rfl, ?_⟩⟩
  exact ite_f (by rw [decide_eq_true (by omega)]; rfl) (k _ s1)
def sp_bad_member (K : PySem.W.Frag) (C B : Addr) : Sp := fun vs H Q E => ∃ (p : Addr) (n : Nat) (tb : List Bool) (v : V) (t : String), vs = [.ref p, v] ∧ CAt C H p n tb ∧ TyOf K H v (.type t) ∧ whB ((n : Int) - 1) v = false ∧ ∀ H', Same H H' → E (.ref B) none H'
theorem okb_refuse_no_member {P : Program} {w : World} {K : PySem.W.Frag} {mg : Str → Option Value} {base : Heap} {a : Adr} (T : Txt K mg a) : FnOk P w K mg base (CXe P w) 3 a.a_refuse_no_member a.d_refuse_no_member ["council", "member"] (sp_bad_member K a.C_Council a.C_NoMember) := by
  refine T.F_refuse_no_member.okX sc_refuse_no_member (fun vs H Q E h => ?_) (fun cdv A outer s H vs Q E hr h => ?_)
  · obtain ⟨p, n, tb, v, t, rfl, _⟩ := h; rfl
  obtain ⟨p, n, tb, v, t, rfl, c, ty, hw, k⟩ := h
  refine ⟨_, (pss_one (ps_if (pt_not (pt_val (pe_call (okv_is_member T) hr rfl T.m_is_member T.F_is_member.kp (b_is_member T) .nil pass0 (pa_cons (pv 1) (pa_cons (pe_fldK K (pv 0) rfl) pa_nil))))) (pss_one (ps_raise (EX := fun H' => E (.ref a.C_NoMember) none H') rfl rfl T.m_NoMember T.x_NoMember.ex (pa_cons pe_str pa_nil) fun _ _ _ _ _ _ _ I hm ex => raise_leaves I hm ex)) pss_nil)), ?_⟩
  obtain ⟨⟨dx, tt, h1, h2⟩, n1, n5, hl⟩ := id c
  refine ⟨_, rfl, _, rfl, p, a.C_Council, dx, _, _, rfl, h1, T.cl_Council, T.n_Council_members, flds_m _ _, v, n, t, rfl, ty, fun H1 s1 => ⟨_, rfl, ?_⟩⟩
  rw [hw]
  exact iteT ⟨(by show 1 ≤ sizeLine; decide), k _ s1⟩
theorem okx_refuse_no_member {P : Program} {w : World} {K : PySem.W.Frag} {mg : Str → Option Value} {base : Heap} {a : Adr} (T : Txt K mg a) : FnOk P w K mg base (CXe P w) 3 a.a_refuse_no_member a.d_refuse_no_member ["council", "member"] (fun vs H Q E => sp_good_member a.C_Council vs H Q E ∨ sp_bad_member K a.C_Council a.C_NoMember vs H Q E) := FnOk.both (ok_refuse_no_member T) (okb_refuse_no_member T)
def sp_bad_stands (K : PySem.W.Frag) (C B : Addr) : Sp := fun vs H Q E => ∃ (p : Addr) (n : Nat) (tb : List Bool) (v u : V) (t : String), vs = [.ref p, v, u] ∧ CAt C H p n tb ∧
  ((TyOf K H v (.type t) ∧ whB ((n : Int) - 1) v = false) ∨ ((∃ m : Int, v = .int m ∧ 0 ≤ m ∧ m < n) ∧ TyOf K H u (.type t) ∧ whB ((n : Int) - 1) u = false)) ∧ ∀ H', Same H H' → E (.ref B) none H'
theorem okx_stands {P : Program} {w : World} {K : PySem.W.Frag} {mg : Str → Option Value} {base : Heap} {a : Adr} (T : Txt K mg a) : FnOk P w K mg base (CXe P w) 6 a.a_stands a.d_stands ["council", "one", "other"] (sp_bad_stands K a.C_Council a.C_NoMember) := by
  refine T.F_stands.okX sc_stands (fun vs H Q E h => ?_) (fun cdv A outer s H vs Q E hr h => ?_)
  · obtain ⟨p, n, tb, v, u, t, rfl, _⟩ := h; rfl
  obtain ⟨p, n, tb, v, u, t, rfl, c, hb, k⟩ := h
  refine ⟨_, (pss_cons (ps_expr (pe_call (okx_refuse_no_member T) (hr.mono (by decide)) rfl T.m_refuse_no_member T.F_refuse_no_member.kp (b_refuse_no_member T) .nil passes_on (pa_cons (pv 0) (pa_cons (pv 1) pa_nil))))
      (pss_cons (ps_expr (pe_call (okx_refuse_no_member T) (hr.mono (by decide)) rfl T.m_refuse_no_member T.F_refuse_no_member.kp (b_refuse_no_member T) .nil passes_on (pa_cons (pv 0) (pa_cons (pv 2) pa_nil))))
      (pss_one (ps_ret (pe_cmpR op_eq (pe_callB (call_lenK K) rfl T.z_len PySem.boot_len (pa_cons (pe_call (ok_groups_apart T) hr rfl T.m_groups_apart T.F_groups_apart.kp (b_groups_apart T) .nil pass0 (pa_cons (pv 0) (pa_cons (pv 2) (pa_cons (pv 1) pa_nil)))) pa_nil)) pe_int (nomark _)))))), ?_⟩
  rcases hb with ⟨ty, hw⟩ | ⟨⟨m, rfl, m0, m1⟩, ty, hw⟩
  · exact ⟨_, rfl, _, rfl, .inr ⟨p, n, tb, v, t, rfl, c, ty, hw, k⟩⟩
  · refine ⟨_, rfl, _, rfl, .inl ⟨p, n, tb, m, rfl, c, m0, m1, fun H1 s1 => ?_⟩⟩
    exact ⟨_, rfl, _, rfl, .inr ⟨p, n, tb, u, t, rfl, c.same s1, ty.same s1, hw, fun H2 s2 => k H2 (s1.trans s2)⟩⟩
/-! ### weights -/
def BadW (K : PySem.W.Frag) (H : Hp) (w q : V) : Prop := (∃ t : String, TyOf K H w (.type t) ∧ isiB t "list" = false) ∨
  (∃ (l : Addr) (xs : List V), w = .ref l ∧ H l = some (.lst xs) ∧ (xs.length = 0 ∨ 5 < xs.length)) ∨
  (∃ (l : Addr) (xs : List V), w = .ref l ∧ H l = some (.lst xs) ∧ 1 ≤ xs.length ∧ xs.length ≤ 5 ∧ (∀ x ∈ xs, ∃ t, TyOf K H x (.type t)) ∧ ((xs.map (whB 1000000)).all id = false ∨ ∃ t : String, TyOf K H q (.type t) ∧ whB 5000001 q = false))
def sp_bad_weights (K : PySem.W.Frag) (B : Addr) : Sp := fun vs H Q E => ∃ w q : V, vs = [w, q] ∧ BadW K H w q ∧ ∀ H', Same H H' → E (.ref B) none H'
theorem okx_refuse_bad_weights {P : Program} {w : World} {K : PySem.W.Frag} {mg : Str → Option Value} {base : Heap} {a : Adr} (T : Txt K mg a) : FnOk P w K mg base (CXe P w) 2 a.a_refuse_bad_weights a.d_refuse_bad_weights ["weights", "quota"] (sp_bad_weights K a.C_BadWeights) := by
  refine T.F_refuse_bad_weights.okX sc_refuse_bad_weights (fun vs H Q E h => ?_) (fun cdv A outer s H vs Q E hr h => ?_)
  · obtain ⟨w, q, rfl, _⟩ := h; rfl
  obtain ⟨w, q, rfl, hb, k⟩ := h
  refine ⟨_, (pss_cons (ps_if (PW.pt (pw_or (pt_not (pt_val (pe_callB (call_isiK K) rfl T.z_isinstance PyProof.Rows.boot_isinstance (pa_cons (pv 0) (pa_cons (pe_bltn (v := .ty "list") rfl T.z_list PyProof.Rows.boot_list rfl) pa_nil))))) (pw_or1 (pt_not (pt_chain op_le op_le pe_int (pe_callB (call_lenK K) rfl T.z_len PySem.boot_len (pa_cons (pv 0) pa_nil)) (pe_glob (v := .int 5) rfl T.g_MOST_MEMBERS ⟨_, rfl⟩)))))) (pss_one (ps_raise (EX := fun H' => E (.ref a.C_BadWeights) none H') rfl rfl T.m_BadWeights T.x_BadWeights.ex (pa_cons pe_str pa_nil) fun _ _ _ _ _ _ _ I hm ex => raise_leaves I hm ex)) pss_nil)
      (pss_cons (ps_if (pt_not (pt_val (pe_callB (call_allK K rfl) rfl T.z_all PyProof.Rows.boot_all (pa_cons (pe_lc rfl (lcOk_of (S := defScope s_refuse_bad_weights) (N := ["weights", "quota"]) (M := ["weights", "quota", "weight"]) (by decide +kernel)) (pi_listK K (pv 0)) (fun _ _ _ _ => (pg_name (i := 2) (show List.Nodup (["weights", "quota", "weight"] : List Str) by decide +kernel) rfl (by first | exact Or.inl rfl | exact Or.inr rfl))) (fun _ _ _ _ => pifs_nil) (fun _ _ _ _ => (pe_call (okv_is_whole T) hr rfl T.m_is_whole T.F_is_whole.kp (b_is_whole T) .nil pass0 (pa_cons (pv 2) (pa_cons (pe_glob (v := .int 1000000) rfl T.g_MOST_WEIGHT ⟨_, rfl⟩) pa_nil))))) pa_nil)))) (pss_one (ps_raise (EX := fun H' => E (.ref a.C_BadWeights) none H') rfl rfl T.m_BadWeights T.x_BadWeights.ex (pa_cons pe_str pa_nil) fun _ _ _ _ _ _ _ I hm ex => raise_leaves I hm ex)) pss_nil)
      (pss_one (ps_if (pt_not (pt_val (pe_call (okv_is_whole T) hr rfl T.m_is_whole T.F_is_whole.kp (b_is_whole T) .nil pass0 (pa_cons (pv 1) (pa_cons (pe_glob (v := .int 5000001) rfl T.g_MOST_QUOTA ⟨_, rfl⟩) pa_nil))))) (pss_one (ps_raise (EX := fun H' => E (.ref a.C_BadWeights) none H') rfl rfl T.m_BadWeights T.x_BadWeights.ex (pa_cons pe_str pa_nil) fun _ _ _ _ _ _ _ I hm ex => raise_leaves I hm ex)) pss_nil)))), ?_⟩
  have one : (1 : Nat) ≤ sizeLine := by decide
  rcases hb with ⟨t, ty, h⟩ | ⟨l, xs, rfl, hl, h⟩ | ⟨l, xs, rfl, hl, x1, x5, ty, h⟩
  · exact ⟨_, rfl, _, t, "list", false, rfl, ty, .inr (.inr rfl), h, false, rfl, iteT (iteT ⟨one, k _ (Same.refl _)⟩)⟩
  · refine ⟨_, rfl, _, "list", "list", true, rfl, .lst hl, .inr (.inr rfl), isi_ll, true, rfl, iteF ?_⟩
    refine ⟨_, rfl, l, _, rfl, .inl (SqL.of hl), _, _, rfl, rfl, _, rfl, ?_⟩
    rcases h with h | h
    · refine ite_f (decide_eq_false (by omega)) ?_
      exact ⟨_, rfl, iteT ⟨one, k _ (Same.refl _)⟩⟩
    · refine ite_t (decide_eq_true (by omega)) ?_
      refine ⟨_, _, rfl, rfl, _, rfl, ?_⟩
      exact ite_t (by rw [decide_eq_false (by omega)]; rfl) ⟨one, k _ (Same.refl _)⟩
  · refine ⟨_, rfl, _, "list", "list", true, rfl, .lst hl, .inr (.inr rfl), isi_ll, true, rfl, iteF ?_⟩
    refine ⟨_, rfl, l, _, rfl, .inl (SqL.of hl), _, _, rfl, rfl, _, rfl, ?_⟩
    refine ite_t (decide_eq_true (by omega)) ?_
    refine ⟨_, _, rfl, rfl, _, rfl, ?_⟩
    refine ite_f (by rw [decide_eq_true (by omega)]; rfl) ?_
    refine ⟨_, rfl, l, rfl, ⟨_, SqL.of hl⟩, ?_⟩
    refine lcB_list rfl (SqL.of hl) (by omega) (fun _ => true) (fun x => .bl (whB 1000000 x)) (fun x hx H2 h2 R q => q H2 (Same.refl _)) (fun x hx _ H2 h2 R q => ?_) fun H2 D h2 hD => ?_
    · obtain ⟨t, tx⟩ := ty x hx
      exact ⟨_, rfl, x, _, t, rfl, tx.same h2, fun H3 h3 => q H3 h3⟩
    · refine ⟨D, xs.map (whB 1000000), rfl, SqL.of ?_, _, rfl, ?_⟩
      · rw [upd_same, List.filter_eq_self.mpr (fun _ _ => rfl), List.map_map]
        rfl
      · have s2 := h2.trans (same_new hD (.lst ((xs.filter fun _ => true).map fun x => .bl (whB 1000000 x))))
        cases hall : (xs.map (whB 1000000)).all id with
        | false => exact iteT ⟨one, k _ s2⟩
        | true =>
          rcases h with h | ⟨t, tq, hq⟩
          · rw [hall] at h; cases h
          · refine iteF ⟨_, rfl, q, _, t, rfl, tq.same s2, fun H3 h3 => ⟨_, rfl, ?_⟩⟩
            rw [hq]
            exact iteT ⟨one, k _ (s2.trans h3)⟩
theorem okx_weighted {P : Program} {w : World} {K : PySem.W.Frag} {mg : Str → Option Value} {base : Heap} {a : Adr} (T : Txt K mg a) : FnOk P w K mg base (CXe P w) 6 a.a_weighted a.d_weighted ["weights", "quota"] (sp_bad_weights K a.C_BadWeights) := by
  refine T.F_weighted.okX sc_weighted (fun vs H Q E h => ?_) (fun cdv A outer s H vs Q E hr h => ?_)
  · obtain ⟨w, q, rfl, _⟩ := h; rfl
  obtain ⟨w, q, rfl, hb, k⟩ := h
  refine ⟨_, (pss_cons (ps_expr (pe_call (okx_refuse_bad_weights T) (hr.mono (by decide)) rfl T.m_refuse_bad_weights T.F_refuse_bad_weights.kp (b_refuse_bad_weights T) .nil passes_on (pa_cons (pv 0) (pa_cons (pv 1) pa_nil))))
      (pss_cons (ps_set (i := 2) sc_weighted.nd rfl (by first | exact Or.inl rfl | exact Or.inr rfl) (pe_callB (call_lenK K) rfl T.z_len PySem.boot_len (pa_cons (pv 0) pa_nil)))
      (pss_cons (ps_lc (i := 3) sc_weighted.nd rfl rfl rfl (lcOk_of (S := defScope s_weighted) (N := ["weights", "quota", "members", "carrying"]) (M := ["weights", "quota", "members", "carrying", "group"]) (by decide +kernel)) (pi_listK K (pe_call (ok_groups_of T) (hr.mono (by decide)) rfl T.m_groups_of T.F_groups_of.kp (b_groups_of T) .nil pass0 (pa_cons (pv 2) pa_nil))) (fun _ _ _ _ => (pg_name (i := 4) (show List.Nodup (["weights", "quota", "members", "carrying", "group"] : List Str) by decide +kernel) rfl (by first | exact Or.inl rfl | exact Or.inr rfl))) (fun _ _ _ _ => (pifs_one (pt_cmpR op_ge (pe_call (ok_weight_of T) (hr.mono (by decide)) rfl T.m_weight_of T.F_weight_of.kp (b_weight_of T) .nil pass0 (pa_cons (pv 0) (pa_cons (pv 4) pa_nil))) (pv 1) (nomark _)))) (fun _ _ _ _ => (pv 4)))
      (pss_one (ps_ret (pe_make T.mk_Council (ok_Council_init T) hr rfl T.m_Council (b_Council_init T) .nil pass0 (pa_cons (pv 2) (pa_cons (pv 3) pa_nil)))))))), ?_⟩
  exact ⟨_, rfl, _, rfl, w, q, rfl, hb, k⟩
end Wv

set_option Elab.async false
set_option linter.all false
set_option maxRecDepth 100000
set_option maxHeartbeats 4000000

namespace Wv
open PySem L2
theorem shl_v (n : Nat) : [V.int ((1 : Int) * 2 ^ ((n : Int)).toNat)] = [V.int ((2 ^ n : Nat) : Int)] := by rw [pow_n]
/-! ## the law's own defs -/
def ScrOk (K : PySem.W.Frag) (H : Hp) (a : Addr) : Prop := ∃ ns : List Int, SqL K H a (ns.map V.int) ∧ ns.length ≤ 63
theorem ScrOk.same {K : PySem.W.Frag} {H H' : Hp} {a : Addr} (h : ScrOk K H a) (s : Same H H') : ScrOk K H' a := by
  obtain ⟨ns, h1, h2⟩ := h
  exact ⟨ns, s.seq h1, h2⟩
def sp_law_cell_at (K : PySem.W.Frag) : Sp := fun vs H Q _ => ∃ (a : Addr) (k : Int), vs = [.ref a, .int k] ∧ ScrOk K H a ∧ 0 ≤ k ∧ ∀ (r : Int) H', Same H H' → Q (.int r) H'
theorem ok_law_cell_at {P : Program} {w : World} {K : PySem.W.Frag} {mg : Str → Option Value} {base : Heap} {a : Adr} (T : Txt K mg a) : FnOk P w K mg base CX0 1 a.a_law_cell_at a.d_law_cell_at ["_law_script", "_law_k"] (sp_law_cell_at K) := by
  refine T.F_law_cell_at.ok sc_law_cell_at (fun vs H Q E h => ?_) (fun cdv A outer s H vs Q E hr h => ?_)
  · obtain ⟨a, k, rfl, _⟩ := h; rfl
  obtain ⟨a, k, rfl, ⟨ns, hS, hz⟩, k0, q⟩ := h
  refine ⟨_, (pss_cons (ps_if (pt_cmpR op_lt (pv 1) (pe_callB (call_lenK K) rfl T.z_len PySem.boot_len (pa_cons (pv 0) pa_nil)) (nomark _)) (pss_one (ps_ret (pe_ix (ix_listK K) (pv 0) (pv 1) (fun _ _ => rfl)))) pss_nil)
      (pss_one (ps_ret pe_int))), ?_⟩
  refine ⟨_, rfl, _, rfl, a, _, rfl, .inl hS, _, _, rfl, rfl, _, rfl, ?_⟩
  refine ite_b (fun c => ?_) (fun c => ?_)
  · have c' : k < (((ns.map V.int).length : Nat) : Int) := of_decide_eq_true c
    rw [List.length_map] at c'
    have hk : k.toNat < ns.length := by omega
    have ek : ((k.toNat : Nat) : Int) = k := by omega
    have z : atI (ns.map V.int) ((k.toNat : Nat) : Int) = some (.int ns[k.toNat]) := atI_nat (by rw [List.getElem?_map, List.getElem?_eq_getElem hk]; rfl)
    rw [ek] at z
    exact ⟨_, rfl, _, rfl, a, _, _, _, rfl, rfl, hS, z, q _ H (Same.refl _)⟩
  · exact q 0 H (Same.refl _)
def sp_law_draw : Sp := fun vs H Q _ => ∃ c k m : Int, vs = [.int c, .int k, .int m] ∧ 0 < m ∧ ∀ (r : Int) H', 0 ≤ r → r < m → Same H H' → Q (.int r) H'
theorem prime_at (k : Int) : ∃ p : Int, 0 < p ∧ atI [V.int 1000003, .int 1000033, .int 1000037, .int 1000039, .int 1000081, .int 1000099, .int 1000117, .int 1000121] (k % 8) = some (.int p) := by
  have h0 := Int.emod_nonneg k (show (8 : Int) ≠ 0 by decide)
  have h1 := Int.emod_lt_of_pos k (show (0 : Int) < 8 by decide)
  generalize k % 8 = j at h0 h1
  have e : ((j.toNat : Nat) : Int) = j := by omega
  rw [← e]
  have h2 : j.toNat < 8 := by omega
  generalize j.toNat = i at h2
  match i, h2 with
  | 0, _ => exact ⟨_, by decide, atI_nat rfl⟩
  | 1, _ => exact ⟨_, by decide, atI_nat rfl⟩
  | 2, _ => exact ⟨_, by decide, atI_nat rfl⟩
  | 3, _ => exact ⟨_, by decide, atI_nat rfl⟩
  | 4, _ => exact ⟨_, by decide, atI_nat rfl⟩
  | 5, _ => exact ⟨_, by decide, atI_nat rfl⟩
  | 6, _ => exact ⟨_, by decide, atI_nat rfl⟩
  | 7, _ => exact ⟨_, by decide, atI_nat rfl⟩
def ToldAt (H : Hp) (t : Addr) (n : Nat) (l : Addr) (gs : List Int) : Prop := H t = some (.tup [.int (n : Int), .ref l]) ∧ H l = some (.lst (gs.map V.int)) ∧ 1 ≤ n ∧ n ≤ 5 ∧ gs.length ≤ 40 ∧ ∀ g ∈ gs, 0 ≤ g ∧ g < ((2 ^ n : Nat) : Int)
def sp_law_told (K : PySem.W.Frag) : Sp := fun vs H Q _ => ∃ (a : Addr) (k : Int), vs = [.ref a, .int k] ∧ ScrOk K H a ∧ 0 ≤ k ∧ ∀ t n l gs H', H t = none → H l = none → Same H H' → ToldAt H' t n l gs → Q (.ref t) H'
theorem memb_at (k : Int) : ∃ n : Nat, 1 ≤ n ∧ n ≤ 5 ∧ atI [V.int 3, .int 4, .int 5, .int 4, .int 2, .int 5, .int 1] (k % 7) = some (.int (n : Int)) := by
  have h0 := Int.emod_nonneg k (show (7 : Int) ≠ 0 by decide)
  have h1 := Int.emod_lt_of_pos k (show (0 : Int) < 7 by decide)
  generalize k % 7 = j at h0 h1
  have e : ((j.toNat : Nat) : Int) = j := by omega
  rw [← e]
  have h2 : j.toNat < 7 := by omega
  generalize j.toNat = i at h2
  match i, h2 with
  | 0, _ => exact ⟨3, by decide, by decide, atI_nat rfl⟩
  | 1, _ => exact ⟨4, by decide, by decide, atI_nat rfl⟩
  | 2, _ => exact ⟨5, by decide, by decide, atI_nat rfl⟩
  | 3, _ => exact ⟨4, by decide, by decide, atI_nat rfl⟩
  | 4, _ => exact ⟨2, by decide, by decide, atI_nat rfl⟩
  | 5, _ => exact ⟨5, by decide, by decide, atI_nat rfl⟩
  | 6, _ => exact ⟨1, by decide, by decide, atI_nat rfl⟩
theorem or_range : ∀ n : Fin 6, ∀ x : Fin 32, ∀ y : Fin 32, ∀ m : Fin 5, x.val < 2 ^ n.val → y.val < 2 ^ n.val → m.val < n.val →
    (0 ≤ Builtin.bitOr (Builtin.bitAnd x.val y.val) (1 * 2 ^ ((m.val : Int)).toNat) ∧ Builtin.bitOr (Builtin.bitAnd x.val y.val) (1 * 2 ^ ((m.val : Int)).toNat) < ((2 ^ n.val : Nat) : Int)) := by decide +kernel
theorem or_ok {n : Nat} (hn : n ≤ 5) {x y m : Int} (x0 : 0 ≤ x) (x1 : x < ((2 ^ n : Nat) : Int)) (y0 : 0 ≤ y) (y1 : y < ((2 ^ n : Nat) : Int)) (m0 : 0 ≤ m) (m1 : m < n) :
    0 ≤ Builtin.bitOr (Builtin.bitAnd x y) (1 * 2 ^ m.toNat) ∧ Builtin.bitOr (Builtin.bitAnd x y) (1 * 2 ^ m.toNat) < ((2 ^ n : Nat) : Int) := by
  have h5 := two_le hn
  have e1 : ((x.toNat : Nat) : Int) = x := by omega
  have e2 : ((y.toNat : Nat) : Int) = y := by omega
  have e3 : ((m.toNat : Nat) : Int) = m := by omega
  have q := or_range ⟨n, by omega⟩ ⟨x.toNat, by omega⟩ ⟨y.toNat, by omega⟩ ⟨m.toNat, by omega⟩ (by show x.toNat < 2 ^ n; omega) (by show y.toNat < 2 ^ n; omega) (by show m.toNat < n; omega)
  simp only [e1, e2, e3] at q
  exact q
theorem sum_nonneg {ws : List Int} {b : Int} (h : ∀ w ∈ ws, 0 ≤ w ∧ w < b) : 0 ≤ ws.sum := by
  induction ws with
  | nil => exact Int.le_refl _
  | cons w r ih =>
    rw [List.sum_cons]
    have := h w List.mem_cons_self
    have := ih fun x hx => h x (List.mem_cons_of_mem _ hx)
    omega
theorem get_ws {ws : List Int} {x : Int} {n : Nat} (hl : ws.length = n) (x0 : 0 ≤ x) (x1 : x < (n : Int)) : atI (ws.map V.int) x = some (.int (ws.getD x.toNat 0)) := by
  have hk : x.toNat < ws.length := by omega
  have ek : ((x.toNat : Nat) : Int) = x := by omega
  have z : atI (ws.map V.int) ((x.toNat : Nat) : Int) = some (.int (ws.getD x.toNat 0)) := atI_nat (by rw [List.getElem?_map, List.getD_eq_getElem?_getD, List.getElem?_eq_getElem hk]; rfl)
  rw [ek] at z
  exact z
def sp_law_table : Sp := fun vs H Q _ => ∃ (t : Addr) (n : Nat) (l : Addr) (gs : List Int), vs = [.ref t] ∧ ToldAt H t n l gs ∧ ∀ r H', H r = none → Same H H' → H' r = some (.lst ((tabOf n gs).map V.bl)) → Q (.ref r) H'
theorem ToldAt.same {H H' : Hp} {t : Addr} {n : Nat} {l : Addr} {gs : List Int} (h : ToldAt H t n l gs) (s : Same H H') : ToldAt H' t n l gs := ⟨s _ _ h.1, s _ _ h.2.1, h.2.2⟩
def sp_law_groups : Sp := fun vs H Q _ => ∃ (p q : Addr) (ns : List Int), vs = [.ref p, .ref q] ∧ H p = some (.lst (ns.map V.int)) ∧ H q = some (.lst (ns.map V.int)) ∧ ns.length ≤ 1000 ∧ ∀ H', Same H H' → Q (.bl true) H'
def sp_law_least : Sp := fun vs H Q _ => ∃ (l : Addr) (n : Nat) (tb : List Bool), vs = [.ref l, .int n] ∧ H l = some (.lst (tb.map V.bl)) ∧ n ≤ 5 ∧ tb.length = 2 ^ n ∧ ∀ r H', H r = none → Same H H' → H' r = some (.lst ((leastBy (fun g m => Builtin.bitXor g (1 * 2 ^ m.toNat)) n tb).map V.int)) → Q (.ref r) H'
def sp_law_greatest : Sp := fun vs H Q _ => ∃ (l : Addr) (n : Nat) (tb : List Bool), vs = [.ref l, .int n] ∧ H l = some (.lst (tb.map V.bl)) ∧ n ≤ 5 ∧ tb.length = 2 ^ n ∧ ∀ r H', H r = none → Same H H' → H' r = some (.lst ((greatBy (fun g m => Builtin.bitOr g (1 * 2 ^ m.toNat)) n tb).map V.int)) → Q (.ref r) H'
def sp_law_is (C : Addr) : Sp := fun vs H Q _ => ∃ (p : Addr) (n : Nat) (l : Addr) (tb : List Bool), vs = [.ref p, .int n, .ref l] ∧ CAt C H p n tb ∧ H l = some (.lst (tb.map V.bl)) ∧ ∀ H', Same H H' → Q (.bl true) H'
def sp_law (K : PySem.W.Frag) : Sp := fun vs H Q _ => ∃ (a : Addr) (ns : List Int), vs = [.ref a] ∧ SqL K H a (ns.map V.int) ∧ ns.length ≤ 63 ∧ ∀ H', Q (.bl true) H'
end Wv
namespace Wv
open PySem L2
/-! ## which error it is -/
def SortOf (a : Adr) (C : Addr) (w : Str) : Prop := (C = a.C_BadCouncil ∧ w = "council") ∨ (C = a.C_BadGroup ∧ w = "group") ∨ (C = a.C_NoMember ∧ w = "member") ∨ (C = a.C_BadWeights ∧ w = "weights")
theorem sort_facts {K : PySem.W.Frag} {mg : Str → Option Value} {a : Adr} (T : Txt K mg a) {C : Addr} {w : Str} (h : SortOf a C w) :
    XCls K C ∧ PySem.W.mroIn K C (.ref a.C_CouncilError) = some true ∧ ∃ b1 b2 b3 b4 : Bool, PySem.W.kitOne K (.ref C) (.ref a.C_BadCouncil) = some b1 ∧ PySem.W.kitOne K (.ref C) (.ref a.C_BadGroup) = some b2 ∧ PySem.W.kitOne K (.ref C) (.ref a.C_NoMember) = some b3 ∧ PySem.W.kitOne K (.ref C) (.ref a.C_BadWeights) = some b4 ∧
      PySem.W.kitOne K (.ref C) (.ref a.C_Unlike) = some false ∧ PySem.W.kitOne K (.ref C) (.ref a.C_BadText) = some false ∧ PySem.W.kitOne K (.ref C) (.type "ValueError") = some true ∧
      ((b1 = true ∧ b2 = false ∧ b3 = false ∧ b4 = false ∧ w = "council") ∨ (b1 = false ∧ b2 = true ∧ b3 = false ∧ b4 = false ∧ w = "group") ∨ (b1 = false ∧ b2 = false ∧ b3 = true ∧ b4 = false ∧ w = "member") ∨ (b1 = false ∧ b2 = false ∧ b3 = false ∧ b4 = true ∧ w = "weights")) := by
  rcases h with ⟨rfl, rfl⟩ | ⟨rfl, rfl⟩ | ⟨rfl, rfl⟩ | ⟨rfl, rfl⟩
  · exact ⟨T.x_BadCouncil, T.su_BadCouncil_CouncilError, _, _, _, _, T.ki_BadCouncil_BadCouncil, T.ki_BadCouncil_BadGroup, T.ki_BadCouncil_NoMember, T.ki_BadCouncil_BadWeights, T.ki_BadCouncil_Unlike, T.ki_BadCouncil_BadText, T.ki_BadCouncil_ValueError, .inl ⟨rfl, rfl, rfl, rfl, rfl⟩⟩
  · exact ⟨T.x_BadGroup, T.su_BadGroup_CouncilError, _, _, _, _, T.ki_BadGroup_BadCouncil, T.ki_BadGroup_BadGroup, T.ki_BadGroup_NoMember, T.ki_BadGroup_BadWeights, T.ki_BadGroup_Unlike, T.ki_BadGroup_BadText, T.ki_BadGroup_ValueError, .inr (.inl ⟨rfl, rfl, rfl, rfl, rfl⟩)⟩
  · exact ⟨T.x_NoMember, T.su_NoMember_CouncilError, _, _, _, _, T.ki_NoMember_BadCouncil, T.ki_NoMember_BadGroup, T.ki_NoMember_NoMember, T.ki_NoMember_BadWeights, T.ki_NoMember_Unlike, T.ki_NoMember_BadText, T.ki_NoMember_ValueError, .inr (.inr (.inl ⟨rfl, rfl, rfl, rfl, rfl⟩))⟩
  · exact ⟨T.x_BadWeights, T.su_BadWeights_CouncilError, _, _, _, _, T.ki_BadWeights_BadCouncil, T.ki_BadWeights_BadGroup, T.ki_BadWeights_NoMember, T.ki_BadWeights_BadWeights, T.ki_BadWeights_Unlike, T.ki_BadWeights_BadText, T.ki_BadWeights_ValueError, .inr (.inr (.inr ⟨rfl, rfl, rfl, rfl, rfl⟩))⟩
def sp_law_sort (a : Adr) : Sp := fun vs H Q _ => ∃ (ea C : Addr) (w : Str), vs = [.ref ea] ∧ H ea = some (excO ea C) ∧ SortOf a C w ∧ ∀ H', Same H H' → Q (.str w) H'
theorem okh_law_sort {P : Program} {w : World} {K : PySem.W.Frag} {mg : Str → Option Value} {base : Heap} {a : Adr} (T : Txt K mg a) : FnOkH P w K mg base (CXe P w) 1 a.a_law_sort a.d_law_sort ["_law_error"] (sp_law_sort a) := by
  refine T.F_law_sort.okH sc_law_sort (fun vs H Q E h => ?_) (fun cdv A outer s H vs Q E hr h => ?_)
  · obtain ⟨ea, C, w, rfl, _⟩ := h; rfl
  obtain ⟨ea, C, w, rfl, he, hs, k⟩ := h
  refine ⟨_, (pss_cons (ps_set (i := 1) sc_law_sort.nd rfl (by first | exact Or.inl rfl | exact Or.inr rfl) (pe_lst (pa_cons (pe_callB (call_isX K) rfl T.z_isinstance PyProof.Rows.boot_isinstance (pa_cons (pv 0) (pa_cons (pe_glob (v := .ref a.C_BadCouncil) rfl T.m_BadCouncil rfl) pa_nil))) (pa_cons (pe_callB (call_isX K) rfl T.z_isinstance PyProof.Rows.boot_isinstance (pa_cons (pv 0) (pa_cons (pe_glob (v := .ref a.C_BadGroup) rfl T.m_BadGroup rfl) pa_nil))) (pa_cons (pe_callB (call_isX K) rfl T.z_isinstance PyProof.Rows.boot_isinstance (pa_cons (pv 0) (pa_cons (pe_glob (v := .ref a.C_NoMember) rfl T.m_NoMember rfl) pa_nil))) pa_nil)))))
      (pss_cons (ps_set (i := 1) sc_law_sort.nd rfl (by first | exact Or.inl rfl | exact Or.inr rfl) (pe_op op_cat (pv 1) (pe_lst (pa_cons (pe_callB (call_isX K) rfl T.z_isinstance PyProof.Rows.boot_isinstance (pa_cons (pv 0) (pa_cons (pe_glob (v := .ref a.C_BadWeights) rfl T.m_BadWeights rfl) pa_nil))) (pa_cons (pe_callB (call_isX K) rfl T.z_isinstance PyProof.Rows.boot_isinstance (pa_cons (pv 0) (pa_cons (pe_glob (v := .ref a.C_Unlike) rfl T.m_Unlike rfl) pa_nil))) (pa_cons (pe_callB (call_isX K) rfl T.z_isinstance PyProof.Rows.boot_isinstance (pa_cons (pv 0) (pa_cons (pe_glob (v := .ref a.C_BadText) rfl T.m_BadText rfl) pa_nil))) pa_nil))))))
      (pss_cons (ps_if (PW.pt (pw_or (pt_cmpR op_ne (pe_bm PySem.F.plainAttrs_list PySem.F.slot_list_count PySem.F.type_list_count (mt_countF K) (pv 1) (pa_cons pe_bl pa_nil)) pe_int (nomark _)) (pw_or1 (pt_not (pt_val (pe_callB (call_isX K) rfl T.z_isinstance PyProof.Rows.boot_isinstance (pa_cons (pv 0) (pa_cons (pe_bltn (v := .ty "ValueError") rfl T.z_ValueError boot_ValueErr rfl) pa_nil)))))))) (pss_one (ps_ret pe_str)) pss_nil)
      (pss_one (ps_ret (pe_ix (ix_listK K) (pe_lst (pa_cons pe_str (pa_cons pe_str (pa_cons pe_str (pa_cons pe_str (pa_cons pe_str (pa_cons pe_str pa_nil))))))) (pe_bm PySem.F.plainAttrs_list PySem.F.slot_list_index PySem.F.type_list_index (mt_index K) (pv 1) (pa_cons pe_bl pa_nil)) (fun _ _ => rfl))))))), ?_⟩
  obtain ⟨xC, _, b1, b2, b3, b4, k1, k2, k3, k4, k5, k6, kv, comb⟩ := sort_facts T hs
  refine ⟨_, rfl, ea, _, _, _, rfl, he, xC, .inl ⟨_, rfl, k1⟩, ?_⟩
  refine ⟨_, rfl, ea, _, _, _, rfl, he, xC, .inl ⟨_, rfl, k2⟩, ?_⟩
  refine ⟨_, rfl, ea, _, _, _, rfl, he, xC, .inl ⟨_, rfl, k3⟩, ?_⟩
  refine ⟨(by show 3 ≤ sizeLine; decide), fun l1 nl1 => ?_⟩
  have s1 := same_new nl1 (.lst [V.bl b1, .bl b2, .bl b3])
  have hl1 : upd H l1 (.lst [V.bl b1, .bl b2, .bl b3]) l1 = some (.lst [V.bl b1, .bl b2, .bl b3]) := upd_same
  generalize upd H l1 (.lst [V.bl b1, .bl b2, .bl b3]) = H1 at s1 hl1
  refine ⟨_, rfl, _, rfl, ea, _, _, _, rfl, s1 _ _ he, xC, .inl ⟨_, rfl, k4⟩, ?_⟩
  refine ⟨_, rfl, ea, _, _, _, rfl, s1 _ _ he, xC, .inl ⟨_, rfl, k5⟩, ?_⟩
  refine ⟨_, rfl, ea, _, _, _, rfl, s1 _ _ he, xC, .inl ⟨_, rfl, k6⟩, ?_⟩
  refine ⟨(by show 3 ≤ sizeLine; decide), fun l2 nl2 => ?_⟩
  have s2 := same_new nl2 (.lst [V.bl b4, .bl false, .bl false])
  have hl2 : upd H1 l2 (.lst [V.bl b4, .bl false, .bl false]) l2 = some (.lst [V.bl b4, .bl false, .bl false]) := upd_same
  generalize upd H1 l2 (.lst [V.bl b4, .bl false, .bl false]) = H2 at s2 hl2
  refine ⟨l1, l2, _, _, rfl, rfl, s2 _ _ hl1, hl2, (by show 6 ≤ sizeLine; decide), fun l3 nl3 => ?_⟩
  have s3 := same_new nl3 (.lst ([V.bl b1, .bl b2, .bl b3] ++ [V.bl b4, .bl false, .bl false]))
  have hl3 : upd H2 l3 (.lst ([V.bl b1, .bl b2, .bl b3] ++ [V.bl b4, .bl false, .bl false])) l3 = some (.lst [V.bl b1, .bl b2, .bl b3, V.bl b4, .bl false, .bl false]) := upd_same
  generalize upd H2 l3 (.lst ([V.bl b1, .bl b2, .bl b3] ++ [V.bl b4, .bl false, .bl false])) = H3 at s3 hl3
  have s03 := s1.trans (s2.trans s3)
  refine ⟨_, rfl, .inl ⟨rfl, _, SqL.of hl3⟩, l3, _, _, rfl, rfl, SqL.of hl3, rfl, rfl, rfl, _, rfl, ?_⟩
  have hone : ([V.bl b1, .bl b2, .bl b3, V.bl b4, .bl false, .bl false].countP fun z => eqV z (.bl true)) = 1 := by
    rcases comb with ⟨rfl, rfl, rfl, rfl, _⟩ | ⟨rfl, rfl, rfl, rfl, _⟩ | ⟨rfl, rfl, rfl, rfl, _⟩ | ⟨rfl, rfl, rfl, rfl, _⟩ <;> rfl
  rw [hone]
  refine ite_f (by rw [decide_eq_true (show V.int ((1 : Nat) : Int) = V.int 1 from rfl)]; rfl) ?_
  refine ⟨_, rfl, ea, _, _, _, rfl, s03 _ _ he, xC, .inr ⟨_, rfl, kv⟩, _, rfl, iteF ?_⟩
  refine ⟨(by show 6 ≤ sizeLine; decide), fun l4 nl4 => ?_⟩
  have s4 := same_new nl4 (.lst [V.str "council", .str "group", .str "member", .str "weights", .str "wrong", .str "wrong"])
  have hl4 : upd H3 l4 (.lst [V.str "council", .str "group", .str "member", .str "weights", .str "wrong", .str "wrong"]) l4 = some (.lst [V.str "council", .str "group", .str "member", .str "weights", .str "wrong", .str "wrong"]) := upd_same
  generalize upd H3 l4 (.lst [V.str "council", .str "group", .str "member", .str "weights", .str "wrong", .str "wrong"]) = H4 at s4 hl4
  have fin := k H4 (s03.trans s4)
  have find : ∀ (j : Nat), j < 6 → (∀ z, [V.bl b1, .bl b2, .bl b3, V.bl b4, .bl false, .bl false][j]? = some z → eqV z (.bl true) = true) → (∀ (i : Nat) z, i < j → [V.bl b1, .bl b2, .bl b3, V.bl b4, .bl false, .bl false][i]? = some z → eqV z (.bl true) = false) →
      [V.str "council", .str "group", .str "member", .str "weights", .str "wrong", .str "wrong"][j]? = some (.str w) → ∃ j' : Nat, rIndex K (.ref l3) [.bl true] H4 fun v H' => v = .int (j' : Int) ∧ H' = H4 ∧ [V.str "council", .str "group", .str "member", .str "weights", .str "wrong", .str "wrong"][j']? = some (.str w) := fun j hj h1 h2 h3 =>
    ⟨j, l3, _, _, j, rfl, rfl, SqL.of (s4 _ _ hl3), rfl, rfl, hj, (by show 6 ≤ 1000; decide), h1, h2, rfl, rfl, h3⟩
  have fd : ∃ j' : Nat, rIndex K (.ref l3) [.bl true] H4 fun v H' => v = .int (j' : Int) ∧ H' = H4 ∧ [V.str "council", .str "group", .str "member", .str "weights", .str "wrong", .str "wrong"][j']? = some (.str w) := by
    rcases comb with ⟨rfl, rfl, rfl, rfl, rfl⟩ | ⟨rfl, rfl, rfl, rfl, rfl⟩ | ⟨rfl, rfl, rfl, rfl, rfl⟩ | ⟨rfl, rfl, rfl, rfl, rfl⟩
    · exact find 0 (by decide) (fun z hz => by cases hz; rfl) (fun i z hi _ => by omega) rfl
    · refine find 1 (by decide) (fun z hz => by cases hz; rfl) (fun i z hi hz => ?_) rfl
      match i, hi, hz with
      | 0, _, hz => cases hz; rfl
    · refine find 2 (by decide) (fun z hz => by cases hz; rfl) (fun i z hi hz => ?_) rfl
      match i, hi, hz with
      | 0, _, hz => cases hz; rfl
      | 1, _, hz => cases hz; rfl
    · refine find 3 (by decide) (fun z hz => by cases hz; rfl) (fun i z hi hz => ?_) rfl
      match i, hi, hz with
      | 0, _, hz => cases hz; rfl
      | 1, _, hz => cases hz; rfl
      | 2, _, hz => cases hz; rfl
  obtain ⟨j', l', xs', y', jj, e1, e2, hS, f1, f2, hj, hz, hit, hno, e3, _, hat⟩ := fd
  refine ⟨_, rfl, .inl ⟨rfl, _, SqL.of (s4 _ _ hl3)⟩, l', xs', y', jj, e1, e2, hS, f1, f2, hj, hz, hit, hno, ?_⟩
  have e4 : jj = j' := by have := V.int.inj e3; omega
  subst e4
  exact ⟨l4, _, _, _, rfl, rfl, SqL.of hl4, atI_nat hat, fin⟩
/-! ## what is asked -/
def Asked (K : PySem.W.Frag) (H : Hp) (d : Int) (v u : V) (w : Str) : Prop :=
  (d = 0 ∧ BadC K H v u ∧ w = "council") ∨ (d = 1 ∧ (∃ t, TyOf K H v (.type t)) ∧ whB 7 v = false ∧ w = "group") ∨
  (d = 2 ∧ (((∃ t, TyOf K H v (.type t)) ∧ whB 2 v = false) ∨ ((∃ m : Int, v = .int m ∧ 0 ≤ m ∧ m < 3) ∧ (∃ t, TyOf K H u (.type t)) ∧ whB 2 u = false)) ∧ w = "member") ∨ (d = 3 ∧ BadW K H v u ∧ w = "weights")
def sp_law_asked (K : PySem.W.Frag) : Sp := fun vs H Q _ => ∃ (d : Int) (v u : V) (w : Str), vs = [.int d, v, u] ∧ Asked K H d v u w ∧ ∀ H', Same H H' → Q (.str w) H'
theorem three : GrpOk 3 [3] := ⟨by decide, fun g hg => by have e : g = 3 := (by simpa using hg); subst e; decide⟩
theorem BadW.same {K : PySem.W.Frag} {H H' : Hp} {w q : V} (h : BadW K H w q) (s : Same H H') : BadW K H' w q := by
  rcases h with ⟨t, ty, h⟩ | ⟨l, xs, e, hl, h⟩ | ⟨l, xs, e, hl, x1, x5, ty, h⟩
  · exact .inl ⟨t, ty.same s, h⟩
  · exact .inr (.inl ⟨l, xs, e, s _ _ hl, h⟩)
  · refine .inr (.inr ⟨l, xs, e, s _ _ hl, x1, x5, fun x hx => let ⟨t, q⟩ := ty x hx; ⟨t, q.same s⟩, ?_⟩)
    rcases h with h | ⟨t, tq, h⟩
    · exact .inl h
    · exact .inr ⟨t, tq.same s, h⟩
theorem okx_law_asked {P : Program} {w : World} {K : PySem.W.Frag} {mg : Str → Option Value} {base : Heap} {a : Adr} (T : Txt K mg a) : FnOk P w K mg base (CXe P w) 7 a.a_law_asked a.d_law_asked ["_law_door", "_law_one", "_law_other"] (sp_law_asked K) := by
  refine T.F_law_asked.okX sc_law_asked (fun vs H Q E h => ?_) (fun cdv A outer s H vs Q E hr h => ?_)
  · obtain ⟨d, v, u, w, rfl, _⟩ := h; rfl
  obtain ⟨d, v, u, w, rfl, hA, k⟩ := h
  refine ⟨_, (pss_cons (ps_try (i := 3) rfl rfl rfl rfl T.m_CouncilError T.x_CouncilError sc_law_asked.nd rfl rfl (fun pn xe Eh hpass => (pss_one (ps_if (pt_cmpR op_eq (pv 0) pe_int (nomark _)) (pss_one (ps_expr (pe_make T.mk_Council (okx_Council_init T) (hr.mono (by decide)) rfl T.m_Council (b_Council_init T) .nil hpass (pa_cons (pv 1) (pa_cons (pv 2) pa_nil))))) (pss_one (ps_if (pt_cmpR op_eq (pv 0) pe_int (nomark _)) (pss_one (ps_expr (pe_meth (pe_make T.mk_Council (okx_Council_init T) (hr.mono (by decide)) rfl T.m_Council (b_Council_init T) .nil hpass (pa_cons pe_int (pa_cons (pe_lst (pa_cons pe_int pa_nil)) pa_nil))) T.cl_Council T.mt_Council_carries (okx_Council_carries T) (hr.mono (by decide)) (b_Council_carries T) .nil hpass (pa_cons (pv 1) pa_nil)))) (pss_one (ps_if (pt_cmpR op_eq (pv 0) pe_int (nomark _)) (pss_one (ps_expr (pe_call (okx_stands T) hr rfl T.m_stands T.F_stands.kp (b_stands T) .nil hpass (pa_cons (pe_make T.mk_Council (okx_Council_init T) (hr.mono (by decide)) rfl T.m_Council (b_Council_init T) .nil hpass (pa_cons pe_int (pa_cons (pe_lst (pa_cons pe_int pa_nil)) pa_nil))) (pa_cons (pv 1) (pa_cons (pv 2) pa_nil)))))) (pss_one (ps_expr (pe_call (okx_weighted T) hr rfl T.m_weighted T.F_weighted.kp (b_weighted T) .nil hpass (pa_cons (pv 1) (pa_cons (pv 2) pa_nil)))))))))))) (fun ea => (pss_one (ps_ret (pe_callH (okh_law_sort T) ⟨(hr.mono (j := 1) (by decide)).dp, (hr.mono (j := 1) (by decide)).un⟩ rfl T.m_law_sort T.F_law_sort.kp (b_law_sort T) .nil passF (pa_cons (pv 3) pa_nil))))))
      (pss_one (ps_ret pe_str))), ?_⟩
  rcases hA with ⟨rfl, hb, rfl⟩ | ⟨rfl, ⟨t, ty⟩, hw, rfl⟩ | ⟨rfl, hb, rfl⟩ | ⟨rfl, hb, rfl⟩
  · refine ⟨_, rfl, rfl, _, rfl, ite_t (decide_eq_true rfl) ?_⟩
    refine ⟨_, rfl, _, rfl, fun x dx nx ndx nex => ?_⟩
    have s4 : Same H (upd (upd H dx (.own x)) x (.ins a.C_Council dx [])) := (same_new ndx _).trans (same_new (by rw [upd_ne (Ne.symm nex)]; exact nx) _)
    refine .inr ⟨x, dx, v, u, rfl, upd_same, hb.same s4, fun H1 s1 => ?_⟩
    refine ⟨a.C_BadCouncil, rfl, T.x_BadCouncil, T.su_BadCouncil_CouncilError, fun ea nea => ?_⟩
    exact ⟨_, rfl, ea, a.C_BadCouncil, _, rfl, upd_same, .inl ⟨rfl, rfl⟩, fun H3 s3 => k _ (s4.trans (s1.trans ((same_new nea _).trans s3)))⟩
  · refine ⟨_, rfl, rfl, _, rfl, ite_f (decide_eq_false (by decide)) ?_⟩
    refine ⟨_, rfl, rfl, _, rfl, ite_t (decide_eq_true rfl) ?_⟩
    refine ⟨(by show 1 ≤ sizeLine; decide), fun l nl => ?_⟩
    have s0 := same_new nl (.lst [V.int 3])
    have hl : upd H l (.lst [V.int 3]) l = some (.lst [V.int 3]) := upd_same
    generalize upd H l (.lst [V.int 3]) = H0 at s0 hl
    intro x dx nx ndx nex
    have s4 : Same H0 (upd (upd H0 dx (.own x)) x (.ins a.C_Council dx [])) := (same_new ndx _).trans (same_new (by rw [upd_ne (Ne.symm nex)]; exact nx) _)
    refine .inl ⟨x, dx, 3, l, [3], rfl, upd_same, by decide, by decide, s4 _ _ hl, three, fun H4 c0 kp4 => ⟨rfl, ?_⟩⟩
    have s04 : Same H0 H4 := fun b o hb' => kp4 b o (s4 b o hb') (ne_of_none hb' nx)
    obtain ⟨⟨dx4, t4, h14, h24⟩, _⟩ := id c0
    refine ⟨x, dx4, _, rfl, h14, flds_no _ _ (by decide +kernel) (by decide +kernel), _, rfl, x, 3, _, v, t, rfl, c0, ty.same (s0.trans s04), hw, fun H1 s1 => ?_⟩
    refine ⟨a.C_BadGroup, rfl, T.x_BadGroup, T.su_BadGroup_CouncilError, fun ea nea => ?_⟩
    exact ⟨_, rfl, ea, a.C_BadGroup, _, rfl, upd_same, .inr (.inl ⟨rfl, rfl⟩), fun H3 s3 => k _ (s0.trans (s04.trans (s1.trans ((same_new nea _).trans s3))))⟩
  · refine ⟨_, rfl, rfl, _, rfl, ite_f (decide_eq_false (by decide)) ?_⟩
    refine ⟨_, rfl, rfl, _, rfl, ite_f (decide_eq_false (by decide)) ?_⟩
    refine ⟨_, rfl, rfl, _, rfl, ite_t (decide_eq_true rfl) ?_⟩
    refine ⟨(by show 1 ≤ sizeLine; decide), fun l nl => ?_⟩
    have s0 := same_new nl (.lst [V.int 3])
    have hl : upd H l (.lst [V.int 3]) l = some (.lst [V.int 3]) := upd_same
    generalize upd H l (.lst [V.int 3]) = H0 at s0 hl
    intro x dx nx ndx nex
    have s4 : Same H0 (upd (upd H0 dx (.own x)) x (.ins a.C_Council dx [])) := (same_new ndx _).trans (same_new (by rw [upd_ne (Ne.symm nex)]; exact nx) _)
    refine .inl ⟨x, dx, 3, l, [3], rfl, upd_same, by decide, by decide, s4 _ _ hl, three, fun H4 c0 kp4 => ⟨rfl, ?_⟩⟩
    have s04 : Same H0 H4 := fun b o hb' => kp4 b o (s4 b o hb') (ne_of_none hb' nx)
    have caught : ∀ H1, Same H4 H1 → ∀ ea, H1 ea = none → ∀ H3, Same (upd H1 ea (excO ea a.C_NoMember)) H3 → Q (.str "member") H3 := fun H1 s1 ea nea H3 s3 => k _ (s0.trans (s04.trans (s1.trans ((same_new nea _).trans s3))))
    rcases hb with ⟨⟨t, ty⟩, hw⟩ | ⟨hm, ⟨t, ty⟩, hw⟩
    · refine ⟨_, rfl, _, rfl, x, 3, _, v, u, t, rfl, c0, .inl ⟨ty.same (s0.trans s04), hw⟩, fun H1 s1 => ?_⟩
      refine ⟨a.C_NoMember, rfl, T.x_NoMember, T.su_NoMember_CouncilError, fun ea nea => ?_⟩
      exact ⟨_, rfl, ea, a.C_NoMember, _, rfl, upd_same, .inr (.inr (.inl ⟨rfl, rfl⟩)), fun H3 s3 => caught H1 s1 ea nea H3 s3⟩
    · refine ⟨_, rfl, _, rfl, x, 3, _, v, u, t, rfl, c0, .inr ⟨hm, ty.same (s0.trans s04), hw⟩, fun H1 s1 => ?_⟩
      refine ⟨a.C_NoMember, rfl, T.x_NoMember, T.su_NoMember_CouncilError, fun ea nea => ?_⟩
      exact ⟨_, rfl, ea, a.C_NoMember, _, rfl, upd_same, .inr (.inr (.inl ⟨rfl, rfl⟩)), fun H3 s3 => caught H1 s1 ea nea H3 s3⟩
  · refine ⟨_, rfl, rfl, _, rfl, ite_f (decide_eq_false (by decide)) ?_⟩
    refine ⟨_, rfl, rfl, _, rfl, ite_f (decide_eq_false (by decide)) ?_⟩
    refine ⟨_, rfl, rfl, _, rfl, ite_f (decide_eq_false (by decide)) ?_⟩
    refine ⟨_, rfl, _, rfl, v, u, rfl, hb, fun H1 s1 => ?_⟩
    refine ⟨a.C_BadWeights, rfl, T.x_BadWeights, T.su_BadWeights_CouncilError, fun ea nea => ?_⟩
    exact ⟨_, rfl, ea, a.C_BadWeights, _, rfl, upd_same, .inr (.inr (.inr ⟨rfl, rfl⟩)), fun H3 s3 => k _ (s1.trans ((same_new nea _).trans s3))⟩
end Wv

set_option Elab.async false
set_option linter.all false
set_option maxRecDepth 100000
set_option maxHeartbeats 4000000

namespace Wv
open PySem L2
/-! ## the law of refusals -/
theorem wh_out {m i : Int} (h : i < 0 ∨ m < i) : whB m (.int i) = false := decide_eq_false (by omega)
def BadG (K : PySem.W.Frag) (H : Hp) (x : V) : Prop := (∃ t : String, TyOf K H x (.type t) ∧ isiB t "list" = false) ∨
  (∃ (l : Addr) (xs : List V), x = .ref l ∧ H l = some (.lst xs) ∧ xs.length ≤ 1000 ∧ (∀ y ∈ xs, ∃ t, TyOf K H y (.type t)) ∧ (xs.map (whB 7)).all id = false)
theorem BadG.same {K : PySem.W.Frag} {H H' : Hp} {x : V} (h : BadG K H x) (s : Same H H') : BadG K H' x := by
  rcases h with ⟨t, ty, h⟩ | ⟨l, xs, e, hl, hz, ty, h⟩
  · exact .inl ⟨t, ty.same s, h⟩
  · exact .inr ⟨l, xs, e, s _ _ hl, hz, fun x hx => let ⟨t, q⟩ := ty x hx; ⟨t, q.same s⟩, h⟩
theorem BadG.toC {K : PySem.W.Frag} {H : Hp} {x : V} (h : BadG K H x) : BadC K H (.int 3) x := by
  rcases h with ⟨t, ty, h⟩ | ⟨l, xs, e, hl, hz, ty, h⟩
  · exact .inr (.inl ⟨3, t, rfl, by decide, by decide, ty, h⟩)
  · exact .inr (.inr ⟨3, l, xs, rfl, by decide, by decide, e, hl, hz, ty, h⟩)
theorem bad1 {K : PySem.W.Frag} {H : Hp} {l : Addr} {y : V} (hl : H l = some (.lst [y])) (ty : ∃ t : String, TyOf K H y (.type t)) (h : whB 7 y = false) : BadG K H (.ref l) :=
  .inr ⟨l, [y], rfl, hl, (by show 1 ≤ 1000; decide), (fun z hz => by have e : z = y := (by simpa using hz); subst e; exact ty), (by show (whB 7 y && true) = false; rw [h]; rfl)⟩
theorem badw1 {K : PySem.W.Frag} {H : Hp} {l : Addr} {y q : V} (hl : H l = some (.lst [y])) (ty : ∃ t : String, TyOf K H y (.type t)) (h : whB 1000000 y = false) : BadW K H (.ref l) q :=
  .inr (.inr ⟨l, [y], rfl, hl, (by show 1 ≤ 1; decide), (by show 1 ≤ 5; decide), (fun z hz => by have e : z = y := (by simpa using hz); subst e; exact ty), .inl (by show (whB 1000000 y && true) = false; rw [h]; rfl)⟩)
theorem great_least : leastBy (fun g m => g - 1 * 2 ^ m.toNat) ([1000000, 1000000, 1000000, 1000000, 1000000] : List Int).length ((up (2 ^ ([1000000, 1000000, 1000000, 1000000, 1000000] : List Int).length)).map fun g => decide (5000001 ≤ wtOf [1000000, 1000000, 1000000, 1000000, 1000000] g)) = [] := by decide +kernel
theorem great_greatest : greatBy (fun g m => g + 1 * 2 ^ m.toNat) ([1000000, 1000000, 1000000, 1000000, 1000000] : List Int).length ((up (2 ^ ([1000000, 1000000, 1000000, 1000000, 1000000] : List Int).length)).map fun g => decide (5000001 ≤ wtOf [1000000, 1000000, 1000000, 1000000, 1000000] g)) = [31] := by decide +kernel
theorem zero_least : leastBy (fun g m => g - 1 * 2 ^ m.toNat) ([0] : List Int).length ((up (2 ^ ([0] : List Int).length)).map fun g => decide (0 ≤ wtOf [0] g)) = [0] := by decide +kernel
theorem forty_least : leastBy (fun g m => g - 1 * 2 ^ m.toNat) 5 (tabOf 5 (List.replicate 40 31)) = [31] := by decide +kernel
theorem one_greatest : greatBy (fun g m => g + 1 * 2 ^ m.toNat) 1 (tabOf 1 []) = [1] := by decide +kernel
theorem forty : GrpOk 5 (List.replicate 40 31) := ⟨by decide, fun g hg => by have e : g = 31 := (List.mem_replicate.mp hg).2; subst e; decide⟩
seal L2.PSs L2.PS L2.PE L2.PA L2.PT L2.PI L2.PW L2.PG L2.PGs L2.PIfs
theorem ok_law {P : Program} {w : World} {K : PySem.W.Frag} {mg : Str → Option Value} {base : Heap} {a : Adr} (T : Txt K mg a) : FnOk P w K mg base CX0 8 a.a_law a.d_law ["_law_script"] (sp_law K) := by
  refine T.F_law.ok sc_law (fun vs H Q E h => ?_) (fun cdv A outer s H vs Q E hr h => ?_)
  · obtain ⟨a, ns, rfl, _⟩ := h; rfl
  obtain ⟨sc, ns, rfl, hS0, hz0, kend⟩ := h
  have hS : ScrOk K H sc := ⟨ns, hS0, hz0⟩
  refine ⟨_, (pss_cons (ps_set (i := 1) sc_law.nd rfl (by first | exact Or.inl rfl | exact Or.inr rfl) (pe_op op_mod (pe_call (ok_law_cell_at T) (hr.mono (by decide)) rfl T.m_law_cell_at T.F_law_cell_at.kp (b_law_cell_at T) .nil pass0 (pa_cons (pv 0) (pa_cons pe_int pa_nil))) pe_int))
      (pss_cons (ps_for PassesOwn.never rfl (pi_listK K (pe_lst (pa_cons pe_int (pa_cons pe_int (pa_cons (pe_op op_add pe_int (pv 1)) (pa_cons (pe_op op_sub (pe_un un_neg pe_int) (pv 1)) (pa_cons pe_bl (pa_cons pe_str (pa_cons pe_non (pa_cons (pe_lst (pa_cons pe_int pa_nil)) pa_nil)))))))))) (pg_name (i := 2) sc_law.nd rfl (by first | exact Or.inl rfl | exact Or.inr rfl)) (pss_one (ps_if (pt_cmpR op_ne (pe_call (okx_law_asked T) hr rfl T.m_law_asked T.F_law_asked.kp (b_law_asked T) .nil passF (pa_cons pe_int (pa_cons (pv 2) (pa_cons (pe_lst pa_nil) pa_nil)))) pe_str (nomark _)) (pss_one (ps_ret pe_bl)) pss_nil)))
      (pss_cons (ps_set (i := 3) sc_law.nd rfl (by first | exact Or.inl rfl | exact Or.inr rfl) (pe_lst (pa_cons pe_non (pa_cons (pe_tup (pa_cons pe_int pa_nil)) (pa_cons pe_str (pa_cons pe_int (pa_cons (pe_lst (pa_cons (pe_op op_add pe_int (pv 1)) pa_nil)) (pa_cons (pe_lst (pa_cons pe_int pa_nil)) (pa_cons (pe_lst (pa_cons (pe_op op_sub (pe_un un_neg pe_int) (pv 1)) pa_nil)) (pa_cons (pe_lst (pa_cons pe_bl pa_nil)) (pa_cons (pe_lst (pa_cons pe_str pa_nil)) (pa_cons (pe_lst (pa_cons pe_non pa_nil)) (pa_cons (pe_lst (pa_cons (pe_lst (pa_cons pe_int pa_nil)) pa_nil)) (pa_cons (pe_lst (pa_cons pe_int (pa_cons pe_int (pa_cons pe_int pa_nil)))) (pa_cons pe_dict0 (pa_cons (pe_lst (pa_cons (pe_tup (pa_cons pe_int pa_nil)) pa_nil)) pa_nil))))))))))))))))
      (pss_cons (ps_for PassesOwn.never rfl (pi_listK K (pv 3)) (pg_name (i := 4) sc_law.nd rfl (by first | exact Or.inl rfl | exact Or.inr rfl)) (pss_one (ps_if (pt_cmpR op_ne (pe_call (okx_law_asked T) hr rfl T.m_law_asked T.F_law_asked.kp (b_law_asked T) .nil passF (pa_cons pe_int (pa_cons pe_int (pa_cons (pv 4) pa_nil)))) pe_str (nomark _)) (pss_one (ps_ret pe_bl)) pss_nil)))
      (pss_cons (ps_for PassesOwn.never rfl (pi_listK K (pe_lst (pa_cons pe_int (pa_cons (pe_op op_add pe_int (pv 1)) (pa_cons (pe_op op_sub (pe_un un_neg pe_int) (pv 1)) (pa_cons pe_bl (pa_cons pe_str (pa_cons pe_non pa_nil)))))))) (pg_name (i := 5) sc_law.nd rfl (by first | exact Or.inl rfl | exact Or.inr rfl)) (pss_one (ps_if (pt_cmpR op_ne (pe_call (okx_law_asked T) hr rfl T.m_law_asked T.F_law_asked.kp (b_law_asked T) .nil passF (pa_cons pe_int (pa_cons (pv 5) (pa_cons pe_non pa_nil)))) pe_str (nomark _)) (pss_one (ps_ret pe_bl)) pss_nil)))
      (pss_cons (ps_for PassesOwn.never rfl (pi_listK K (pe_lst (pa_cons pe_int (pa_cons (pe_op op_add pe_int (pv 1)) (pa_cons (pe_op op_sub (pe_un un_neg pe_int) (pv 1)) (pa_cons pe_bl (pa_cons pe_str (pa_cons pe_non pa_nil)))))))) (pg_name (i := 5) sc_law.nd rfl (by first | exact Or.inl rfl | exact Or.inr rfl)) (pss_one (ps_if (PW.pt (pw_or (pt_cmpR op_ne (pe_call (okx_law_asked T) hr rfl T.m_law_asked T.F_law_asked.kp (b_law_asked T) .nil passF (pa_cons pe_int (pa_cons (pv 5) (pa_cons pe_int pa_nil)))) pe_str (nomark _)) (pw_or1 (pt_cmpR op_ne (pe_call (okx_law_asked T) hr rfl T.m_law_asked T.F_law_asked.kp (b_law_asked T) .nil passF (pa_cons pe_int (pa_cons pe_int (pa_cons (pv 5) pa_nil)))) pe_str (nomark _))))) (pss_one (ps_ret pe_bl)) pss_nil)))
      (pss_cons (ps_set (i := 6) sc_law.nd rfl (by first | exact Or.inl rfl | exact Or.inr rfl) (pe_lst (pa_cons pe_non (pa_cons (pe_lst pa_nil) (pa_cons (pe_tup (pa_cons pe_int (pa_cons pe_int pa_nil))) (pa_cons pe_str (pa_cons (pe_op op_rep (pe_lst (pa_cons pe_int pa_nil)) pe_int) (pa_cons (pe_lst (pa_cons (pe_op op_sub (pe_un un_neg pe_int) (pv 1)) pa_nil)) (pa_cons (pe_lst (pa_cons pe_int pa_nil)) (pa_cons (pe_lst (pa_cons (pe_op op_add pe_int (pv 1)) pa_nil)) (pa_cons (pe_lst (pa_cons pe_bl pa_nil)) (pa_cons (pe_lst (pa_cons pe_str pa_nil)) (pa_cons (pe_lst (pa_cons pe_int (pa_cons pe_non pa_nil))) pa_nil)))))))))))))
      (pss_cons (ps_if (pt_not (pt_val (pe_callB (call_allK K rfl) rfl T.z_all PyProof.Rows.boot_all (pa_cons (pe_lc rfl (lcOk_of (S := defScope s_law) (N := ["_law_script", "_law_more", "_law_members", "_law_bad", "_law_groups", "_law_thing", "_law_weights", "_law_quota", "_law_great"]) (M := ["_law_script", "_law_more", "_law_members", "_law_bad", "_law_groups", "_law_thing", "_law_weights", "_law_quota", "_law_great", "_law_some"]) (by decide +kernel)) (pi_listK K (pv 6)) (fun _ _ _ _ => (pg_name (i := 9) (show List.Nodup (["_law_script", "_law_more", "_law_members", "_law_bad", "_law_groups", "_law_thing", "_law_weights", "_law_quota", "_law_great", "_law_some"] : List Str) by decide +kernel) rfl (by first | exact Or.inl rfl | exact Or.inr rfl))) (fun _ _ _ _ => pifs_nil) (fun _ _ _ _ => (pe_cmpR op_eq (pe_call (okx_law_asked T) hr rfl T.m_law_asked T.F_law_asked.kp (b_law_asked T) .nil passF (pa_cons pe_int (pa_cons (pv 9) (pa_cons pe_int pa_nil)))) pe_str (nomark _)))) pa_nil)))) (pss_one (ps_ret pe_bl)) pss_nil)
      (pss_cons (ps_for PassesOwn.never rfl (pi_listK K (pe_lst (pa_cons (pe_un un_neg pe_int) (pa_cons (pe_op op_sub (pe_un un_neg pe_int) (pv 1)) (pa_cons pe_int (pa_cons (pe_op op_add pe_int (pv 1)) (pa_cons pe_bl (pa_cons pe_str (pa_cons pe_non pa_nil))))))))) (pg_name (i := 7) sc_law.nd rfl (by first | exact Or.inl rfl | exact Or.inr rfl)) (pss_one (ps_if (pt_cmpR op_ne (pe_call (okx_law_asked T) hr rfl T.m_law_asked T.F_law_asked.kp (b_law_asked T) .nil passF (pa_cons pe_int (pa_cons (pe_lst (pa_cons pe_int (pa_cons pe_int pa_nil))) (pa_cons (pv 7) pa_nil)))) pe_str (nomark _)) (pss_one (ps_ret pe_bl)) pss_nil)))
      (pss_cons (ps_set (i := 8) sc_law.nd rfl (by first | exact Or.inl rfl | exact Or.inr rfl) (pe_call (ok_weighted T) (hr.mono (by decide)) rfl T.m_weighted T.F_weighted.kp (b_weighted T) .nil pass0 (pa_cons (pe_op op_rep (pe_lst (pa_cons pe_int pa_nil)) pe_int) (pa_cons pe_int pa_nil))))
      (pss_cons (ps_if (PW.pt (pw_or (pt_cmpR (op_neLK K hr.units0) (pe_meth0 (pv 8) T.cl_Council T.mt_Council_least (ok_Council_least T) (hr.mono (by decide)) (b_Council_least T) .nil pass0) (pe_lst pa_nil) (nomark _)) (pw_or (pt_cmpR (op_neLK K hr.units0) (pe_meth0 (pv 8) T.cl_Council T.mt_Council_greatest (ok_Council_greatest T) (hr.mono (by decide)) (b_Council_greatest T) .nil pass0) (pe_lst (pa_cons pe_int pa_nil)) (nomark _)) (pw_or1 (pt_cmpR (op_neLK K hr.units0) (pe_meth0 (pe_call (ok_weighted T) (hr.mono (by decide)) rfl T.m_weighted T.F_weighted.kp (b_weighted T) .nil pass0 (pa_cons (pe_lst (pa_cons pe_int pa_nil)) (pa_cons pe_int pa_nil))) T.cl_Council T.mt_Council_least (ok_Council_least T) (hr.mono (by decide)) (b_Council_least T) .nil pass0) (pe_lst (pa_cons pe_int pa_nil)) (nomark _)))))) (pss_one (ps_ret pe_bl)) pss_nil)
      (pss_one (ps_ret (pe_and (pe_cmpR (op_eqLK K hr.units0) (pe_meth0 (pe_make T.mk_Council (ok_Council_init T) (hr.mono (by decide)) rfl T.m_Council (b_Council_init T) .nil pass0 (pa_cons pe_int (pa_cons (pe_op op_rep (pe_lst (pa_cons pe_int pa_nil)) pe_int) pa_nil))) T.cl_Council T.mt_Council_least (ok_Council_least T) (hr.mono (by decide)) (b_Council_least T) .nil pass0) (pe_lst (pa_cons pe_int pa_nil)) (nomark _)) (pe_one (pe_cmpR (op_eqLK K hr.units0) (pe_meth0 (pe_make T.mk_Council (ok_Council_init T) (hr.mono (by decide)) rfl T.m_Council (b_Council_init T) .nil pass0 (pa_cons pe_int (pa_cons (pe_lst pa_nil) pa_nil))) T.cl_Council T.mt_Council_greatest (ok_Council_greatest T) (hr.mono (by decide)) (b_Council_greatest T) .nil pass0) (pe_lst (pa_cons pe_int pa_nil)) (nomark _))))))))))))))))), ?_⟩
  refine ⟨_, rfl, sc, 0, rfl, hS, Int.le_refl 0, fun c G0 h1 => ⟨_, _, rfl, rfl, (by show (0 : Int) < 1000000; decide), ?_⟩⟩
  have more0 := Int.emod_nonneg c (show (1000000 : Int) ≠ 0 by decide)
  have more1 := Int.emod_lt_of_pos c (show (0 : Int) < 1000000 by decide)
  dsimp (config := { zeta := false, eta := false, iota := false, proj := false }) only
  generalize c % 1000000 = more at more0 more1
  refine ⟨_, rfl, _, _, rfl, rfl, _, rfl, _, rfl, _, _, rfl, rfl, (by show 1 ≤ sizeLine; decide), fun p1 n1 => ?_⟩
  try dsimp (config := { zeta := false, eta := false, iota := false, proj := false }) only
  have s1 := same_new n1 (.lst [V.int 3])
  have f1 : upd G0 p1 (.lst [V.int 3]) p1 = some (.lst [V.int 3]) := upd_same
  generalize upd G0 p1 (.lst [V.int 3]) = G1 at s1 f1
  refine ⟨(by show 8 ≤ sizeLine; decide), fun p2 n2 => ?_⟩
  try dsimp (config := { zeta := false, eta := false, iota := false, proj := false }) only
  have s2 := same_new n2 (.lst [.int 0, .int 6, .int (6 + more), .int (-1 - more), .bl true, .str "3", .non, .ref p1])
  have f2 : upd G1 p2 (.lst [.int 0, .int 6, .int (6 + more), .int (-1 - more), .bl true, .str "3", .non, .ref p1]) p2 = some (.lst [.int 0, .int 6, .int (6 + more), .int (-1 - more), .bl true, .str "3", .non, .ref p1]) := upd_same
  generalize upd G1 p2 (.lst [.int 0, .int 6, .int (6 + more), .int (-1 - more), .bl true, .str "3", .non, .ref p1]) = G2 at s2 f2
  have all2 : ∀ x ∈ ([.int 0, .int 6, .int (6 + more), .int (-1 - more), .bl true, .str "3", .non, .ref p1] : List V), (∃ t : String, TyOf K G2 x (.type t)) ∧ (whB 5 x = false ∨ x = .int 0) := by
    intro x hx
    simp only [List.mem_cons, List.not_mem_nil, or_false] at hx
    rcases hx with rfl | rfl | rfl | rfl | rfl | rfl | rfl | rfl
    · exact ⟨⟨_, .int _⟩, .inr rfl⟩
    · exact ⟨⟨_, .int _⟩, .inl (wh_out (by omega))⟩
    · exact ⟨⟨_, .int _⟩, .inl (wh_out (by omega))⟩
    · exact ⟨⟨_, .int _⟩, .inl (wh_out (by omega))⟩
    · exact ⟨⟨_, .bl _⟩, .inl rfl⟩
    · exact ⟨⟨_, .str _⟩, .inl rfl⟩
    · exact ⟨⟨_, .non⟩, .inl rfl⟩
    · exact ⟨⟨_, .lst ((s2) _ _ f1)⟩, .inl rfl⟩
  refine ⟨p2, rfl, ⟨_, SqL.of f2⟩, ?_⟩
  refine for_list (xs := [.int 0, .int 6, .int (6 + more), .int (-1 - more), .bl true, .str "3", .non, .ref p1]) (fun i σ' H' => ∃ y : Option V, σ' = [some (.ref sc), some (.int more), y, none, none, none, none, none, none] ∧ Same G2 H') ?_ ?_ ?_ ?_
  · exact ⟨_, rfl, Same.refl _⟩
  · rintro i σ' H' _ ⟨y, rfl, hs⟩
    exact SqL.of (hs _ _ f2)
  · rintro i x σ' H' hx ⟨y, rfl, hs⟩
    have hx' := all2 x (List.mem_of_getElem? hx)
    obtain ⟨⟨t, ty⟩, hw⟩ := hx'
    refine ⟨_, rfl, (by show 0 ≤ sizeLine; decide), fun l nl => ?_⟩
    refine ⟨0, x, .ref l, "council", rfl, .inl ⟨rfl, .inl ⟨t, (ty.same hs).same (same_new nl _), hw⟩, rfl⟩, fun H3 s3 => ⟨rfl, _, rfl, ?_⟩⟩
    refine ite_f (by rw [decide_eq_true rfl]; rfl) ?_
    exact ⟨_, rfl, hs.trans ((same_new nl _).trans s3)⟩
  rintro σ' G3 ⟨y3, rfl, s3⟩
  refine ⟨(by show 1 ≤ sizeLine; decide), fun p4 n4 => ?_⟩
  try dsimp (config := { zeta := false, eta := false, iota := false, proj := false }) only
  have s4 := same_new n4 (.tup [V.int 1])
  have f4 : upd G3 p4 (.tup [V.int 1]) p4 = some (.tup [V.int 1]) := upd_same
  generalize upd G3 p4 (.tup [V.int 1]) = G4 at s4 f4
  refine ⟨_, rfl, _, _, rfl, rfl, (by show 1 ≤ sizeLine; decide), fun p5 n5 => ?_⟩
  try dsimp (config := { zeta := false, eta := false, iota := false, proj := false }) only
  have s5 := same_new n5 (.lst [V.int (8 + more)])
  have f5 : upd G4 p5 (.lst [V.int (8 + more)]) p5 = some (.lst [V.int (8 + more)]) := upd_same
  generalize upd G4 p5 (.lst [V.int (8 + more)]) = G5 at s5 f5
  refine ⟨(by show 1 ≤ sizeLine; decide), fun p6 n6 => ?_⟩
  try dsimp (config := { zeta := false, eta := false, iota := false, proj := false }) only
  have s6 := same_new n6 (.lst [V.int 8])
  have f6 : upd G5 p6 (.lst [V.int 8]) p6 = some (.lst [V.int 8]) := upd_same
  generalize upd G5 p6 (.lst [V.int 8]) = G6 at s6 f6
  refine ⟨_, rfl, _, rfl, _, _, rfl, rfl, (by show 1 ≤ sizeLine; decide), fun p7 n7 => ?_⟩
  try dsimp (config := { zeta := false, eta := false, iota := false, proj := false }) only
  have s7 := same_new n7 (.lst [V.int (-1 - more)])
  have f7 : upd G6 p7 (.lst [V.int (-1 - more)]) p7 = some (.lst [V.int (-1 - more)]) := upd_same
  generalize upd G6 p7 (.lst [V.int (-1 - more)]) = G7 at s7 f7
  refine ⟨(by show 1 ≤ sizeLine; decide), fun p8 n8 => ?_⟩
  try dsimp (config := { zeta := false, eta := false, iota := false, proj := false }) only
  have s8 := same_new n8 (.lst [V.bl true])
  have f8 : upd G7 p8 (.lst [V.bl true]) p8 = some (.lst [V.bl true]) := upd_same
  generalize upd G7 p8 (.lst [V.bl true]) = G8 at s8 f8
  refine ⟨(by show 1 ≤ sizeLine; decide), fun p9 n9 => ?_⟩
  try dsimp (config := { zeta := false, eta := false, iota := false, proj := false }) only
  have s9 := same_new n9 (.lst [V.str "1"])
  have f9 : upd G8 p9 (.lst [V.str "1"]) p9 = some (.lst [V.str "1"]) := upd_same
  generalize upd G8 p9 (.lst [V.str "1"]) = G9 at s9 f9
  refine ⟨(by show 1 ≤ sizeLine; decide), fun p10 n10 => ?_⟩
  try dsimp (config := { zeta := false, eta := false, iota := false, proj := false }) only
  have s10 := same_new n10 (.lst [V.non])
  have f10 : upd G9 p10 (.lst [V.non]) p10 = some (.lst [V.non]) := upd_same
  generalize upd G9 p10 (.lst [V.non]) = G10 at s10 f10
  refine ⟨(by show 1 ≤ sizeLine; decide), fun p11 n11 => ?_⟩
  try dsimp (config := { zeta := false, eta := false, iota := false, proj := false }) only
  have s11 := same_new n11 (.lst [V.int 1])
  have f11 : upd G10 p11 (.lst [V.int 1]) p11 = some (.lst [V.int 1]) := upd_same
  generalize upd G10 p11 (.lst [V.int 1]) = G11 at s11 f11
  refine ⟨(by show 1 ≤ sizeLine; decide), fun p12 n12 => ?_⟩
  try dsimp (config := { zeta := false, eta := false, iota := false, proj := false }) only
  have s12 := same_new n12 (.lst [V.ref p11])
  have f12 : upd G11 p12 (.lst [V.ref p11]) p12 = some (.lst [V.ref p11]) := upd_same
  generalize upd G11 p12 (.lst [V.ref p11]) = G12 at s12 f12
  refine ⟨(by show 3 ≤ sizeLine; decide), fun p13 n13 => ?_⟩
  try dsimp (config := { zeta := false, eta := false, iota := false, proj := false }) only
  have s13 := same_new n13 (.lst [V.int 1, .int 2, .int 8])
  have f13 : upd G12 p13 (.lst [V.int 1, .int 2, .int 8]) p13 = some (.lst [V.int 1, .int 2, .int 8]) := upd_same
  generalize upd G12 p13 (.lst [V.int 1, .int 2, .int 8]) = G13 at s13 f13
  intro p14 n14
  try dsimp (config := { zeta := false, eta := false, iota := false, proj := false }) only
  have s14 := same_new n14 (.dK [])
  have f14 : upd G13 p14 (.dK []) p14 = some (.dK []) := upd_same
  generalize upd G13 p14 (.dK []) = G14 at s14 f14
  refine ⟨(by show 1 ≤ sizeLine; decide), fun p15 n15 => ?_⟩
  try dsimp (config := { zeta := false, eta := false, iota := false, proj := false }) only
  have s15 := same_new n15 (.tup [V.int 0])
  have f15 : upd G14 p15 (.tup [V.int 0]) p15 = some (.tup [V.int 0]) := upd_same
  generalize upd G14 p15 (.tup [V.int 0]) = G15 at s15 f15
  refine ⟨(by show 1 ≤ sizeLine; decide), fun p16 n16 => ?_⟩
  try dsimp (config := { zeta := false, eta := false, iota := false, proj := false }) only
  have s16 := same_new n16 (.lst [V.ref p15])
  have f16 : upd G15 p16 (.lst [V.ref p15]) p16 = some (.lst [V.ref p15]) := upd_same
  generalize upd G15 p16 (.lst [V.ref p15]) = G16 at s16 f16
  refine ⟨(by show 14 ≤ sizeLine; decide), fun p17 n17 => ?_⟩
  try dsimp (config := { zeta := false, eta := false, iota := false, proj := false }) only
  have s17 := same_new n17 (.lst [.non, .ref p4, .str "1", .int 1, .ref p5, .ref p6, .ref p7, .ref p8, .ref p9, .ref p10, .ref p12, .ref p13, .ref p14, .ref p16])
  have f17 : upd G16 p17 (.lst [.non, .ref p4, .str "1", .int 1, .ref p5, .ref p6, .ref p7, .ref p8, .ref p9, .ref p10, .ref p12, .ref p13, .ref p14, .ref p16]) p17 = some (.lst [.non, .ref p4, .str "1", .int 1, .ref p5, .ref p6, .ref p7, .ref p8, .ref p9, .ref p10, .ref p12, .ref p13, .ref p14, .ref p16]) := upd_same
  generalize upd G16 p17 (.lst [.non, .ref p4, .str "1", .int 1, .ref p5, .ref p6, .ref p7, .ref p8, .ref p9, .ref p10, .ref p12, .ref p13, .ref p14, .ref p16]) = G17 at s17 f17
  have all17 : ∀ x ∈ ([.non, .ref p4, .str "1", .int 1, .ref p5, .ref p6, .ref p7, .ref p8, .ref p9, .ref p10, .ref p12, .ref p13, .ref p14, .ref p16] : List V), BadG K G17 x := by
    intro x hx
    simp only [List.mem_cons, List.not_mem_nil, or_false] at hx
    rcases hx with rfl | rfl | rfl | rfl | rfl | rfl | rfl | rfl | rfl | rfl | rfl | rfl | rfl | rfl
    · exact .inl ⟨_, .non, rfl⟩
    · exact .inl ⟨_, .tup ((s5.trans (s6.trans (s7.trans (s8.trans (s9.trans (s10.trans (s11.trans (s12.trans (s13.trans (s14.trans (s15.trans (s16.trans (s17))))))))))))) _ _ f4), rfl⟩
    · exact .inl ⟨_, .str _, rfl⟩
    · exact .inl ⟨_, .int _, rfl⟩
    · exact bad1 ((s6.trans (s7.trans (s8.trans (s9.trans (s10.trans (s11.trans (s12.trans (s13.trans (s14.trans (s15.trans (s16.trans (s17)))))))))))) _ _ f5) ⟨_, .int _⟩ (wh_out (by omega))
    · exact bad1 ((s7.trans (s8.trans (s9.trans (s10.trans (s11.trans (s12.trans (s13.trans (s14.trans (s15.trans (s16.trans (s17))))))))))) _ _ f6) ⟨_, .int _⟩ (wh_out (by omega))
    · exact bad1 ((s8.trans (s9.trans (s10.trans (s11.trans (s12.trans (s13.trans (s14.trans (s15.trans (s16.trans (s17)))))))))) _ _ f7) ⟨_, .int _⟩ (wh_out (by omega))
    · exact bad1 ((s9.trans (s10.trans (s11.trans (s12.trans (s13.trans (s14.trans (s15.trans (s16.trans (s17))))))))) _ _ f8) ⟨_, .bl _⟩ (rfl)
    · exact bad1 ((s10.trans (s11.trans (s12.trans (s13.trans (s14.trans (s15.trans (s16.trans (s17)))))))) _ _ f9) ⟨_, .str _⟩ (rfl)
    · exact bad1 ((s11.trans (s12.trans (s13.trans (s14.trans (s15.trans (s16.trans (s17))))))) _ _ f10) ⟨_, .non⟩ (rfl)
    · exact bad1 ((s13.trans (s14.trans (s15.trans (s16.trans (s17))))) _ _ f12) ⟨_, .lst ((s12.trans (s13.trans (s14.trans (s15.trans (s16.trans (s17)))))) _ _ f11)⟩ rfl
    · exact .inr ⟨_, _, rfl, (s14.trans (s15.trans (s16.trans (s17)))) _ _ f13, (by show 3 ≤ 1000; decide), (fun y hy => by simp only [List.mem_cons, List.not_mem_nil, or_false] at hy; rcases hy with rfl | rfl | rfl <;> exact ⟨_, .int _⟩), rfl⟩
    · exact .inl ⟨_, .dK ((s15.trans (s16.trans (s17))) _ _ f14), rfl⟩
    · exact bad1 ((s17) _ _ f16) ⟨_, .tup ((s16.trans (s17)) _ _ f15)⟩ rfl
  refine ⟨_, rfl, p17, rfl, ⟨_, SqL.of f17⟩, ?_⟩
  refine for_list (xs := [.non, .ref p4, .str "1", .int 1, .ref p5, .ref p6, .ref p7, .ref p8, .ref p9, .ref p10, .ref p12, .ref p13, .ref p14, .ref p16]) (fun i σ' H' => ∃ y : Option V, σ' = [some (.ref sc), some (.int more), y3, some (.ref p17), y, none, none, none, none] ∧ Same G17 H') ?_ ?_ ?_ ?_
  · exact ⟨_, rfl, Same.refl _⟩
  · rintro i σ' H' _ ⟨y, rfl, hs⟩
    exact SqL.of (hs _ _ f17)
  · rintro i x σ' H' hx ⟨y, rfl, hs⟩
    have hx' := all17 x (List.mem_of_getElem? hx)
    refine ⟨_, rfl, ?_⟩
    refine ⟨0, .int 3, x, "council", rfl, .inl ⟨rfl, (hx'.same hs).toC, rfl⟩, fun H3 s3 => ⟨rfl, _, rfl, ?_⟩⟩
    refine ite_f (by rw [decide_eq_true rfl]; rfl) ?_
    exact ⟨_, rfl, hs.trans s3⟩
  rintro σ' G18 ⟨y18, rfl, s18⟩
  refine ⟨_, rfl, _, _, rfl, rfl, _, rfl, _, rfl, _, _, rfl, rfl, (by show 6 ≤ sizeLine; decide), fun p19 n19 => ?_⟩
  try dsimp (config := { zeta := false, eta := false, iota := false, proj := false }) only
  have s19 := same_new n19 (.lst [.int 8, .int (8 + more), .int (-1 - more), .bl true, .str "0", .non])
  have f19 : upd G18 p19 (.lst [.int 8, .int (8 + more), .int (-1 - more), .bl true, .str "0", .non]) p19 = some (.lst [.int 8, .int (8 + more), .int (-1 - more), .bl true, .str "0", .non]) := upd_same
  generalize upd G18 p19 (.lst [.int 8, .int (8 + more), .int (-1 - more), .bl true, .str "0", .non]) = G19 at s19 f19
  have all19 : ∀ x ∈ ([.int 8, .int (8 + more), .int (-1 - more), .bl true, .str "0", .non] : List V), (∃ t : String, TyOf K G19 x (.type t)) ∧ whB 7 x = false := by
    intro x hx
    simp only [List.mem_cons, List.not_mem_nil, or_false] at hx
    rcases hx with rfl | rfl | rfl | rfl | rfl | rfl
    · exact ⟨⟨_, .int _⟩, wh_out (by omega)⟩
    · exact ⟨⟨_, .int _⟩, wh_out (by omega)⟩
    · exact ⟨⟨_, .int _⟩, wh_out (by omega)⟩
    · exact ⟨⟨_, .bl _⟩, rfl⟩
    · exact ⟨⟨_, .str _⟩, rfl⟩
    · exact ⟨⟨_, .non⟩, rfl⟩
  refine ⟨p19, rfl, ⟨_, SqL.of f19⟩, ?_⟩
  refine for_list (xs := [.int 8, .int (8 + more), .int (-1 - more), .bl true, .str "0", .non]) (fun i σ' H' => ∃ y : Option V, σ' = [some (.ref sc), some (.int more), y3, some (.ref p17), y18, y, none, none, none] ∧ Same G19 H') ?_ ?_ ?_ ?_
  · exact ⟨_, rfl, Same.refl _⟩
  · rintro i σ' H' _ ⟨y, rfl, hs⟩
    exact SqL.of (hs _ _ f19)
  · rintro i x σ' H' hx ⟨y, rfl, hs⟩
    have hx' := all19 x (List.mem_of_getElem? hx)
    obtain ⟨⟨t, ty⟩, hw⟩ := hx'
    refine ⟨_, rfl, ?_⟩
    refine ⟨1, x, .non, "group", rfl, .inr (.inl ⟨rfl, ⟨t, ty.same hs⟩, hw, rfl⟩), fun H3 s3 => ⟨rfl, _, rfl, ?_⟩⟩
    refine ite_f (by rw [decide_eq_true rfl]; rfl) ?_
    exact ⟨_, rfl, hs.trans s3⟩
  rintro σ' G20 ⟨y20, rfl, s20⟩
  refine ⟨_, rfl, _, _, rfl, rfl, _, rfl, _, rfl, _, _, rfl, rfl, (by show 6 ≤ sizeLine; decide), fun p21 n21 => ?_⟩
  try dsimp (config := { zeta := false, eta := false, iota := false, proj := false }) only
  have s21 := same_new n21 (.lst [.int 3, .int (3 + more), .int (-1 - more), .bl true, .str "0", .non])
  have f21 : upd G20 p21 (.lst [.int 3, .int (3 + more), .int (-1 - more), .bl true, .str "0", .non]) p21 = some (.lst [.int 3, .int (3 + more), .int (-1 - more), .bl true, .str "0", .non]) := upd_same
  generalize upd G20 p21 (.lst [.int 3, .int (3 + more), .int (-1 - more), .bl true, .str "0", .non]) = G21 at s21 f21
  have all21 : ∀ x ∈ ([.int 3, .int (3 + more), .int (-1 - more), .bl true, .str "0", .non] : List V), (∃ t : String, TyOf K G21 x (.type t)) ∧ whB 2 x = false := by
    intro x hx
    simp only [List.mem_cons, List.not_mem_nil, or_false] at hx
    rcases hx with rfl | rfl | rfl | rfl | rfl | rfl
    · exact ⟨⟨_, .int _⟩, wh_out (by omega)⟩
    · exact ⟨⟨_, .int _⟩, wh_out (by omega)⟩
    · exact ⟨⟨_, .int _⟩, wh_out (by omega)⟩
    · exact ⟨⟨_, .bl _⟩, rfl⟩
    · exact ⟨⟨_, .str _⟩, rfl⟩
    · exact ⟨⟨_, .non⟩, rfl⟩
  refine ⟨p21, rfl, ⟨_, SqL.of f21⟩, ?_⟩
  refine for_list (xs := [.int 3, .int (3 + more), .int (-1 - more), .bl true, .str "0", .non]) (fun i σ' H' => ∃ y : Option V, σ' = [some (.ref sc), some (.int more), y3, some (.ref p17), y18, y, none, none, none] ∧ Same G21 H') ?_ ?_ ?_ ?_
  · exact ⟨_, rfl, Same.refl _⟩
  · rintro i σ' H' _ ⟨y, rfl, hs⟩
    exact SqL.of (hs _ _ f21)
  · rintro i x σ' H' hx ⟨y, rfl, hs⟩
    have hx' := all21 x (List.mem_of_getElem? hx)
    obtain ⟨⟨t, ty⟩, hw⟩ := hx'
    refine ⟨_, rfl, ?_⟩
    refine ⟨2, x, .int 0, "member", rfl, .inr (.inr (.inl ⟨rfl, .inl ⟨⟨t, ty.same hs⟩, hw⟩, rfl⟩)), fun H3 s3 => ⟨rfl, _, rfl, ?_⟩⟩
    refine ite_f (by rw [decide_eq_true rfl]; rfl) ?_
    refine ⟨_, rfl, ?_⟩
    refine ⟨2, .int 0, x, "member", rfl, .inr (.inr (.inl ⟨rfl, .inr ⟨⟨0, rfl, by decide, by decide⟩, ⟨t, (ty.same hs).same s3⟩, hw⟩, rfl⟩)), fun H4 s4 => ⟨rfl, _, rfl, ?_⟩⟩
    refine ite_f (by rw [decide_eq_true rfl]; rfl) ?_
    exact ⟨_, rfl, hs.trans (s3.trans s4)⟩
  rintro σ' G22 ⟨y22, rfl, s22⟩
  refine ⟨(by show 0 ≤ sizeLine; decide), fun p23 n23 => ?_⟩
  try dsimp (config := { zeta := false, eta := false, iota := false, proj := false }) only
  have s23 := same_new n23 (.lst [])
  have f23 : upd G22 p23 (.lst []) p23 = some (.lst []) := upd_same
  generalize upd G22 p23 (.lst []) = G23 at s23 f23
  refine ⟨(by show 2 ≤ sizeLine; decide), fun p24 n24 => ?_⟩
  try dsimp (config := { zeta := false, eta := false, iota := false, proj := false }) only
  have s24 := same_new n24 (.tup [V.int 1, .int 2])
  have f24 : upd G23 p24 (.tup [V.int 1, .int 2]) p24 = some (.tup [V.int 1, .int 2]) := upd_same
  generalize upd G23 p24 (.tup [V.int 1, .int 2]) = G24 at s24 f24
  refine ⟨(by show 1 ≤ sizeLine; decide), fun p25 n25 => ?_⟩
  try dsimp (config := { zeta := false, eta := false, iota := false, proj := false }) only
  have s25 := same_new n25 (.lst [V.int 1])
  have f25 : upd G24 p25 (.lst [V.int 1]) p25 = some (.lst [V.int 1]) := upd_same
  generalize upd G24 p25 (.lst [V.int 1]) = G25 at s25 f25
  refine ⟨p25, 6, _, rfl, rfl, f25, by decide, by decide, (by show 1 * 6 ≤ sizeLine; decide), fun p26 n26 => ?_⟩
  have s26 := same_new n26 (.lst (List.replicate (6 : Int).toNat [V.int 1]).flatten)
  have f26 : upd G25 p26 (.lst (List.replicate (6 : Int).toNat [V.int 1]).flatten) p26 = some (.lst (List.replicate (6 : Int).toNat [V.int 1]).flatten) := upd_same
  generalize upd G25 p26 (.lst (List.replicate (6 : Int).toNat [V.int 1]).flatten) = G26 at s26 f26
  refine ⟨_, rfl, _, rfl, _, _, rfl, rfl, (by show 1 ≤ sizeLine; decide), fun p27 n27 => ?_⟩
  try dsimp (config := { zeta := false, eta := false, iota := false, proj := false }) only
  have s27 := same_new n27 (.lst [V.int (-1 - more)])
  have f27 : upd G26 p27 (.lst [V.int (-1 - more)]) p27 = some (.lst [V.int (-1 - more)]) := upd_same
  generalize upd G26 p27 (.lst [V.int (-1 - more)]) = G27 at s27 f27
  refine ⟨(by show 1 ≤ sizeLine; decide), fun p28 n28 => ?_⟩
  try dsimp (config := { zeta := false, eta := false, iota := false, proj := false }) only
  have s28 := same_new n28 (.lst [V.int 1000001])
  have f28 : upd G27 p28 (.lst [V.int 1000001]) p28 = some (.lst [V.int 1000001]) := upd_same
  generalize upd G27 p28 (.lst [V.int 1000001]) = G28 at s28 f28
  refine ⟨_, rfl, _, _, rfl, rfl, (by show 1 ≤ sizeLine; decide), fun p29 n29 => ?_⟩
  try dsimp (config := { zeta := false, eta := false, iota := false, proj := false }) only
  have s29 := same_new n29 (.lst [V.int (1000001 + more)])
  have f29 : upd G28 p29 (.lst [V.int (1000001 + more)]) p29 = some (.lst [V.int (1000001 + more)]) := upd_same
  generalize upd G28 p29 (.lst [V.int (1000001 + more)]) = G29 at s29 f29
  refine ⟨(by show 1 ≤ sizeLine; decide), fun p30 n30 => ?_⟩
  try dsimp (config := { zeta := false, eta := false, iota := false, proj := false }) only
  have s30 := same_new n30 (.lst [V.bl true])
  have f30 : upd G29 p30 (.lst [V.bl true]) p30 = some (.lst [V.bl true]) := upd_same
  generalize upd G29 p30 (.lst [V.bl true]) = G30 at s30 f30
  refine ⟨(by show 1 ≤ sizeLine; decide), fun p31 n31 => ?_⟩
  try dsimp (config := { zeta := false, eta := false, iota := false, proj := false }) only
  have s31 := same_new n31 (.lst [V.str "1"])
  have f31 : upd G30 p31 (.lst [V.str "1"]) p31 = some (.lst [V.str "1"]) := upd_same
  generalize upd G30 p31 (.lst [V.str "1"]) = G31 at s31 f31
  refine ⟨(by show 2 ≤ sizeLine; decide), fun p32 n32 => ?_⟩
  try dsimp (config := { zeta := false, eta := false, iota := false, proj := false }) only
  have s32 := same_new n32 (.lst [V.int 1, .non])
  have f32 : upd G31 p32 (.lst [V.int 1, .non]) p32 = some (.lst [V.int 1, .non]) := upd_same
  generalize upd G31 p32 (.lst [V.int 1, .non]) = G32 at s32 f32
  refine ⟨(by show 11 ≤ sizeLine; decide), fun p33 n33 => ?_⟩
  try dsimp (config := { zeta := false, eta := false, iota := false, proj := false }) only
  have s33 := same_new n33 (.lst [.non, .ref p23, .ref p24, .str "12", .ref p26, .ref p27, .ref p28, .ref p29, .ref p30, .ref p31, .ref p32])
  have f33 : upd G32 p33 (.lst [.non, .ref p23, .ref p24, .str "12", .ref p26, .ref p27, .ref p28, .ref p29, .ref p30, .ref p31, .ref p32]) p33 = some (.lst [.non, .ref p23, .ref p24, .str "12", .ref p26, .ref p27, .ref p28, .ref p29, .ref p30, .ref p31, .ref p32]) := upd_same
  generalize upd G32 p33 (.lst [.non, .ref p23, .ref p24, .str "12", .ref p26, .ref p27, .ref p28, .ref p29, .ref p30, .ref p31, .ref p32]) = G33 at s33 f33
  have all33 : ∀ x ∈ ([.non, .ref p23, .ref p24, .str "12", .ref p26, .ref p27, .ref p28, .ref p29, .ref p30, .ref p31, .ref p32] : List V), BadW K G33 x (.int 1) := by
    intro x hx
    simp only [List.mem_cons, List.not_mem_nil, or_false] at hx
    rcases hx with rfl | rfl | rfl | rfl | rfl | rfl | rfl | rfl | rfl | rfl | rfl
    · exact .inl ⟨_, .non, rfl⟩
    · exact .inr (.inl ⟨_, _, rfl, (s24.trans (s25.trans (s26.trans (s27.trans (s28.trans (s29.trans (s30.trans (s31.trans (s32.trans (s33)))))))))) _ _ f23, (by decide)⟩)
    · exact .inl ⟨_, .tup ((s25.trans (s26.trans (s27.trans (s28.trans (s29.trans (s30.trans (s31.trans (s32.trans (s33))))))))) _ _ f24), rfl⟩
    · exact .inl ⟨_, .str _, rfl⟩
    · exact .inr (.inl ⟨_, _, rfl, (s27.trans (s28.trans (s29.trans (s30.trans (s31.trans (s32.trans (s33))))))) _ _ f26, (by decide)⟩)
    · exact badw1 ((s28.trans (s29.trans (s30.trans (s31.trans (s32.trans (s33)))))) _ _ f27) ⟨_, .int _⟩ (wh_out (by omega))
    · exact badw1 ((s29.trans (s30.trans (s31.trans (s32.trans (s33))))) _ _ f28) ⟨_, .int _⟩ (wh_out (by omega))
    · exact badw1 ((s30.trans (s31.trans (s32.trans (s33)))) _ _ f29) ⟨_, .int _⟩ (wh_out (by omega))
    · exact badw1 ((s31.trans (s32.trans (s33))) _ _ f30) ⟨_, .bl _⟩ (rfl)
    · exact badw1 ((s32.trans (s33)) _ _ f31) ⟨_, .str _⟩ (rfl)
    · exact .inr (.inr ⟨_, _, rfl, (s33) _ _ f32, (by show 1 ≤ 2; decide), (by show 2 ≤ 5; decide), (fun y hy => by simp only [List.mem_cons, List.not_mem_nil, or_false] at hy; rcases hy with rfl | rfl <;> first | exact ⟨_, .int _⟩ | exact ⟨_, .non⟩), .inl rfl⟩)
  refine ⟨_, rfl, p33, rfl, ⟨_, SqL.of f33⟩, ?_⟩
  refine lcB_list rfl (SqL.of f33) (by show 11 ≤ 1000; decide) (fun _ => true) (fun _ => .bl true) (fun x hx H2 h2 R q => q H2 (Same.refl _)) (fun x hx _ H2 h2 R q => ?_) fun H2 D h2 hD => ?_
  · refine ⟨_, rfl, ?_⟩
    refine ⟨3, x, .int 1, "weights", rfl, .inr (.inr (.inr ⟨rfl, (all33 x hx).same h2, rfl⟩)), fun H3 s3 => ⟨rfl, ?_⟩⟩
    exact qbl (decide_eq_true rfl).symm (q H3 s3)
  have s34 := h2.trans (same_new hD (.lst ((([.non, .ref p23, .ref p24, .str "12", .ref p26, .ref p27, .ref p28, .ref p29, .ref p30, .ref p31, .ref p32] : List V).filter fun _ => true).map fun _ => V.bl true)))
  have f34 : upd H2 D (.lst ((([.non, .ref p23, .ref p24, .str "12", .ref p26, .ref p27, .ref p28, .ref p29, .ref p30, .ref p31, .ref p32] : List V).filter fun _ => true).map fun _ => V.bl true)) D = some (.lst ((List.replicate 11 true).map V.bl)) := upd_same
  generalize upd H2 D (.lst ((([.non, .ref p23, .ref p24, .str "12", .ref p26, .ref p27, .ref p28, .ref p29, .ref p30, .ref p31, .ref p32] : List V).filter fun _ => true).map fun _ => V.bl true)) = G34 at s34 f34
  refine ⟨D, List.replicate 11 true, rfl, SqL.of f34, _, rfl, iteF ?_⟩
  refine ⟨_, rfl, _, rfl, _, rfl, _, _, rfl, rfl, _, rfl, _, _, rfl, rfl, (by show 7 ≤ sizeLine; decide), fun p35 n35 => ?_⟩
  try dsimp (config := { zeta := false, eta := false, iota := false, proj := false }) only
  have s35 := same_new n35 (.lst [.int (-1), .int (-1 - more), .int 5000002, .int (5000002 + more), .bl true, .str "1", .non])
  have f35 : upd G34 p35 (.lst [.int (-1), .int (-1 - more), .int 5000002, .int (5000002 + more), .bl true, .str "1", .non]) p35 = some (.lst [.int (-1), .int (-1 - more), .int 5000002, .int (5000002 + more), .bl true, .str "1", .non]) := upd_same
  generalize upd G34 p35 (.lst [.int (-1), .int (-1 - more), .int 5000002, .int (5000002 + more), .bl true, .str "1", .non]) = G35 at s35 f35
  have all35 : ∀ x ∈ ([.int (-1), .int (-1 - more), .int 5000002, .int (5000002 + more), .bl true, .str "1", .non] : List V), (∃ t : String, TyOf K G35 x (.type t)) ∧ whB 5000001 x = false := by
    intro x hx
    simp only [List.mem_cons, List.not_mem_nil, or_false] at hx
    rcases hx with rfl | rfl | rfl | rfl | rfl | rfl | rfl
    · exact ⟨⟨_, .int _⟩, wh_out (by omega)⟩
    · exact ⟨⟨_, .int _⟩, wh_out (by omega)⟩
    · exact ⟨⟨_, .int _⟩, wh_out (by omega)⟩
    · exact ⟨⟨_, .int _⟩, wh_out (by omega)⟩
    · exact ⟨⟨_, .bl _⟩, rfl⟩
    · exact ⟨⟨_, .str _⟩, rfl⟩
    · exact ⟨⟨_, .non⟩, rfl⟩
  refine ⟨p35, rfl, ⟨_, SqL.of f35⟩, ?_⟩
  refine for_list (xs := [.int (-1), .int (-1 - more), .int 5000002, .int (5000002 + more), .bl true, .str "1", .non]) (fun i σ' H' => ∃ y : Option V, σ' = [some (.ref sc), some (.int more), y3, some (.ref p17), y18, y22, some (.ref p33), y, none] ∧ Same G35 H') ?_ ?_ ?_ ?_
  · exact ⟨_, rfl, Same.refl _⟩
  · rintro i σ' H' _ ⟨y, rfl, hs⟩
    exact SqL.of (hs _ _ f35)
  · rintro i x σ' H' hx ⟨y, rfl, hs⟩
    have hx' := all35 x (List.mem_of_getElem? hx)
    obtain ⟨⟨t, ty⟩, hw⟩ := hx'
    refine ⟨(by show 2 ≤ sizeLine; decide), fun l nl => ?_⟩
    refine ⟨_, rfl, ?_⟩
    refine ⟨3, .ref l, x, "weights", rfl, .inr (.inr (.inr ⟨rfl, .inr (.inr ⟨l, _, rfl, upd_same, (by show 1 ≤ 2; decide), (by show 2 ≤ 5; decide), (fun y hy => by simp only [List.mem_cons, List.not_mem_nil, or_false] at hy; rcases hy with rfl | rfl <;> exact ⟨_, .int _⟩), .inr ⟨t, (ty.same hs).same (same_new nl _), hw⟩⟩), rfl⟩)), fun H3 s3 => ⟨rfl, _, rfl, ?_⟩⟩
    refine ite_f (by rw [decide_eq_true rfl]; rfl) ?_
    exact ⟨_, rfl, hs.trans ((same_new nl _).trans s3)⟩
  rintro σ' G36 ⟨y36, rfl, s36⟩
  refine ⟨(by show 1 ≤ sizeLine; decide), fun p37 n37 => ?_⟩
  try dsimp (config := { zeta := false, eta := false, iota := false, proj := false }) only
  have s37 := same_new n37 (.lst [V.int 1000000])
  have f37 : upd G36 p37 (.lst [V.int 1000000]) p37 = some (.lst [V.int 1000000]) := upd_same
  generalize upd G36 p37 (.lst [V.int 1000000]) = G37 at s37 f37
  refine ⟨p37, 5, _, rfl, rfl, f37, by decide, by decide, (by show 1 * 5 ≤ sizeLine; decide), fun lw nlw => ?_⟩
  refine ⟨lw, [1000000, 1000000, 1000000, 1000000, 1000000], 5000001, rfl, upd_same, ⟨by decide, by decide, (fun x hx => by simp only [List.mem_cons, List.not_mem_nil, or_false] at hx; omega)⟩, by decide, by decide, fun q1 HA nq1 hA cA => ?_⟩
  obtain ⟨⟨dxA, tA, hA1, hA2⟩, _⟩ := id cA
  refine ⟨_, rfl, q1, dxA, _, rfl, hA1, flds_no _ _ (by decide +kernel) (by decide +kernel), q1, _, _, rfl, cA, fun r1 HB nr1 hB hr1 => ?_⟩
  refine ⟨(by show 0 ≤ sizeLine; decide), fun e1 ne1 => ?_⟩
  refine ⟨r1, e1, _, [], rfl, rfl, SqL.of (same_new ne1 _ _ _ hr1), SqL.of upd_same, _, rfl, ?_⟩
  refine ite_f (by rw [decide_eq_true great_least]; rfl) ?_
  have cB := (cA.same hB).same (same_new ne1 (.lst []))
  obtain ⟨⟨dxB, tB, hB1, hB2⟩, _⟩ := id cB
  refine ⟨_, rfl, q1, dxB, _, rfl, hB1, flds_no _ _ (by decide +kernel) (by decide +kernel), q1, _, _, rfl, cB, fun r2 HC nr2 hC hr2 => ?_⟩
  refine ⟨(by show 1 ≤ sizeLine; decide), fun e2 ne2 => ?_⟩
  refine ⟨r2, e2, _, [31], rfl, rfl, SqL.of (same_new ne2 _ _ _ hr2), SqL.of upd_same, _, rfl, ?_⟩
  refine ite_f (by rw [decide_eq_true great_greatest]; rfl) ?_
  refine ⟨(by show 1 ≤ sizeLine; decide), fun lz nlz => ?_⟩
  refine ⟨lz, [0], 0, rfl, upd_same, ⟨by decide, by decide, (fun x hx => by simp only [List.mem_cons, List.not_mem_nil, or_false] at hx; omega)⟩, by decide, by decide, fun q2 HD nq2 hD' cD => ?_⟩
  obtain ⟨⟨dxD, tD, hD1, hD2⟩, _⟩ := id cD
  refine ⟨q2, dxD, _, rfl, hD1, flds_no _ _ (by decide +kernel) (by decide +kernel), q2, _, _, rfl, cD, fun r3 HE nr3 hE hr3 => ?_⟩
  refine ⟨(by show 1 ≤ sizeLine; decide), fun e3 ne3 => ?_⟩
  refine ⟨r3, e3, _, [0], rfl, rfl, SqL.of (same_new ne3 _ _ _ hr3), SqL.of upd_same, _, rfl, ?_⟩
  refine ite_f (by rw [decide_eq_true zero_least]; rfl) ?_
  refine ⟨(by show 1 ≤ sizeLine; decide), fun l5 nl5 => ?_⟩
  refine ⟨l5, 40, _, rfl, rfl, upd_same, by decide, by decide, (by show 1 * 40 ≤ sizeLine; decide), fun l6 nl6 => ?_⟩
  intro x dx nx ndx nex
  refine ⟨x, dx, 5, l6, List.replicate 40 31, rfl, upd_same, by decide, by decide, ?_, forty, fun HF cF kpF => ⟨rfl, ?_⟩⟩
  · rw [upd_ne (ne_of_none upd_same nx), upd_ne (ne_of_none upd_same ndx), upd_same]
    rfl
  obtain ⟨⟨dxF, tF, hF1, hF2⟩, _⟩ := id cF
  refine ⟨x, dxF, _, rfl, hF1, flds_no _ _ (by decide +kernel) (by decide +kernel), x, _, _, rfl, cF, fun r4 HG nr4 hG hr4 => ?_⟩
  refine ⟨(by show 1 ≤ sizeLine; decide), fun e4 ne4 => ?_⟩
  refine ⟨r4, e4, _, [31], rfl, rfl, SqL.of (same_new ne4 _ _ _ hr4), SqL.of upd_same, _, rfl, ?_⟩
  refine ite_t (decide_eq_true forty_least) ?_
  refine ⟨(by show 0 ≤ sizeLine; decide), fun l7 nl7 => ?_⟩
  intro x' dx' nx' ndx' nex'
  refine ⟨x', dx', 1, l7, [], rfl, upd_same, by decide, by decide, ?_, ⟨by decide, (fun g hg => by cases hg)⟩, fun HI cI kpI => ⟨rfl, ?_⟩⟩
  · rw [upd_ne (ne_of_none upd_same nx'), upd_ne (ne_of_none upd_same ndx'), upd_same]
    rfl
  obtain ⟨⟨dxI, tI, hI1, hI2⟩, _⟩ := id cI
  refine ⟨x', dxI, _, rfl, hI1, flds_no _ _ (by decide +kernel) (by decide +kernel), x', _, _, rfl, cI, fun r5 HJ nr5 hJ hr5 => ?_⟩
  refine ⟨(by show 1 ≤ sizeLine; decide), fun e5 ne5 => ?_⟩
  refine ⟨r5, e5, _, [1], rfl, rfl, SqL.of (same_new ne5 _ _ _ hr5), SqL.of upd_same, ?_⟩
  exact qbl (decide_eq_true one_greatest).symm (kend _)
end Wv

set_option Elab.async false
set_option linter.all false
set_option maxRecDepth 100000
set_option maxHeartbeats 4000000

namespace Wv
open PySem L2
theorem txt_mk {K : PySem.W.Frag} {h : Heap} {mg : Str → Option Value} (X : K.In h) (G : h.Ns mainGlobals mg)
    {C_Council C_CouncilError C_BadCouncil C_BadGroup C_NoMember C_Unlike C_BadWeights C_BadText : Addr}
    {f_is_whole f_everybody f_is_member f_is_group f_groups_of f_has f_members_of f_with_member f_within f_weight_of f_Council_init f_Council_carries f_Council_least f_Council_greatest f_Council_is_least f_Council_is_greatest f_refuse_bad_council f_has_one_within f_weighted f_refuse_bad_weights f_tells_apart f_groups_apart f_stands f_refuse_no_member f_law_cell_at f_law_sort f_law_asked f_law : Addr}
    {od_is_whole an_is_whole od_everybody an_everybody od_is_member an_is_member od_is_group an_is_group od_groups_of an_groups_of od_has an_has od_members_of an_members_of od_with_member an_with_member od_within an_within od_weight_of an_weight_of od_Council_init an_Council_init od_Council_carries an_Council_carries od_Council_least an_Council_least od_Council_greatest an_Council_greatest od_Council_is_least an_Council_is_least od_Council_is_greatest an_Council_is_greatest od_refuse_bad_council an_refuse_bad_council od_has_one_within an_has_one_within od_weighted an_weighted od_refuse_bad_weights an_refuse_bad_weights od_tells_apart an_tells_apart od_groups_apart an_groups_apart od_stands an_stands od_refuse_no_member an_refuse_no_member od_law_cell_at an_law_cell_at od_law_sort an_law_sort od_law_asked an_law_asked od_law an_law : Option Addr} {sl_is_whole sl_everybody sl_is_member sl_is_group sl_groups_of sl_has sl_members_of sl_with_member sl_within sl_weight_of sl_Council_init sl_Council_carries sl_Council_least sl_Council_greatest sl_Council_is_least sl_Council_is_greatest sl_refuse_bad_council sl_has_one_within sl_weighted sl_refuse_bad_weights sl_tells_apart sl_groups_apart sl_stands sl_refuse_no_member sl_law_cell_at sl_law_sort sl_law_asked sl_law : Array (Option Value)}
    {oc_is_whole kV_is_whole dc_is_whole pm_is_whole cd_is_whole ct_is_whole oc_everybody kV_everybody dc_everybody pm_everybody cd_everybody ct_everybody oc_is_member kV_is_member dc_is_member pm_is_member cd_is_member ct_is_member oc_is_group kV_is_group dc_is_group pm_is_group cd_is_group ct_is_group oc_groups_of kV_groups_of dc_groups_of pm_groups_of cd_groups_of ct_groups_of oc_has kV_has dc_has pm_has cd_has ct_has oc_members_of kV_members_of dc_members_of pm_members_of cd_members_of ct_members_of oc_with_member kV_with_member dc_with_member pm_with_member cd_with_member ct_with_member oc_within kV_within dc_within pm_within cd_within ct_within oc_weight_of kV_weight_of dc_weight_of pm_weight_of cd_weight_of ct_weight_of oc_Council_init kV_Council_init dc_Council_init pm_Council_init cd_Council_init ct_Council_init oc_Council_carries kV_Council_carries dc_Council_carries pm_Council_carries cd_Council_carries ct_Council_carries oc_Council_least kV_Council_least dc_Council_least pm_Council_least cd_Council_least ct_Council_least oc_Council_greatest kV_Council_greatest dc_Council_greatest pm_Council_greatest cd_Council_greatest ct_Council_greatest oc_Council_is_least kV_Council_is_least dc_Council_is_least pm_Council_is_least cd_Council_is_least ct_Council_is_least oc_Council_is_greatest kV_Council_is_greatest dc_Council_is_greatest pm_Council_is_greatest cd_Council_is_greatest ct_Council_is_greatest oc_refuse_bad_council kV_refuse_bad_council dc_refuse_bad_council pm_refuse_bad_council cd_refuse_bad_council ct_refuse_bad_council oc_has_one_within kV_has_one_within dc_has_one_within pm_has_one_within cd_has_one_within ct_has_one_within oc_weighted kV_weighted dc_weighted pm_weighted cd_weighted ct_weighted oc_refuse_bad_weights kV_refuse_bad_weights dc_refuse_bad_weights pm_refuse_bad_weights cd_refuse_bad_weights ct_refuse_bad_weights oc_tells_apart kV_tells_apart dc_tells_apart pm_tells_apart cd_tells_apart ct_tells_apart oc_groups_apart kV_groups_apart dc_groups_apart pm_groups_apart cd_groups_apart ct_groups_apart oc_stands kV_stands dc_stands pm_stands cd_stands ct_stands oc_refuse_no_member kV_refuse_no_member dc_refuse_no_member pm_refuse_no_member cd_refuse_no_member ct_refuse_no_member oc_law_cell_at kV_law_cell_at dc_law_cell_at pm_law_cell_at cd_law_cell_at ct_law_cell_at oc_law_sort kV_law_sort dc_law_sort pm_law_sort cd_law_sort ct_law_sort oc_law_asked kV_law_asked dc_law_asked pm_law_asked cd_law_asked ct_law_asked oc_law kV_law dc_law pm_law cd_law ct_law : Value}
    {t_MOST_MEMBERS t_MOST_WEIGHT t_MOST_QUOTA : Tok}
    (aC_Council : PySem.W.nsIn K mainGlobals "Council" = some (some (.ref C_Council)))
    (aC_CouncilError : PySem.W.nsIn K mainGlobals "CouncilError" = some (some (.ref C_CouncilError)))
    (aC_BadCouncil : PySem.W.nsIn K mainGlobals "BadCouncil" = some (some (.ref C_BadCouncil)))
    (aC_BadGroup : PySem.W.nsIn K mainGlobals "BadGroup" = some (some (.ref C_BadGroup)))
    (aC_NoMember : PySem.W.nsIn K mainGlobals "NoMember" = some (some (.ref C_NoMember)))
    (aC_Unlike : PySem.W.nsIn K mainGlobals "Unlike" = some (some (.ref C_Unlike)))
    (aC_BadWeights : PySem.W.nsIn K mainGlobals "BadWeights" = some (some (.ref C_BadWeights)))
    (aC_BadText : PySem.W.nsIn K mainGlobals "BadText" = some (some (.ref C_BadText)))
    (a_is_whole : PySem.W.nsIn K mainGlobals "is_whole" = some (some (.ref f_is_whole)))
    (l_is_whole : K.lookup f_is_whole = some ⟨oc_is_whole, od_is_whole, .func (PySem.W.fnOf "is_whole" "is_whole" (defArgs s_is_whole) (defBody s_is_whole) (defScope s_is_whole) .none kV_is_whole dc_is_whole pm_is_whole an_is_whole cd_is_whole ct_is_whole), sl_is_whole⟩)
    (c_is_whole : PySem.W.codeIn K cd_is_whole "is_whole" = true)
    (k_is_whole : PySem.W.keepIn K (.ref f_is_whole) = true)
    (a_everybody : PySem.W.nsIn K mainGlobals "everybody" = some (some (.ref f_everybody)))
    (l_everybody : K.lookup f_everybody = some ⟨oc_everybody, od_everybody, .func (PySem.W.fnOf "everybody" "everybody" (defArgs s_everybody) (defBody s_everybody) (defScope s_everybody) .none kV_everybody dc_everybody pm_everybody an_everybody cd_everybody ct_everybody), sl_everybody⟩)
    (c_everybody : PySem.W.codeIn K cd_everybody "everybody" = true)
    (k_everybody : PySem.W.keepIn K (.ref f_everybody) = true)
    (a_is_member : PySem.W.nsIn K mainGlobals "is_member" = some (some (.ref f_is_member)))
    (l_is_member : K.lookup f_is_member = some ⟨oc_is_member, od_is_member, .func (PySem.W.fnOf "is_member" "is_member" (defArgs s_is_member) (defBody s_is_member) (defScope s_is_member) .none kV_is_member dc_is_member pm_is_member an_is_member cd_is_member ct_is_member), sl_is_member⟩)
    (c_is_member : PySem.W.codeIn K cd_is_member "is_member" = true)
    (k_is_member : PySem.W.keepIn K (.ref f_is_member) = true)
    (a_is_group : PySem.W.nsIn K mainGlobals "is_group" = some (some (.ref f_is_group)))
    (l_is_group : K.lookup f_is_group = some ⟨oc_is_group, od_is_group, .func (PySem.W.fnOf "is_group" "is_group" (defArgs s_is_group) (defBody s_is_group) (defScope s_is_group) .none kV_is_group dc_is_group pm_is_group an_is_group cd_is_group ct_is_group), sl_is_group⟩)
    (c_is_group : PySem.W.codeIn K cd_is_group "is_group" = true)
    (k_is_group : PySem.W.keepIn K (.ref f_is_group) = true)
    (a_groups_of : PySem.W.nsIn K mainGlobals "groups_of" = some (some (.ref f_groups_of)))
    (l_groups_of : K.lookup f_groups_of = some ⟨oc_groups_of, od_groups_of, .func (PySem.W.fnOf "groups_of" "groups_of" (defArgs s_groups_of) (defBody s_groups_of) (defScope s_groups_of) .none kV_groups_of dc_groups_of pm_groups_of an_groups_of cd_groups_of ct_groups_of), sl_groups_of⟩)
    (c_groups_of : PySem.W.codeIn K cd_groups_of "groups_of" = true)
    (k_groups_of : PySem.W.keepIn K (.ref f_groups_of) = true)
    (a_has : PySem.W.nsIn K mainGlobals "has" = some (some (.ref f_has)))
    (l_has : K.lookup f_has = some ⟨oc_has, od_has, .func (PySem.W.fnOf "has" "has" (defArgs s_has) (defBody s_has) (defScope s_has) .none kV_has dc_has pm_has an_has cd_has ct_has), sl_has⟩)
    (c_has : PySem.W.codeIn K cd_has "has" = true)
    (k_has : PySem.W.keepIn K (.ref f_has) = true)
    (a_members_of : PySem.W.nsIn K mainGlobals "members_of" = some (some (.ref f_members_of)))
    (l_members_of : K.lookup f_members_of = some ⟨oc_members_of, od_members_of, .func (PySem.W.fnOf "members_of" "members_of" (defArgs s_members_of) (defBody s_members_of) (defScope s_members_of) .none kV_members_of dc_members_of pm_members_of an_members_of cd_members_of ct_members_of), sl_members_of⟩)
    (c_members_of : PySem.W.codeIn K cd_members_of "members_of" = true)
    (k_members_of : PySem.W.keepIn K (.ref f_members_of) = true)
    (a_with_member : PySem.W.nsIn K mainGlobals "with_member" = some (some (.ref f_with_member)))
    (l_with_member : K.lookup f_with_member = some ⟨oc_with_member, od_with_member, .func (PySem.W.fnOf "with_member" "with_member" (defArgs s_with_member) (defBody s_with_member) (defScope s_with_member) .none kV_with_member dc_with_member pm_with_member an_with_member cd_with_member ct_with_member), sl_with_member⟩)
    (c_with_member : PySem.W.codeIn K cd_with_member "with_member" = true)
    (k_with_member : PySem.W.keepIn K (.ref f_with_member) = true)
    (a_within : PySem.W.nsIn K mainGlobals "within" = some (some (.ref f_within)))
    (l_within : K.lookup f_within = some ⟨oc_within, od_within, .func (PySem.W.fnOf "within" "within" (defArgs s_within) (defBody s_within) (defScope s_within) .none kV_within dc_within pm_within an_within cd_within ct_within), sl_within⟩)
    (c_within : PySem.W.codeIn K cd_within "within" = true)
    (k_within : PySem.W.keepIn K (.ref f_within) = true)
    (a_weight_of : PySem.W.nsIn K mainGlobals "weight_of" = some (some (.ref f_weight_of)))
    (l_weight_of : K.lookup f_weight_of = some ⟨oc_weight_of, od_weight_of, .func (PySem.W.fnOf "weight_of" "weight_of" (defArgs s_weight_of) (defBody s_weight_of) (defScope s_weight_of) .none kV_weight_of dc_weight_of pm_weight_of an_weight_of cd_weight_of ct_weight_of), sl_weight_of⟩)
    (c_weight_of : PySem.W.codeIn K cd_weight_of "weight_of" = true)
    (k_weight_of : PySem.W.keepIn K (.ref f_weight_of) = true)
    (a_Council_init : PySem.W.findIn K (.ref C_Council) "__init__" = some (some (.ref f_Council_init)))
    (i_Council_init : PySem.W.isFn K (.ref f_Council_init) = true)
    (l_Council_init : K.lookup f_Council_init = some ⟨oc_Council_init, od_Council_init, .func (PySem.W.fnOf "__init__" "Council.__init__" (defArgs s_Council_init) (defBody s_Council_init) (defScope s_Council_init) .none kV_Council_init dc_Council_init pm_Council_init an_Council_init cd_Council_init ct_Council_init), sl_Council_init⟩)
    (c_Council_init : PySem.W.codeIn K cd_Council_init "Council.__init__" = true)
    (k_Council_init : PySem.W.keepIn K (.ref f_Council_init) = true)
    (a_Council_carries : PySem.W.findIn K (.ref C_Council) "carries" = some (some (.ref f_Council_carries)))
    (i_Council_carries : PySem.W.isFn K (.ref f_Council_carries) = true)
    (l_Council_carries : K.lookup f_Council_carries = some ⟨oc_Council_carries, od_Council_carries, .func (PySem.W.fnOf "carries" "Council.carries" (defArgs s_Council_carries) (defBody s_Council_carries) (defScope s_Council_carries) .none kV_Council_carries dc_Council_carries pm_Council_carries an_Council_carries cd_Council_carries ct_Council_carries), sl_Council_carries⟩)
    (c_Council_carries : PySem.W.codeIn K cd_Council_carries "Council.carries" = true)
    (k_Council_carries : PySem.W.keepIn K (.ref f_Council_carries) = true)
    (a_Council_least : PySem.W.findIn K (.ref C_Council) "least" = some (some (.ref f_Council_least)))
    (i_Council_least : PySem.W.isFn K (.ref f_Council_least) = true)
    (l_Council_least : K.lookup f_Council_least = some ⟨oc_Council_least, od_Council_least, .func (PySem.W.fnOf "least" "Council.least" (defArgs s_Council_least) (defBody s_Council_least) (defScope s_Council_least) .none kV_Council_least dc_Council_least pm_Council_least an_Council_least cd_Council_least ct_Council_least), sl_Council_least⟩)
    (c_Council_least : PySem.W.codeIn K cd_Council_least "Council.least" = true)
    (k_Council_least : PySem.W.keepIn K (.ref f_Council_least) = true)
    (a_Council_greatest : PySem.W.findIn K (.ref C_Council) "greatest" = some (some (.ref f_Council_greatest)))
    (i_Council_greatest : PySem.W.isFn K (.ref f_Council_greatest) = true)
    (l_Council_greatest : K.lookup f_Council_greatest = some ⟨oc_Council_greatest, od_Council_greatest, .func (PySem.W.fnOf "greatest" "Council.greatest" (defArgs s_Council_greatest) (defBody s_Council_greatest) (defScope s_Council_greatest) .none kV_Council_greatest dc_Council_greatest pm_Council_greatest an_Council_greatest cd_Council_greatest ct_Council_greatest), sl_Council_greatest⟩)
    (c_Council_greatest : PySem.W.codeIn K cd_Council_greatest "Council.greatest" = true)
    (k_Council_greatest : PySem.W.keepIn K (.ref f_Council_greatest) = true)
    (a_Council_is_least : PySem.W.findIn K (.ref C_Council) "is_least" = some (some (.ref f_Council_is_least)))
    (i_Council_is_least : PySem.W.isFn K (.ref f_Council_is_least) = true)
    (l_Council_is_least : K.lookup f_Council_is_least = some ⟨oc_Council_is_least, od_Council_is_least, .func (PySem.W.fnOf "is_least" "Council.is_least" (defArgs s_Council_is_least) (defBody s_Council_is_least) (defScope s_Council_is_least) .none kV_Council_is_least dc_Council_is_least pm_Council_is_least an_Council_is_least cd_Council_is_least ct_Council_is_least), sl_Council_is_least⟩)
    (c_Council_is_least : PySem.W.codeIn K cd_Council_is_least "Council.is_least" = true)
    (k_Council_is_least : PySem.W.keepIn K (.ref f_Council_is_least) = true)
    (a_Council_is_greatest : PySem.W.findIn K (.ref C_Council) "is_greatest" = some (some (.ref f_Council_is_greatest)))
    (i_Council_is_greatest : PySem.W.isFn K (.ref f_Council_is_greatest) = true)
    (l_Council_is_greatest : K.lookup f_Council_is_greatest = some ⟨oc_Council_is_greatest, od_Council_is_greatest, .func (PySem.W.fnOf "is_greatest" "Council.is_greatest" (defArgs s_Council_is_greatest) (defBody s_Council_is_greatest) (defScope s_Council_is_greatest) .none kV_Council_is_greatest dc_Council_is_greatest pm_Council_is_greatest an_Council_is_greatest cd_Council_is_greatest ct_Council_is_greatest), sl_Council_is_greatest⟩)
    (c_Council_is_greatest : PySem.W.codeIn K cd_Council_is_greatest "Council.is_greatest" = true)
    (k_Council_is_greatest : PySem.W.keepIn K (.ref f_Council_is_greatest) = true)
    (a_refuse_bad_council : PySem.W.nsIn K mainGlobals "refuse_bad_council" = some (some (.ref f_refuse_bad_council)))
    (l_refuse_bad_council : K.lookup f_refuse_bad_council = some ⟨oc_refuse_bad_council, od_refuse_bad_council, .func (PySem.W.fnOf "refuse_bad_council" "refuse_bad_council" (defArgs s_refuse_bad_council) (defBody s_refuse_bad_council) (defScope s_refuse_bad_council) .none kV_refuse_bad_council dc_refuse_bad_council pm_refuse_bad_council an_refuse_bad_council cd_refuse_bad_council ct_refuse_bad_council), sl_refuse_bad_council⟩)
    (c_refuse_bad_council : PySem.W.codeIn K cd_refuse_bad_council "refuse_bad_council" = true)
    (k_refuse_bad_council : PySem.W.keepIn K (.ref f_refuse_bad_council) = true)
    (a_has_one_within : PySem.W.nsIn K mainGlobals "has_one_within" = some (some (.ref f_has_one_within)))
    (l_has_one_within : K.lookup f_has_one_within = some ⟨oc_has_one_within, od_has_one_within, .func (PySem.W.fnOf "has_one_within" "has_one_within" (defArgs s_has_one_within) (defBody s_has_one_within) (defScope s_has_one_within) .none kV_has_one_within dc_has_one_within pm_has_one_within an_has_one_within cd_has_one_within ct_has_one_within), sl_has_one_within⟩)
    (c_has_one_within : PySem.W.codeIn K cd_has_one_within "has_one_within" = true)
    (k_has_one_within : PySem.W.keepIn K (.ref f_has_one_within) = true)
    (a_weighted : PySem.W.nsIn K mainGlobals "weighted" = some (some (.ref f_weighted)))
    (l_weighted : K.lookup f_weighted = some ⟨oc_weighted, od_weighted, .func (PySem.W.fnOf "weighted" "weighted" (defArgs s_weighted) (defBody s_weighted) (defScope s_weighted) .none kV_weighted dc_weighted pm_weighted an_weighted cd_weighted ct_weighted), sl_weighted⟩)
    (c_weighted : PySem.W.codeIn K cd_weighted "weighted" = true)
    (k_weighted : PySem.W.keepIn K (.ref f_weighted) = true)
    (a_refuse_bad_weights : PySem.W.nsIn K mainGlobals "refuse_bad_weights" = some (some (.ref f_refuse_bad_weights)))
    (l_refuse_bad_weights : K.lookup f_refuse_bad_weights = some ⟨oc_refuse_bad_weights, od_refuse_bad_weights, .func (PySem.W.fnOf "refuse_bad_weights" "refuse_bad_weights" (defArgs s_refuse_bad_weights) (defBody s_refuse_bad_weights) (defScope s_refuse_bad_weights) .none kV_refuse_bad_weights dc_refuse_bad_weights pm_refuse_bad_weights an_refuse_bad_weights cd_refuse_bad_weights ct_refuse_bad_weights), sl_refuse_bad_weights⟩)
    (c_refuse_bad_weights : PySem.W.codeIn K cd_refuse_bad_weights "refuse_bad_weights" = true)
    (k_refuse_bad_weights : PySem.W.keepIn K (.ref f_refuse_bad_weights) = true)
    (a_tells_apart : PySem.W.nsIn K mainGlobals "tells_apart" = some (some (.ref f_tells_apart)))
    (l_tells_apart : K.lookup f_tells_apart = some ⟨oc_tells_apart, od_tells_apart, .func (PySem.W.fnOf "tells_apart" "tells_apart" (defArgs s_tells_apart) (defBody s_tells_apart) (defScope s_tells_apart) .none kV_tells_apart dc_tells_apart pm_tells_apart an_tells_apart cd_tells_apart ct_tells_apart), sl_tells_apart⟩)
    (c_tells_apart : PySem.W.codeIn K cd_tells_apart "tells_apart" = true)
    (k_tells_apart : PySem.W.keepIn K (.ref f_tells_apart) = true)
    (a_groups_apart : PySem.W.nsIn K mainGlobals "groups_apart" = some (some (.ref f_groups_apart)))
    (l_groups_apart : K.lookup f_groups_apart = some ⟨oc_groups_apart, od_groups_apart, .func (PySem.W.fnOf "groups_apart" "groups_apart" (defArgs s_groups_apart) (defBody s_groups_apart) (defScope s_groups_apart) .none kV_groups_apart dc_groups_apart pm_groups_apart an_groups_apart cd_groups_apart ct_groups_apart), sl_groups_apart⟩)
    (c_groups_apart : PySem.W.codeIn K cd_groups_apart "groups_apart" = true)
    (k_groups_apart : PySem.W.keepIn K (.ref f_groups_apart) = true)
    (a_stands : PySem.W.nsIn K mainGlobals "stands" = some (some (.ref f_stands)))
    (l_stands : K.lookup f_stands = some ⟨oc_stands, od_stands, .func (PySem.W.fnOf "stands" "stands" (defArgs s_stands) (defBody s_stands) (defScope s_stands) .none kV_stands dc_stands pm_stands an_stands cd_stands ct_stands), sl_stands⟩)
    (c_stands : PySem.W.codeIn K cd_stands "stands" = true)
    (k_stands : PySem.W.keepIn K (.ref f_stands) = true)
    (a_refuse_no_member : PySem.W.nsIn K mainGlobals "refuse_no_member" = some (some (.ref f_refuse_no_member)))
    (l_refuse_no_member : K.lookup f_refuse_no_member = some ⟨oc_refuse_no_member, od_refuse_no_member, .func (PySem.W.fnOf "refuse_no_member" "refuse_no_member" (defArgs s_refuse_no_member) (defBody s_refuse_no_member) (defScope s_refuse_no_member) .none kV_refuse_no_member dc_refuse_no_member pm_refuse_no_member an_refuse_no_member cd_refuse_no_member ct_refuse_no_member), sl_refuse_no_member⟩)
    (c_refuse_no_member : PySem.W.codeIn K cd_refuse_no_member "refuse_no_member" = true)
    (k_refuse_no_member : PySem.W.keepIn K (.ref f_refuse_no_member) = true)
    (a_law_cell_at : PySem.W.nsIn K mainGlobals "_law_cell_at" = some (some (.ref f_law_cell_at)))
    (l_law_cell_at : K.lookup f_law_cell_at = some ⟨oc_law_cell_at, od_law_cell_at, .func (PySem.W.fnOf "_law_cell_at" "_law_cell_at" (defArgs s_law_cell_at) (defBody s_law_cell_at) (defScope s_law_cell_at) .none kV_law_cell_at dc_law_cell_at pm_law_cell_at an_law_cell_at cd_law_cell_at ct_law_cell_at), sl_law_cell_at⟩)
    (c_law_cell_at : PySem.W.codeIn K cd_law_cell_at "_law_cell_at" = true)
    (k_law_cell_at : PySem.W.keepIn K (.ref f_law_cell_at) = true)
    (a_law_sort : PySem.W.nsIn K mainGlobals "_law_sort" = some (some (.ref f_law_sort)))
    (l_law_sort : K.lookup f_law_sort = some ⟨oc_law_sort, od_law_sort, .func (PySem.W.fnOf "_law_sort" "_law_sort" (defArgs s_law_sort) (defBody s_law_sort) (defScope s_law_sort) .none kV_law_sort dc_law_sort pm_law_sort an_law_sort cd_law_sort ct_law_sort), sl_law_sort⟩)
    (c_law_sort : PySem.W.codeIn K cd_law_sort "_law_sort" = true)
    (k_law_sort : PySem.W.keepIn K (.ref f_law_sort) = true)
    (a_law_asked : PySem.W.nsIn K mainGlobals "_law_asked" = some (some (.ref f_law_asked)))
    (l_law_asked : K.lookup f_law_asked = some ⟨oc_law_asked, od_law_asked, .func (PySem.W.fnOf "_law_asked" "_law_asked" (defArgs s_law_asked) (defBody s_law_asked) (defScope s_law_asked) .none kV_law_asked dc_law_asked pm_law_asked an_law_asked cd_law_asked ct_law_asked), sl_law_asked⟩)
    (c_law_asked : PySem.W.codeIn K cd_law_asked "_law_asked" = true)
    (k_law_asked : PySem.W.keepIn K (.ref f_law_asked) = true)
    (a_law : PySem.W.nsIn K mainGlobals "law" = some (some (.ref f_law)))
    (l_law : K.lookup f_law = some ⟨oc_law, od_law, .func (PySem.W.fnOf "law" "law" (defArgs s_law) (defBody s_law) (defScope s_law) .none kV_law dc_law pm_law an_law cd_law ct_law), sl_law⟩)
    (c_law : PySem.W.codeIn K cd_law "law" = true)
    (k_law : PySem.W.keepIn K (.ref f_law) = true)
    (pg_Council : PySem.W.plainGet K C_Council Str.empty = true)
    (hd_Council : PySem.W.hasDictIn K C_Council = true)
    (po_Council : PySem.W.plainOver K C_Council = true)
    (sa_Council : PySem.W.findIn K (.ref C_Council) "__setattr__" = some (some (.builtin "object.__setattr__")))
    (mk_Council : PySem.W.makesIn K C_Council = true)
    (kc_Council : PySem.W.keepIn K (.ref C_Council) = true)
    (xe_CouncilError : PySem.W.excIn K C_CouncilError bmV "ValueError.__new__" = true)
    (xg_CouncilError : PySem.W.findIn K (.ref C_CouncilError) "__getattribute__" = some (some (.builtin "BaseException.__getattribute__")))
    (xn_CouncilError : PySem.W.findIn K (.ref C_CouncilError) "__getattr__" = some none)
    (xc_CouncilError : PySem.W.findIn K (.ref C_CouncilError) "__class__" = some (some (.builtin "object.__class__")))
    (xb_CouncilError : PySem.W.mroIn K C_CouncilError (.type "BaseException") = some true)
    (xo_CouncilError : PySem.W.mroIn K C_CouncilError (.type "object") = some true)
    (xe_BadCouncil : PySem.W.excIn K C_BadCouncil bmV "ValueError.__new__" = true)
    (xg_BadCouncil : PySem.W.findIn K (.ref C_BadCouncil) "__getattribute__" = some (some (.builtin "BaseException.__getattribute__")))
    (xn_BadCouncil : PySem.W.findIn K (.ref C_BadCouncil) "__getattr__" = some none)
    (xc_BadCouncil : PySem.W.findIn K (.ref C_BadCouncil) "__class__" = some (some (.builtin "object.__class__")))
    (xb_BadCouncil : PySem.W.mroIn K C_BadCouncil (.type "BaseException") = some true)
    (xo_BadCouncil : PySem.W.mroIn K C_BadCouncil (.type "object") = some true)
    (xe_BadGroup : PySem.W.excIn K C_BadGroup bmV "ValueError.__new__" = true)
    (xg_BadGroup : PySem.W.findIn K (.ref C_BadGroup) "__getattribute__" = some (some (.builtin "BaseException.__getattribute__")))
    (xn_BadGroup : PySem.W.findIn K (.ref C_BadGroup) "__getattr__" = some none)
    (xc_BadGroup : PySem.W.findIn K (.ref C_BadGroup) "__class__" = some (some (.builtin "object.__class__")))
    (xb_BadGroup : PySem.W.mroIn K C_BadGroup (.type "BaseException") = some true)
    (xo_BadGroup : PySem.W.mroIn K C_BadGroup (.type "object") = some true)
    (xe_NoMember : PySem.W.excIn K C_NoMember bmV "ValueError.__new__" = true)
    (xg_NoMember : PySem.W.findIn K (.ref C_NoMember) "__getattribute__" = some (some (.builtin "BaseException.__getattribute__")))
    (xn_NoMember : PySem.W.findIn K (.ref C_NoMember) "__getattr__" = some none)
    (xc_NoMember : PySem.W.findIn K (.ref C_NoMember) "__class__" = some (some (.builtin "object.__class__")))
    (xb_NoMember : PySem.W.mroIn K C_NoMember (.type "BaseException") = some true)
    (xo_NoMember : PySem.W.mroIn K C_NoMember (.type "object") = some true)
    (xe_Unlike : PySem.W.excIn K C_Unlike bmV "ValueError.__new__" = true)
    (xg_Unlike : PySem.W.findIn K (.ref C_Unlike) "__getattribute__" = some (some (.builtin "BaseException.__getattribute__")))
    (xn_Unlike : PySem.W.findIn K (.ref C_Unlike) "__getattr__" = some none)
    (xc_Unlike : PySem.W.findIn K (.ref C_Unlike) "__class__" = some (some (.builtin "object.__class__")))
    (xb_Unlike : PySem.W.mroIn K C_Unlike (.type "BaseException") = some true)
    (xo_Unlike : PySem.W.mroIn K C_Unlike (.type "object") = some true)
    (xe_BadWeights : PySem.W.excIn K C_BadWeights bmV "ValueError.__new__" = true)
    (xg_BadWeights : PySem.W.findIn K (.ref C_BadWeights) "__getattribute__" = some (some (.builtin "BaseException.__getattribute__")))
    (xn_BadWeights : PySem.W.findIn K (.ref C_BadWeights) "__getattr__" = some none)
    (xc_BadWeights : PySem.W.findIn K (.ref C_BadWeights) "__class__" = some (some (.builtin "object.__class__")))
    (xb_BadWeights : PySem.W.mroIn K C_BadWeights (.type "BaseException") = some true)
    (xo_BadWeights : PySem.W.mroIn K C_BadWeights (.type "object") = some true)
    (xe_BadText : PySem.W.excIn K C_BadText bmV "ValueError.__new__" = true)
    (xg_BadText : PySem.W.findIn K (.ref C_BadText) "__getattribute__" = some (some (.builtin "BaseException.__getattribute__")))
    (xn_BadText : PySem.W.findIn K (.ref C_BadText) "__getattr__" = some none)
    (xc_BadText : PySem.W.findIn K (.ref C_BadText) "__class__" = some (some (.builtin "object.__class__")))
    (xb_BadText : PySem.W.mroIn K C_BadText (.type "BaseException") = some true)
    (xo_BadText : PySem.W.mroIn K C_BadText (.type "object") = some true)
    (ks_BadCouncil : PySem.W.mroIn K C_BadCouncil (.ref C_BadCouncil) = some true)
    (ks_BadGroup : PySem.W.mroIn K C_BadGroup (.ref C_BadGroup) = some true)
    (ks_BadWeights : PySem.W.mroIn K C_BadWeights (.ref C_BadWeights) = some true)
    (ks_NoMember : PySem.W.mroIn K C_NoMember (.ref C_NoMember) = some true)
    (ki_BadCouncil_BadCouncil : PySem.W.mroIn K C_BadCouncil (.ref C_BadCouncil) = some true)
    (ki_BadCouncil_BadGroup : PySem.W.mroIn K C_BadCouncil (.ref C_BadGroup) = some false)
    (ki_BadCouncil_NoMember : PySem.W.mroIn K C_BadCouncil (.ref C_NoMember) = some false)
    (ki_BadCouncil_BadWeights : PySem.W.mroIn K C_BadCouncil (.ref C_BadWeights) = some false)
    (ki_BadCouncil_Unlike : PySem.W.mroIn K C_BadCouncil (.ref C_Unlike) = some false)
    (ki_BadCouncil_BadText : PySem.W.mroIn K C_BadCouncil (.ref C_BadText) = some false)
    (ki_BadCouncil_ValueError : PySem.W.mroIn K C_BadCouncil (.type "ValueError") = some true)
    (ki_BadGroup_BadCouncil : PySem.W.mroIn K C_BadGroup (.ref C_BadCouncil) = some false)
    (ki_BadGroup_BadGroup : PySem.W.mroIn K C_BadGroup (.ref C_BadGroup) = some true)
    (ki_BadGroup_NoMember : PySem.W.mroIn K C_BadGroup (.ref C_NoMember) = some false)
    (ki_BadGroup_BadWeights : PySem.W.mroIn K C_BadGroup (.ref C_BadWeights) = some false)
    (ki_BadGroup_Unlike : PySem.W.mroIn K C_BadGroup (.ref C_Unlike) = some false)
    (ki_BadGroup_BadText : PySem.W.mroIn K C_BadGroup (.ref C_BadText) = some false)
    (ki_BadGroup_ValueError : PySem.W.mroIn K C_BadGroup (.type "ValueError") = some true)
    (ki_NoMember_BadCouncil : PySem.W.mroIn K C_NoMember (.ref C_BadCouncil) = some false)
    (ki_NoMember_BadGroup : PySem.W.mroIn K C_NoMember (.ref C_BadGroup) = some false)
    (ki_NoMember_NoMember : PySem.W.mroIn K C_NoMember (.ref C_NoMember) = some true)
    (ki_NoMember_BadWeights : PySem.W.mroIn K C_NoMember (.ref C_BadWeights) = some false)
    (ki_NoMember_Unlike : PySem.W.mroIn K C_NoMember (.ref C_Unlike) = some false)
    (ki_NoMember_BadText : PySem.W.mroIn K C_NoMember (.ref C_BadText) = some false)
    (ki_NoMember_ValueError : PySem.W.mroIn K C_NoMember (.type "ValueError") = some true)
    (ki_BadWeights_BadCouncil : PySem.W.mroIn K C_BadWeights (.ref C_BadCouncil) = some false)
    (ki_BadWeights_BadGroup : PySem.W.mroIn K C_BadWeights (.ref C_BadGroup) = some false)
    (ki_BadWeights_NoMember : PySem.W.mroIn K C_BadWeights (.ref C_NoMember) = some false)
    (ki_BadWeights_BadWeights : PySem.W.mroIn K C_BadWeights (.ref C_BadWeights) = some true)
    (ki_BadWeights_Unlike : PySem.W.mroIn K C_BadWeights (.ref C_Unlike) = some false)
    (ki_BadWeights_BadText : PySem.W.mroIn K C_BadWeights (.ref C_BadText) = some false)
    (ki_BadWeights_ValueError : PySem.W.mroIn K C_BadWeights (.type "ValueError") = some true)
    (su_BadCouncil_CouncilError : PySem.W.mroIn K C_BadCouncil (.ref C_CouncilError) = some true)
    (su_BadGroup_CouncilError : PySem.W.mroIn K C_BadGroup (.ref C_CouncilError) = some true)
    (su_NoMember_CouncilError : PySem.W.mroIn K C_NoMember (.ref C_CouncilError) = some true)
    (su_BadWeights_CouncilError : PySem.W.mroIn K C_BadWeights (.ref C_CouncilError) = some true)
    (n_Council_members : PySem.W.findIn K (.ref C_Council) "members" = some none)
    (n_Council_table : PySem.W.findIn K (.ref C_Council) "table" = some none)
    (g_MOST_MEMBERS : PySem.W.nsIn K mainGlobals "MOST_MEMBERS" = some (some (.int 5 t_MOST_MEMBERS)))
    (g_MOST_WEIGHT : PySem.W.nsIn K mainGlobals "MOST_WEIGHT" = some (some (.int 1000000 t_MOST_WEIGHT)))
    (g_MOST_QUOTA : PySem.W.nsIn K mainGlobals "MOST_QUOTA" = some (some (.int 5000001 t_MOST_QUOTA)))
    (z_ValueError : PySem.W.nsIn K mainGlobals "ValueError" = some none)
    (z_all : PySem.W.nsIn K mainGlobals "all" = some none)
    (z_any : PySem.W.nsIn K mainGlobals "any" = some none)
    (z_bool : PySem.W.nsIn K mainGlobals "bool" = some none)
    (z_enumerate : PySem.W.nsIn K mainGlobals "enumerate" = some none)
    (z_int : PySem.W.nsIn K mainGlobals "int" = some none)
    (z_isinstance : PySem.W.nsIn K mainGlobals "isinstance" = some none)
    (z_len : PySem.W.nsIn K mainGlobals "len" = some none)
    (z_list : PySem.W.nsIn K mainGlobals "list" = some none)
    (z_range : PySem.W.nsIn K mainGlobals "range" = some none)
    (z_sum : PySem.W.nsIn K mainGlobals "sum" = some none)
    (z_tuple : PySem.W.nsIn K mainGlobals "tuple" = some none)
    : ∃ a : Adr, Txt K mg a ∧ mg "law" = some (.ref a.a_law) ∧ ∃ (kV doc pm : Value) (an : Option Addr) (cdv ct : Value), a.d_law = PySem.W.fnOf "law" "law" (defArgs s_law) (defBody s_law) (defScope s_law) .none kV doc pm an cdv ct := by
  refine ⟨{ C_Council := C_Council, C_CouncilError := C_CouncilError, C_BadCouncil := C_BadCouncil, C_BadGroup := C_BadGroup, C_NoMember := C_NoMember, C_Unlike := C_Unlike, C_BadWeights := C_BadWeights, C_BadText := C_BadText, a_is_whole := f_is_whole, d_is_whole := PySem.W.fnOf "is_whole" "is_whole" (defArgs s_is_whole) (defBody s_is_whole) (defScope s_is_whole) .none kV_is_whole dc_is_whole pm_is_whole an_is_whole cd_is_whole ct_is_whole, a_everybody := f_everybody, d_everybody := PySem.W.fnOf "everybody" "everybody" (defArgs s_everybody) (defBody s_everybody) (defScope s_everybody) .none kV_everybody dc_everybody pm_everybody an_everybody cd_everybody ct_everybody, a_is_member := f_is_member, d_is_member := PySem.W.fnOf "is_member" "is_member" (defArgs s_is_member) (defBody s_is_member) (defScope s_is_member) .none kV_is_member dc_is_member pm_is_member an_is_member cd_is_member ct_is_member, a_is_group := f_is_group, d_is_group := PySem.W.fnOf "is_group" "is_group" (defArgs s_is_group) (defBody s_is_group) (defScope s_is_group) .none kV_is_group dc_is_group pm_is_group an_is_group cd_is_group ct_is_group, a_groups_of := f_groups_of, d_groups_of := PySem.W.fnOf "groups_of" "groups_of" (defArgs s_groups_of) (defBody s_groups_of) (defScope s_groups_of) .none kV_groups_of dc_groups_of pm_groups_of an_groups_of cd_groups_of ct_groups_of, a_has := f_has, d_has := PySem.W.fnOf "has" "has" (defArgs s_has) (defBody s_has) (defScope s_has) .none kV_has dc_has pm_has an_has cd_has ct_has, a_members_of := f_members_of, d_members_of := PySem.W.fnOf "members_of" "members_of" (defArgs s_members_of) (defBody s_members_of) (defScope s_members_of) .none kV_members_of dc_members_of pm_members_of an_members_of cd_members_of ct_members_of, a_with_member := f_with_member, d_with_member := PySem.W.fnOf "with_member" "with_member" (defArgs s_with_member) (defBody s_with_member) (defScope s_with_member) .none kV_with_member dc_with_member pm_with_member an_with_member cd_with_member ct_with_member, a_within := f_within, d_within := PySem.W.fnOf "within" "within" (defArgs s_within) (defBody s_within) (defScope s_within) .none kV_within dc_within pm_within an_within cd_within ct_within, a_weight_of := f_weight_of, d_weight_of := PySem.W.fnOf "weight_of" "weight_of" (defArgs s_weight_of) (defBody s_weight_of) (defScope s_weight_of) .none kV_weight_of dc_weight_of pm_weight_of an_weight_of cd_weight_of ct_weight_of, a_Council_init := f_Council_init, d_Council_init := PySem.W.fnOf "__init__" "Council.__init__" (defArgs s_Council_init) (defBody s_Council_init) (defScope s_Council_init) .none kV_Council_init dc_Council_init pm_Council_init an_Council_init cd_Council_init ct_Council_init, a_Council_carries := f_Council_carries, d_Council_carries := PySem.W.fnOf "carries" "Council.carries" (defArgs s_Council_carries) (defBody s_Council_carries) (defScope s_Council_carries) .none kV_Council_carries dc_Council_carries pm_Council_carries an_Council_carries cd_Council_carries ct_Council_carries, a_Council_least := f_Council_least, d_Council_least := PySem.W.fnOf "least" "Council.least" (defArgs s_Council_least) (defBody s_Council_least) (defScope s_Council_least) .none kV_Council_least dc_Council_least pm_Council_least an_Council_least cd_Council_least ct_Council_least, a_Council_greatest := f_Council_greatest, d_Council_greatest := PySem.W.fnOf "greatest" "Council.greatest" (defArgs s_Council_greatest) (defBody s_Council_greatest) (defScope s_Council_greatest) .none kV_Council_greatest dc_Council_greatest pm_Council_greatest an_Council_greatest cd_Council_greatest ct_Council_greatest, a_Council_is_least := f_Council_is_least, d_Council_is_least := PySem.W.fnOf "is_least" "Council.is_least" (defArgs s_Council_is_least) (defBody s_Council_is_least) (defScope s_Council_is_least) .none kV_Council_is_least dc_Council_is_least pm_Council_is_least an_Council_is_least cd_Council_is_least ct_Council_is_least, a_Council_is_greatest := f_Council_is_greatest, d_Council_is_greatest := PySem.W.fnOf "is_greatest" "Council.is_greatest" (defArgs s_Council_is_greatest) (defBody s_Council_is_greatest) (defScope s_Council_is_greatest) .none kV_Council_is_greatest dc_Council_is_greatest pm_Council_is_greatest an_Council_is_greatest cd_Council_is_greatest ct_Council_is_greatest, a_refuse_bad_council := f_refuse_bad_council, d_refuse_bad_council := PySem.W.fnOf "refuse_bad_council" "refuse_bad_council" (defArgs s_refuse_bad_council) (defBody s_refuse_bad_council) (defScope s_refuse_bad_council) .none kV_refuse_bad_council dc_refuse_bad_council pm_refuse_bad_council an_refuse_bad_council cd_refuse_bad_council ct_refuse_bad_council, a_has_one_within := f_has_one_within, d_has_one_within := PySem.W.fnOf "has_one_within" "has_one_within" (defArgs s_has_one_within) (defBody s_has_one_within) (defScope s_has_one_within) .none kV_has_one_within dc_has_one_within pm_has_one_within an_has_one_within cd_has_one_within ct_has_one_within, a_weighted := f_weighted, d_weighted := PySem.W.fnOf "weighted" "weighted" (defArgs s_weighted) (defBody s_weighted) (defScope s_weighted) .none kV_weighted dc_weighted pm_weighted an_weighted cd_weighted ct_weighted, a_refuse_bad_weights := f_refuse_bad_weights, d_refuse_bad_weights := PySem.W.fnOf "refuse_bad_weights" "refuse_bad_weights" (defArgs s_refuse_bad_weights) (defBody s_refuse_bad_weights) (defScope s_refuse_bad_weights) .none kV_refuse_bad_weights dc_refuse_bad_weights pm_refuse_bad_weights an_refuse_bad_weights cd_refuse_bad_weights ct_refuse_bad_weights, a_tells_apart := f_tells_apart, d_tells_apart := PySem.W.fnOf "tells_apart" "tells_apart" (defArgs s_tells_apart) (defBody s_tells_apart) (defScope s_tells_apart) .none kV_tells_apart dc_tells_apart pm_tells_apart an_tells_apart cd_tells_apart ct_tells_apart, a_groups_apart := f_groups_apart, d_groups_apart := PySem.W.fnOf "groups_apart" "groups_apart" (defArgs s_groups_apart) (defBody s_groups_apart) (defScope s_groups_apart) .none kV_groups_apart dc_groups_apart pm_groups_apart an_groups_apart cd_groups_apart ct_groups_apart, a_stands := f_stands, d_stands := PySem.W.fnOf "stands" "stands" (defArgs s_stands) (defBody s_stands) (defScope s_stands) .none kV_stands dc_stands pm_stands an_stands cd_stands ct_stands, a_refuse_no_member := f_refuse_no_member, d_refuse_no_member := PySem.W.fnOf "refuse_no_member" "refuse_no_member" (defArgs s_refuse_no_member) (defBody s_refuse_no_member) (defScope s_refuse_no_member) .none kV_refuse_no_member dc_refuse_no_member pm_refuse_no_member an_refuse_no_member cd_refuse_no_member ct_refuse_no_member, a_law_cell_at := f_law_cell_at, d_law_cell_at := PySem.W.fnOf "_law_cell_at" "_law_cell_at" (defArgs s_law_cell_at) (defBody s_law_cell_at) (defScope s_law_cell_at) .none kV_law_cell_at dc_law_cell_at pm_law_cell_at an_law_cell_at cd_law_cell_at ct_law_cell_at, a_law_sort := f_law_sort, d_law_sort := PySem.W.fnOf "_law_sort" "_law_sort" (defArgs s_law_sort) (defBody s_law_sort) (defScope s_law_sort) .none kV_law_sort dc_law_sort pm_law_sort an_law_sort cd_law_sort ct_law_sort, a_law_asked := f_law_asked, d_law_asked := PySem.W.fnOf "_law_asked" "_law_asked" (defArgs s_law_asked) (defBody s_law_asked) (defScope s_law_asked) .none kV_law_asked dc_law_asked pm_law_asked an_law_asked cd_law_asked ct_law_asked, a_law := f_law, d_law := PySem.W.fnOf "law" "law" (defArgs s_law) (defBody s_law) (defScope s_law) .none kV_law dc_law pm_law an_law cd_law ct_law, t_MOST_MEMBERS := t_MOST_MEMBERS, t_MOST_WEIGHT := t_MOST_WEIGHT, t_MOST_QUOTA := t_MOST_QUOTA }, ?_, PySem.W.mg_of X G a_law, _, _, _, _, _, _, rfl⟩
  exact { cl_Council := ⟨pg_Council, hd_Council, po_Council, sa_Council⟩, m_Council := PySem.W.mg_of X G aC_Council, mk_Council := ⟨mk_Council, a_Council_init, i_Council_init, kc_Council⟩, m_CouncilError := PySem.W.mg_of X G aC_CouncilError, x_CouncilError := ⟨xe_CouncilError, xg_CouncilError, xn_CouncilError, xc_CouncilError, xb_CouncilError, xo_CouncilError⟩, m_BadCouncil := PySem.W.mg_of X G aC_BadCouncil, x_BadCouncil := ⟨xe_BadCouncil, xg_BadCouncil, xn_BadCouncil, xc_BadCouncil, xb_BadCouncil, xo_BadCouncil⟩, m_BadGroup := PySem.W.mg_of X G aC_BadGroup, x_BadGroup := ⟨xe_BadGroup, xg_BadGroup, xn_BadGroup, xc_BadGroup, xb_BadGroup, xo_BadGroup⟩, m_NoMember := PySem.W.mg_of X G aC_NoMember, x_NoMember := ⟨xe_NoMember, xg_NoMember, xn_NoMember, xc_NoMember, xb_NoMember, xo_NoMember⟩, m_Unlike := PySem.W.mg_of X G aC_Unlike, x_Unlike := ⟨xe_Unlike, xg_Unlike, xn_Unlike, xc_Unlike, xb_Unlike, xo_Unlike⟩, m_BadWeights := PySem.W.mg_of X G aC_BadWeights, x_BadWeights := ⟨xe_BadWeights, xg_BadWeights, xn_BadWeights, xc_BadWeights, xb_BadWeights, xo_BadWeights⟩, m_BadText := PySem.W.mg_of X G aC_BadText, x_BadText := ⟨xe_BadText, xg_BadText, xn_BadText, xc_BadText, xb_BadText, xo_BadText⟩, ki_BadCouncil_BadCouncil := kit_own ⟨xe_BadCouncil, xg_BadCouncil, xn_BadCouncil, xc_BadCouncil, xb_BadCouncil, xo_BadCouncil⟩ ks_BadCouncil ki_BadCouncil_BadCouncil, ki_BadCouncil_BadGroup := kit_own ⟨xe_BadGroup, xg_BadGroup, xn_BadGroup, xc_BadGroup, xb_BadGroup, xo_BadGroup⟩ ks_BadCouncil ki_BadCouncil_BadGroup, ki_BadCouncil_NoMember := kit_own ⟨xe_NoMember, xg_NoMember, xn_NoMember, xc_NoMember, xb_NoMember, xo_NoMember⟩ ks_BadCouncil ki_BadCouncil_NoMember, ki_BadCouncil_BadWeights := kit_own ⟨xe_BadWeights, xg_BadWeights, xn_BadWeights, xc_BadWeights, xb_BadWeights, xo_BadWeights⟩ ks_BadCouncil ki_BadCouncil_BadWeights, ki_BadCouncil_Unlike := kit_own ⟨xe_Unlike, xg_Unlike, xn_Unlike, xc_Unlike, xb_Unlike, xo_Unlike⟩ ks_BadCouncil ki_BadCouncil_Unlike, ki_BadCouncil_BadText := kit_own ⟨xe_BadText, xg_BadText, xn_BadText, xc_BadText, xb_BadText, xo_BadText⟩ ks_BadCouncil ki_BadCouncil_BadText, ki_BadCouncil_ValueError := kit_ty kit_VE ki_BadCouncil_ValueError, ki_BadGroup_BadCouncil := kit_own ⟨xe_BadCouncil, xg_BadCouncil, xn_BadCouncil, xc_BadCouncil, xb_BadCouncil, xo_BadCouncil⟩ ks_BadGroup ki_BadGroup_BadCouncil, ki_BadGroup_BadGroup := kit_own ⟨xe_BadGroup, xg_BadGroup, xn_BadGroup, xc_BadGroup, xb_BadGroup, xo_BadGroup⟩ ks_BadGroup ki_BadGroup_BadGroup, ki_BadGroup_NoMember := kit_own ⟨xe_NoMember, xg_NoMember, xn_NoMember, xc_NoMember, xb_NoMember, xo_NoMember⟩ ks_BadGroup ki_BadGroup_NoMember, ki_BadGroup_BadWeights := kit_own ⟨xe_BadWeights, xg_BadWeights, xn_BadWeights, xc_BadWeights, xb_BadWeights, xo_BadWeights⟩ ks_BadGroup ki_BadGroup_BadWeights, ki_BadGroup_Unlike := kit_own ⟨xe_Unlike, xg_Unlike, xn_Unlike, xc_Unlike, xb_Unlike, xo_Unlike⟩ ks_BadGroup ki_BadGroup_Unlike, ki_BadGroup_BadText := kit_own ⟨xe_BadText, xg_BadText, xn_BadText, xc_BadText, xb_BadText, xo_BadText⟩ ks_BadGroup ki_BadGroup_BadText, ki_BadGroup_ValueError := kit_ty kit_VE ki_BadGroup_ValueError, ki_NoMember_BadCouncil := kit_own ⟨xe_BadCouncil, xg_BadCouncil, xn_BadCouncil, xc_BadCouncil, xb_BadCouncil, xo_BadCouncil⟩ ks_NoMember ki_NoMember_BadCouncil, ki_NoMember_BadGroup := kit_own ⟨xe_BadGroup, xg_BadGroup, xn_BadGroup, xc_BadGroup, xb_BadGroup, xo_BadGroup⟩ ks_NoMember ki_NoMember_BadGroup, ki_NoMember_NoMember := kit_own ⟨xe_NoMember, xg_NoMember, xn_NoMember, xc_NoMember, xb_NoMember, xo_NoMember⟩ ks_NoMember ki_NoMember_NoMember, ki_NoMember_BadWeights := kit_own ⟨xe_BadWeights, xg_BadWeights, xn_BadWeights, xc_BadWeights, xb_BadWeights, xo_BadWeights⟩ ks_NoMember ki_NoMember_BadWeights, ki_NoMember_Unlike := kit_own ⟨xe_Unlike, xg_Unlike, xn_Unlike, xc_Unlike, xb_Unlike, xo_Unlike⟩ ks_NoMember ki_NoMember_Unlike, ki_NoMember_BadText := kit_own ⟨xe_BadText, xg_BadText, xn_BadText, xc_BadText, xb_BadText, xo_BadText⟩ ks_NoMember ki_NoMember_BadText, ki_NoMember_ValueError := kit_ty kit_VE ki_NoMember_ValueError, ki_BadWeights_BadCouncil := kit_own ⟨xe_BadCouncil, xg_BadCouncil, xn_BadCouncil, xc_BadCouncil, xb_BadCouncil, xo_BadCouncil⟩ ks_BadWeights ki_BadWeights_BadCouncil, ki_BadWeights_BadGroup := kit_own ⟨xe_BadGroup, xg_BadGroup, xn_BadGroup, xc_BadGroup, xb_BadGroup, xo_BadGroup⟩ ks_BadWeights ki_BadWeights_BadGroup, ki_BadWeights_NoMember := kit_own ⟨xe_NoMember, xg_NoMember, xn_NoMember, xc_NoMember, xb_NoMember, xo_NoMember⟩ ks_BadWeights ki_BadWeights_NoMember, ki_BadWeights_BadWeights := kit_own ⟨xe_BadWeights, xg_BadWeights, xn_BadWeights, xc_BadWeights, xb_BadWeights, xo_BadWeights⟩ ks_BadWeights ki_BadWeights_BadWeights, ki_BadWeights_Unlike := kit_own ⟨xe_Unlike, xg_Unlike, xn_Unlike, xc_Unlike, xb_Unlike, xo_Unlike⟩ ks_BadWeights ki_BadWeights_Unlike, ki_BadWeights_BadText := kit_own ⟨xe_BadText, xg_BadText, xn_BadText, xc_BadText, xb_BadText, xo_BadText⟩ ks_BadWeights ki_BadWeights_BadText, ki_BadWeights_ValueError := kit_ty kit_VE ki_BadWeights_ValueError, su_BadCouncil_CouncilError := su_BadCouncil_CouncilError, su_BadGroup_CouncilError := su_BadGroup_CouncilError, su_NoMember_CouncilError := su_NoMember_CouncilError, su_BadWeights_CouncilError := su_BadWeights_CouncilError, n_Council_members := n_Council_members, n_Council_table := n_Council_table, F_is_whole := fun_mk (st := s_is_whole) l_is_whole c_is_whole k_is_whole, m_is_whole := PySem.W.mg_of X G a_is_whole, F_everybody := fun_mk (st := s_everybody) l_everybody c_everybody k_everybody, m_everybody := PySem.W.mg_of X G a_everybody, F_is_member := fun_mk (st := s_is_member) l_is_member c_is_member k_is_member, m_is_member := PySem.W.mg_of X G a_is_member, F_is_group := fun_mk (st := s_is_group) l_is_group c_is_group k_is_group, m_is_group := PySem.W.mg_of X G a_is_group, F_groups_of := fun_mk (st := s_groups_of) l_groups_of c_groups_of k_groups_of, m_groups_of := PySem.W.mg_of X G a_groups_of, F_has := fun_mk (st := s_has) l_has c_has k_has, m_has := PySem.W.mg_of X G a_has, F_members_of := fun_mk (st := s_members_of) l_members_of c_members_of k_members_of, m_members_of := PySem.W.mg_of X G a_members_of, F_with_member := fun_mk (st := s_with_member) l_with_member c_with_member k_with_member, m_with_member := PySem.W.mg_of X G a_with_member, F_within := fun_mk (st := s_within) l_within c_within k_within, m_within := PySem.W.mg_of X G a_within, F_weight_of := fun_mk (st := s_weight_of) l_weight_of c_weight_of k_weight_of, m_weight_of := PySem.W.mg_of X G a_weight_of, F_Council_init := fun_mk (st := s_Council_init) l_Council_init c_Council_init k_Council_init, F_Council_carries := fun_mk (st := s_Council_carries) l_Council_carries c_Council_carries k_Council_carries, mt_Council_carries := ⟨a_Council_carries, i_Council_carries, k_Council_carries⟩, F_Council_least := fun_mk (st := s_Council_least) l_Council_least c_Council_least k_Council_least, mt_Council_least := ⟨a_Council_least, i_Council_least, k_Council_least⟩, F_Council_greatest := fun_mk (st := s_Council_greatest) l_Council_greatest c_Council_greatest k_Council_greatest, mt_Council_greatest := ⟨a_Council_greatest, i_Council_greatest, k_Council_greatest⟩, F_Council_is_least := fun_mk (st := s_Council_is_least) l_Council_is_least c_Council_is_least k_Council_is_least, mt_Council_is_least := ⟨a_Council_is_least, i_Council_is_least, k_Council_is_least⟩, F_Council_is_greatest := fun_mk (st := s_Council_is_greatest) l_Council_is_greatest c_Council_is_greatest k_Council_is_greatest, mt_Council_is_greatest := ⟨a_Council_is_greatest, i_Council_is_greatest, k_Council_is_greatest⟩, F_refuse_bad_council := fun_mk (st := s_refuse_bad_council) l_refuse_bad_council c_refuse_bad_council k_refuse_bad_council, m_refuse_bad_council := PySem.W.mg_of X G a_refuse_bad_council, F_has_one_within := fun_mk (st := s_has_one_within) l_has_one_within c_has_one_within k_has_one_within, m_has_one_within := PySem.W.mg_of X G a_has_one_within, F_weighted := fun_mk (st := s_weighted) l_weighted c_weighted k_weighted, m_weighted := PySem.W.mg_of X G a_weighted, F_refuse_bad_weights := fun_mk (st := s_refuse_bad_weights) l_refuse_bad_weights c_refuse_bad_weights k_refuse_bad_weights, m_refuse_bad_weights := PySem.W.mg_of X G a_refuse_bad_weights, F_tells_apart := fun_mk (st := s_tells_apart) l_tells_apart c_tells_apart k_tells_apart, m_tells_apart := PySem.W.mg_of X G a_tells_apart, F_groups_apart := fun_mk (st := s_groups_apart) l_groups_apart c_groups_apart k_groups_apart, m_groups_apart := PySem.W.mg_of X G a_groups_apart, F_stands := fun_mk (st := s_stands) l_stands c_stands k_stands, m_stands := PySem.W.mg_of X G a_stands, F_refuse_no_member := fun_mk (st := s_refuse_no_member) l_refuse_no_member c_refuse_no_member k_refuse_no_member, m_refuse_no_member := PySem.W.mg_of X G a_refuse_no_member, F_law_cell_at := fun_mk (st := s_law_cell_at) l_law_cell_at c_law_cell_at k_law_cell_at, m_law_cell_at := PySem.W.mg_of X G a_law_cell_at, F_law_sort := fun_mk (st := s_law_sort) l_law_sort c_law_sort k_law_sort, m_law_sort := PySem.W.mg_of X G a_law_sort, F_law_asked := fun_mk (st := s_law_asked) l_law_asked c_law_asked k_law_asked, m_law_asked := PySem.W.mg_of X G a_law_asked, F_law := fun_mk (st := s_law) l_law c_law k_law, m_law := PySem.W.mg_of X G a_law, g_MOST_MEMBERS := PySem.W.mg_of X G g_MOST_MEMBERS, g_MOST_WEIGHT := PySem.W.mg_of X G g_MOST_WEIGHT, g_MOST_QUOTA := PySem.W.mg_of X G g_MOST_QUOTA, z_ValueError := PySem.W.mg_none_of X G z_ValueError, z_all := PySem.W.mg_none_of X G z_all, z_any := PySem.W.mg_none_of X G z_any, z_bool := PySem.W.mg_none_of X G z_bool, z_enumerate := PySem.W.mg_none_of X G z_enumerate, z_int := PySem.W.mg_none_of X G z_int, z_isinstance := PySem.W.mg_none_of X G z_isinstance, z_len := PySem.W.mg_none_of X G z_len, z_list := PySem.W.mg_none_of X G z_list, z_range := PySem.W.mg_none_of X G z_range, z_sum := PySem.W.mg_none_of X G z_sum, z_tuple := PySem.W.mg_none_of X G z_tuple }
theorem walk {l : PySem.W.OpenLaw} {q : Program} {loose : List Str} {XP : (Str → Option Value) → Heap → Prop} {YP : World → Heap → Prop} {d : DefRec} {K : Params → PySem.W.Frag} (hn : l.most = some 63) (hdf : d.params.defaults = [])
    (hY : ∀ (w : World) (h : Heap), YP w h → (K w.params).In h)
    (F : ∀ (w : World) (mg : Str → Option Value) (fa : Addr) (h : Heap), (K w.params).In h → h.Ns mainGlobals mg → mg d.name = some (.ref fa) → mg "law" = some (.ref fa) ∧ ∃ a : Adr, Txt (K w.params) mg a ∧ mg "law" = some (.ref a.a_law) ∧ ∃ (kV doc pm : Value) (an : Option Addr) (cdv ct : Value), a.d_law = PySem.W.fnOf "law" "law" (defArgs s_law) (defBody s_law) (defScope s_law) .none kV doc pm an cdv ct) :
    PySem.W.WalkO q loose XP YP l.row.toRowW d [] (fun f vs => PySem.call f vs) := by
  refine L2.walk_of (n := 63) (k := 8) (x := "_law_script") (CX := fun _ => CX0) (sp := fun w => sp_law (K w.params)) hn (by decide) hdf ⟨rfl, by decide, by decide⟩ hY (fun w mg fa h KX G hmg => ?_) (fun _ _ a ns hl _ hS => ⟨a, ns, rfl, hS, hl, fun _ => rfl⟩) fun _ _ _ _ _ z => z
  obtain ⟨e1, a, T, e2, kV, doc, pm, an, cdv, ct, e3⟩ := F w mg fa h KX G hmg
  have e := e1.symm.trans e2
  cases e
  refine ⟨a.d_law, fun s u => ?_, fun base _ _ => ok_law T⟩
  rw [e3]
  exact .of_eq rfl
end Wv
open PySem PySem.W PyProof.Rows
set_option maxRecDepth 100000 in
set_option maxHeartbeats 0 in
theorem PySem.Challenge.cw_weighvote_k08_refused_holds : PySem.Challenge.rw_weighvote_k08_refused.Holds := by
  w_on; o_law; k_head; (case hw => w_witness2)
  k_fill
  refine Wv.walk (l := PySem.Challenge.rw_weighvote_k08_refused) rfl rfl (fun w h Y => PySem.W.kIn_of Y) ?F
  case F =>
    intro w mg fa h KX G hmg
    refine ⟨hmg, ?_⟩
    refine' Wv.txt_mk KX G ?aC_Council ?aC_CouncilError ?aC_BadCouncil ?aC_BadGroup ?aC_NoMember ?aC_Unlike ?aC_BadWeights ?aC_BadText ?a_is_whole ?l_is_whole ?c_is_whole ?k_is_whole ?a_everybody ?l_everybody ?c_everybody ?k_everybody ?a_is_member ?l_is_member ?c_is_member ?k_is_member ?a_is_group ?l_is_group ?c_is_group ?k_is_group ?a_groups_of ?l_groups_of ?c_groups_of ?k_groups_of ?a_has ?l_has ?c_has ?k_has ?a_members_of ?l_members_of ?c_members_of ?k_members_of ?a_with_member ?l_with_member ?c_with_member ?k_with_member ?a_within ?l_within ?c_within ?k_within ?a_weight_of ?l_weight_of ?c_weight_of ?k_weight_of ?a_Council_init ?i_Council_init ?l_Council_init ?c_Council_init ?k_Council_init ?a_Council_carries ?i_Council_carries ?l_Council_carries ?c_Council_carries ?k_Council_carries ?a_Council_least ?i_Council_least ?l_Council_least ?c_Council_least ?k_Council_least ?a_Council_greatest ?i_Council_greatest ?l_Council_greatest ?c_Council_greatest ?k_Council_greatest ?a_Council_is_least ?i_Council_is_least ?l_Council_is_least ?c_Council_is_least ?k_Council_is_least ?a_Council_is_greatest ?i_Council_is_greatest ?l_Council_is_greatest ?c_Council_is_greatest ?k_Council_is_greatest ?a_refuse_bad_council ?l_refuse_bad_council ?c_refuse_bad_council ?k_refuse_bad_council ?a_has_one_within ?l_has_one_within ?c_has_one_within ?k_has_one_within ?a_weighted ?l_weighted ?c_weighted ?k_weighted ?a_refuse_bad_weights ?l_refuse_bad_weights ?c_refuse_bad_weights ?k_refuse_bad_weights ?a_tells_apart ?l_tells_apart ?c_tells_apart ?k_tells_apart ?a_groups_apart ?l_groups_apart ?c_groups_apart ?k_groups_apart ?a_stands ?l_stands ?c_stands ?k_stands ?a_refuse_no_member ?l_refuse_no_member ?c_refuse_no_member ?k_refuse_no_member ?a_law_cell_at ?l_law_cell_at ?c_law_cell_at ?k_law_cell_at ?a_law_sort ?l_law_sort ?c_law_sort ?k_law_sort ?a_law_asked ?l_law_asked ?c_law_asked ?k_law_asked ?a_law ?l_law ?c_law ?k_law ?pg_Council ?hd_Council ?po_Council ?sa_Council ?mk_Council ?kc_Council ?xe_CouncilError ?xg_CouncilError ?xn_CouncilError ?xc_CouncilError ?xb_CouncilError ?xo_CouncilError ?xe_BadCouncil ?xg_BadCouncil ?xn_BadCouncil ?xc_BadCouncil ?xb_BadCouncil ?xo_BadCouncil ?xe_BadGroup ?xg_BadGroup ?xn_BadGroup ?xc_BadGroup ?xb_BadGroup ?xo_BadGroup ?xe_NoMember ?xg_NoMember ?xn_NoMember ?xc_NoMember ?xb_NoMember ?xo_NoMember ?xe_Unlike ?xg_Unlike ?xn_Unlike ?xc_Unlike ?xb_Unlike ?xo_Unlike ?xe_BadWeights ?xg_BadWeights ?xn_BadWeights ?xc_BadWeights ?xb_BadWeights ?xo_BadWeights ?xe_BadText ?xg_BadText ?xn_BadText ?xc_BadText ?xb_BadText ?xo_BadText ?ks_BadCouncil ?ks_BadGroup ?ks_BadWeights ?ks_NoMember ?ki_BadCouncil_BadCouncil ?ki_BadCouncil_BadGroup ?ki_BadCouncil_NoMember ?ki_BadCouncil_BadWeights ?ki_BadCouncil_Unlike ?ki_BadCouncil_BadText ?ki_BadCouncil_ValueError ?ki_BadGroup_BadCouncil ?ki_BadGroup_BadGroup ?ki_BadGroup_NoMember ?ki_BadGroup_BadWeights ?ki_BadGroup_Unlike ?ki_BadGroup_BadText ?ki_BadGroup_ValueError ?ki_NoMember_BadCouncil ?ki_NoMember_BadGroup ?ki_NoMember_NoMember ?ki_NoMember_BadWeights ?ki_NoMember_Unlike ?ki_NoMember_BadText ?ki_NoMember_ValueError ?ki_BadWeights_BadCouncil ?ki_BadWeights_BadGroup ?ki_BadWeights_NoMember ?ki_BadWeights_BadWeights ?ki_BadWeights_Unlike ?ki_BadWeights_BadText ?ki_BadWeights_ValueError ?su_BadCouncil_CouncilError ?su_BadGroup_CouncilError ?su_NoMember_CouncilError ?su_BadWeights_CouncilError ?n_Council_members ?n_Council_table ?g_MOST_MEMBERS ?g_MOST_WEIGHT ?g_MOST_QUOTA ?z_ValueError ?z_all ?z_any ?z_bool ?z_enumerate ?z_int ?z_isinstance ?z_len ?z_list ?z_range ?z_sum ?z_tuple
    (case aC_Council => k_is)
    (case aC_CouncilError => k_is)
    (case aC_BadCouncil => k_is)
    (case aC_BadGroup => k_is)
    (case aC_NoMember => k_is)
    (case aC_Unlike => k_is)
    (case aC_BadWeights => k_is)
    (case aC_BadText => k_is)
    (case a_is_whole => k_is)
    (case l_is_whole => k_is)
    (case c_is_whole => k_is)
    (case k_is_whole => k_is)
    (case a_everybody => k_is)
    (case l_everybody => k_is)
    (case c_everybody => k_is)
    (case k_everybody => k_is)
    (case a_is_member => k_is)
    (case l_is_member => k_is)
    (case c_is_member => k_is)
    (case k_is_member => k_is)
    (case a_is_group => k_is)
    (case l_is_group => k_is)
    (case c_is_group => k_is)
    (case k_is_group => k_is)
    (case a_groups_of => k_is)
    (case l_groups_of => k_is)
    (case c_groups_of => k_is)
    (case k_groups_of => k_is)
    (case a_has => k_is)
    (case l_has => k_is)
    (case c_has => k_is)
    (case k_has => k_is)
    (case a_members_of => k_is)
    (case l_members_of => k_is)
    (case c_members_of => k_is)
    (case k_members_of => k_is)
    (case a_with_member => k_is)
    (case l_with_member => k_is)
    (case c_with_member => k_is)
    (case k_with_member => k_is)
    (case a_within => k_is)
    (case l_within => k_is)
    (case c_within => k_is)
    (case k_within => k_is)
    (case a_weight_of => k_is)
    (case l_weight_of => k_is)
    (case c_weight_of => k_is)
    (case k_weight_of => k_is)
    (case a_Council_init => k_is)
    (case i_Council_init => k_is)
    (case l_Council_init => k_is)
    (case c_Council_init => k_is)
    (case k_Council_init => k_is)
    (case a_Council_carries => k_is)
    (case i_Council_carries => k_is)
    (case l_Council_carries => k_is)
    (case c_Council_carries => k_is)
    (case k_Council_carries => k_is)
    (case a_Council_least => k_is)
    (case i_Council_least => k_is)
    (case l_Council_least => k_is)
    (case c_Council_least => k_is)
    (case k_Council_least => k_is)
    (case a_Council_greatest => k_is)
    (case i_Council_greatest => k_is)
    (case l_Council_greatest => k_is)
    (case c_Council_greatest => k_is)
    (case k_Council_greatest => k_is)
    (case a_Council_is_least => k_is)
    (case i_Council_is_least => k_is)
    (case l_Council_is_least => k_is)
    (case c_Council_is_least => k_is)
    (case k_Council_is_least => k_is)
    (case a_Council_is_greatest => k_is)
    (case i_Council_is_greatest => k_is)
    (case l_Council_is_greatest => k_is)
    (case c_Council_is_greatest => k_is)
    (case k_Council_is_greatest => k_is)
    (case a_refuse_bad_council => k_is)
    (case l_refuse_bad_council => k_is)
    (case c_refuse_bad_council => k_is)
    (case k_refuse_bad_council => k_is)
    (case a_has_one_within => k_is)
    (case l_has_one_within => k_is)
    (case c_has_one_within => k_is)
    (case k_has_one_within => k_is)
    (case a_weighted => k_is)
    (case l_weighted => k_is)
    (case c_weighted => k_is)
    (case k_weighted => k_is)
    (case a_refuse_bad_weights => k_is)
    (case l_refuse_bad_weights => k_is)
    (case c_refuse_bad_weights => k_is)
    (case k_refuse_bad_weights => k_is)
    (case a_tells_apart => k_is)
    (case l_tells_apart => k_is)
    (case c_tells_apart => k_is)
    (case k_tells_apart => k_is)
    (case a_groups_apart => k_is)
    (case l_groups_apart => k_is)
    (case c_groups_apart => k_is)
    (case k_groups_apart => k_is)
    (case a_stands => k_is)
    (case l_stands => k_is)
    (case c_stands => k_is)
    (case k_stands => k_is)
    (case a_refuse_no_member => k_is)
    (case l_refuse_no_member => k_is)
    (case c_refuse_no_member => k_is)
    (case k_refuse_no_member => k_is)
    (case a_law_cell_at => k_is)
    (case l_law_cell_at => k_is)
    (case c_law_cell_at => k_is)
    (case k_law_cell_at => k_is)
    (case a_law_sort => k_is)
    (case l_law_sort => k_is)
    (case c_law_sort => k_is)
    (case k_law_sort => k_is)
    (case a_law_asked => k_is)
    (case l_law_asked => k_is)
    (case c_law_asked => k_is)
    (case k_law_asked => k_is)
    (case a_law => k_is)
    (case l_law => k_is)
    (case c_law => k_is)
    (case k_law => k_is)
    (case pg_Council => k_is)
    (case hd_Council => k_is)
    (case po_Council => k_is)
    (case sa_Council => k_is)
    (case mk_Council => k_is)
    (case kc_Council => k_is)
    (case xe_CouncilError => k_exc)
    (case xg_CouncilError => k_is)
    (case xn_CouncilError => k_is)
    (case xc_CouncilError => k_is)
    (case xb_CouncilError => k_is)
    (case xo_CouncilError => k_is)
    (case xe_BadCouncil => k_exc)
    (case xg_BadCouncil => k_is)
    (case xn_BadCouncil => k_is)
    (case xc_BadCouncil => k_is)
    (case xb_BadCouncil => k_is)
    (case xo_BadCouncil => k_is)
    (case xe_BadGroup => k_exc)
    (case xg_BadGroup => k_is)
    (case xn_BadGroup => k_is)
    (case xc_BadGroup => k_is)
    (case xb_BadGroup => k_is)
    (case xo_BadGroup => k_is)
    (case xe_NoMember => k_exc)
    (case xg_NoMember => k_is)
    (case xn_NoMember => k_is)
    (case xc_NoMember => k_is)
    (case xb_NoMember => k_is)
    (case xo_NoMember => k_is)
    (case xe_Unlike => k_exc)
    (case xg_Unlike => k_is)
    (case xn_Unlike => k_is)
    (case xc_Unlike => k_is)
    (case xb_Unlike => k_is)
    (case xo_Unlike => k_is)
    (case xe_BadWeights => k_exc)
    (case xg_BadWeights => k_is)
    (case xn_BadWeights => k_is)
    (case xc_BadWeights => k_is)
    (case xb_BadWeights => k_is)
    (case xo_BadWeights => k_is)
    (case xe_BadText => k_exc)
    (case xg_BadText => k_is)
    (case xn_BadText => k_is)
    (case xc_BadText => k_is)
    (case xb_BadText => k_is)
    (case xo_BadText => k_is)
    (case ks_BadCouncil => k_is)
    (case ks_BadGroup => k_is)
    (case ks_BadWeights => k_is)
    (case ks_NoMember => k_is)
    (case ki_BadCouncil_BadCouncil => k_is)
    (case ki_BadCouncil_BadGroup => k_is)
    (case ki_BadCouncil_NoMember => k_is)
    (case ki_BadCouncil_BadWeights => k_is)
    (case ki_BadCouncil_Unlike => k_is)
    (case ki_BadCouncil_BadText => k_is)
    (case ki_BadCouncil_ValueError => k_is)
    (case ki_BadGroup_BadCouncil => k_is)
    (case ki_BadGroup_BadGroup => k_is)
    (case ki_BadGroup_NoMember => k_is)
    (case ki_BadGroup_BadWeights => k_is)
    (case ki_BadGroup_Unlike => k_is)
    (case ki_BadGroup_BadText => k_is)
    (case ki_BadGroup_ValueError => k_is)
    (case ki_NoMember_BadCouncil => k_is)
    (case ki_NoMember_BadGroup => k_is)
    (case ki_NoMember_NoMember => k_is)
    (case ki_NoMember_BadWeights => k_is)
    (case ki_NoMember_Unlike => k_is)
    (case ki_NoMember_BadText => k_is)
    (case ki_NoMember_ValueError => k_is)
    (case ki_BadWeights_BadCouncil => k_is)
    (case ki_BadWeights_BadGroup => k_is)
    (case ki_BadWeights_NoMember => k_is)
    (case ki_BadWeights_BadWeights => k_is)
    (case ki_BadWeights_Unlike => k_is)
    (case ki_BadWeights_BadText => k_is)
    (case ki_BadWeights_ValueError => k_is)
    (case su_BadCouncil_CouncilError => k_is)
    (case su_BadGroup_CouncilError => k_is)
    (case su_NoMember_CouncilError => k_is)
    (case su_BadWeights_CouncilError => k_is)
    (case n_Council_members => k_is)
    (case n_Council_table => k_is)
    (case g_MOST_MEMBERS => k_is)
    (case g_MOST_WEIGHT => k_is)
    (case g_MOST_QUOTA => k_is)
    (case z_ValueError => k_is)
    (case z_all => k_is)
    (case z_any => k_is)
    (case z_bool => k_is)
    (case z_enumerate => k_is)
    (case z_int => k_is)
    (case z_isinstance => k_is)
    (case z_len => k_is)
    (case z_list => k_is)
    (case z_range => k_is)
    (case z_sum => k_is)
    (case z_tuple => k_is)
