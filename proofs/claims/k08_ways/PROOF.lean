import PyProof.Rows.All
import Wide.All
import OpenK.AllK
import Wide.FinOn
import Lean
import PyProof.EqAt
import PyProof.EqKinds
import PyProof.TupleCall
import PySem.Challenge.RW_growbook_k08_ways
set_option Elab.async false
set_option linter.all false
set_option maxRecDepth 100000
set_option Elab.async false
set_option linter.all false
set_option maxRecDepth 100000
/-! THE HAND LAYER, for ints, bools, texts, own classes, LISTS and tuples (index, slices, in, append, pop ..), calls, loops. Paste it whole ahead of your own text; what your proof does not reach may be deleted. -/
namespace L2
open PySem PySem.Spec PyProof.Rows

/-- a key: an int or a str -/
abbrev Key := Sum Int Str
def keyIs : Key → Value → Bool
  | .inl k, v => Value.isInt k v
  | .inr x, v => Value.isStrOf x v
def keyH (w : World) : Key → Int
  | .inl k => hashInt k
  | .inr x => hashStr w x
theorem keyIs_shape : ∀ {k : Key} {v : Value}, keyIs k v = true → (∃ i t, k = Sum.inl i ∧ v = Value.int i t) ∨ (∃ x t, k = Sum.inr x ∧ v = Value.str x t)
  | .inl i, v, h => by
    obtain ⟨t, e⟩ := Value.isInt_shape (k := i) (v := v) h
    exact .inl ⟨i, t, rfl, e⟩
  | .inr x, v, h => by
    obtain ⟨t, e⟩ := Value.isStrOf_shape (x := x) (v := v) h
    exact .inr ⟨x, t, rfl, e⟩
theorem keyIs_int (i : Int) (t : Tok) : keyIs (.inl i) (.int i t) = true := by simp [keyIs, Value.isInt]
theorem keyIs_str (x : Str) (t : Tok) : keyIs (.inr x) (.str x t) = true := by simp [keyIs, Value.isStrOf]
theorem key_ll (a b : Int) : decide ((Sum.inl a : Key) = Sum.inl b) = (a == b) := by
  by_cases e : a = b
  · subst e; simp
  · have h : ¬ (Sum.inl a : Key) = Sum.inl b := fun q => e (Sum.inl.inj q)
    rw [decide_eq_false h]
    exact (beq_eq_false_iff_ne.mpr e).symm
theorem key_rr (a b : Str) : decide ((Sum.inr a : Key) = Sum.inr b) = decide (a = b) := by
  by_cases e : a = b
  · subst e; simp
  · have h : ¬ (Sum.inr a : Key) = Sum.inr b := fun q => e (Sum.inr.inj q)
    rw [decide_eq_false h, decide_eq_false e]
theorem key_lr (a : Int) (b : Str) : decide ((Sum.inl a : Key) = Sum.inr b) = false := decide_eq_false (fun q => nomatch q)
theorem key_rl (a : Str) (b : Int) : decide ((Sum.inr a : Key) = Sum.inl b) = false := decide_eq_false (fun q => nomatch q)

def mixKind (prog : Program) (w : World) : PySem.KeyKind prog w Key where
  is := keyIs
  hash := keyH w
  inj := fun v a b ha hb => by
    rcases keyIs_shape ha with ⟨i, t, rfl, rfl⟩ | ⟨x, t, rfl, rfl⟩
    · rcases keyIs_shape hb with ⟨j, u, rfl, e⟩ | ⟨y, u, rfl, e⟩
      · injection e with e1 _; rw [e1]
      · exact nomatch e
    · rcases keyIs_shape hb with ⟨j, u, rfl, e⟩ | ⟨y, u, rfl, e⟩
      · exact nomatch e
      · injection e with e1 _; rw [e1]
  byValue := fun k v h => by
    rcases keyIs_shape h with ⟨i, t, rfl, rfl⟩ | ⟨x, t, rfl, rfl⟩ <;> rfl
  pyHash := fun hv h => by
    rcases keyIs_shape hv with ⟨i, t, rfl, rfl⟩ | ⟨x, t, rfl, rfl⟩
    · exact wpAny_pyHash_int h
    · exact wpAny_pyHash_str h
  eqBool := fun hu hv h => by
    rcases keyIs_shape hu with ⟨i, t, rfl, rfl⟩ | ⟨x, t, rfl, rfl⟩
    · rcases keyIs_shape hv with ⟨j, u, rfl, rfl⟩ | ⟨y, u, rfl, rfl⟩
      · rw [key_ll] at h; exact wpAny_eqBool_int h
      · rw [key_lr] at h; exact SeqAt.EqAt.int_str i t y u _ _ _ _ h
    · rcases keyIs_shape hv with ⟨j, u, rfl, rfl⟩ | ⟨y, u, rfl, rfl⟩
      · rw [key_rl] at h; exact SeqAt.EqAt.str_int x t j u _ _ _ _ h
      · rw [key_rr] at h; exact wpAny_eqBool_str h
  «strs» := fun k x t v h => by
    rcases keyIs_shape h with ⟨i, u, rfl, e⟩ | ⟨y, u, rfl, e⟩
    · exact nomatch e
    · injection e with e1 _
      subst e1
      cases v <;> rfl

theorem mixKind_is (prog : Program) (w : World) (k : Key) (v : Value) : (mixKind prog w).is k v = keyIs k v := rfl
theorem mixKind_int (prog : Program) (w : World) (i : Int) (t : Tok) : (mixKind prog w).is (.inl i) (.int i t) = true := keyIs_int i t
theorem mixKind_str (prog : Program) (w : World) (x : Str) (t : Tok) : (mixKind prog w).is (.inr x) (.str x t) = true := keyIs_str x t
end L2

namespace L2
open PySem PySem.Spec PyProof.Rows

/-- a value, without the heap -/
inductive V where
  | non | bl (b : Bool) | int (i : Int) | str (x : Str) | byt (b : Array UInt8) | flt (b : UInt64) | ref (a : Addr) | ty (n : String)
  deriving DecidableEq

def RelV : V → Value → Prop
  | .non, u => u = Value.none
  | .bl b, u => u = Value.bool b
  | .int i, u => ∃ t, u = Value.int i t
  | .str x, u => ∃ t, u = Value.str x t
  | .byt b, u => ∃ t, u = Value.bytes b t
  | .flt b, u => ∃ t, u = Value.float b t
  | .ref a, u => u = Value.ref a
  | .ty n, u => u = Value.type n

abbrev Vals : List V → List Value → Prop := Paired RelV
theorem Vals.length {xs : List V} {us : List Value} (r : Vals xs us) : xs.length = us.length := Paired.length r
theorem Vals.get : ∀ {xs : List V} {us : List Value} {i : Nat} {x : V}, Vals xs us → xs[i]? = some x → ∃ u, us[i]? = some u ∧ RelV x u
  | _, _, _, _, .nil, e => by simp at e
  | _, _, 0, _, .cons r _, e => by simp at e; subst e; exact ⟨_, rfl, r⟩
  | _, _, i + 1, x, .cons _ t, e => by
    obtain ⟨u, h1, h2⟩ := Vals.get (i := i) (x := x) t (by simpa using e)
    exact ⟨u, by simpa using h1, h2⟩
theorem Vals.set {x : V} {u : Value} (r : RelV x u) : ∀ {xs : List V} {us : List Value} (i : Nat), Vals xs us → Vals (xs.set i x) (us.set i u)
  | _, _, _, .nil => .nil
  | _, _, 0, .cons _ t => .cons r t
  | _, _, i + 1, .cons q t => .cons q (Vals.set r i t)
theorem Vals.append : ∀ {xs ys : List V} {us ws : List Value}, Vals xs us → Vals ys ws → Vals (xs ++ ys) (us ++ ws)
  | _, _, _, _, .nil, s => s
  | _, _, _, _, .cons r t, s => .cons r (Vals.append t s)
theorem Vals.take : ∀ {xs : List V} {us : List Value} (n : Nat), Vals xs us → Vals (xs.take n) (us.take n)
  | _, _, 0, _ => .nil
  | _, _, _ + 1, .nil => .nil
  | _, _, n + 1, .cons r t => .cons r (Vals.take n t)
theorem Vals.drop : ∀ {xs : List V} {us : List Value} (n : Nat), Vals xs us → Vals (xs.drop n) (us.drop n)
  | _, _, 0, r => r
  | _, _, _ + 1, .nil => .nil
  | _, _, n + 1, .cons _ t => Vals.drop n t
theorem Vals.none_of : ∀ {xs : List V} {us : List Value} {i : Nat}, Vals xs us → xs[i]? = none → us[i]? = none := fun {xs us i} r e => by
  have h1 := r.length
  have h2 : xs.length ≤ i := List.getElem?_eq_none_iff.mp e
  exact List.getElem?_eq_none_iff.mpr (by omega)

def RelO : Option V → Option Value → Prop
  | some v, some u => RelV v u
  | none, none => True
  | _, _ => False
def KV {κ : Type} : List (κ × V) → List (κ × Value) → Prop := Paired fun (p : κ × V) (q : κ × Value) => p.1 = q.1 ∧ RelV p.2 q.2

/-- a key of a dict (00_mix): an int or a text -/
def kV : Key → V
  | .inl i => .int i
  | .inr x => .str x

/-- what stands at a tracked address -/
inductive HO where
  /-- a list -/
  | lst (xs : List V)
  /-- a tuple (never changes) -/
  | tup (xs : List V)
  /-- a dict whose keys are ints and texts; one whose keys are tuples of ints and texts (the empty one is both) -/
  | dK (kvs : List (Key × V)) | dT (kvs : List (List Key × V))
  /-- a set of ints: its members, its size -/
  | set (S : Int → Bool) (n : Nat)
  /-- an instance of the class at C, its dict at dx, its attributes -/
  | ins (C dx : Addr) (fs : List (Str × V))
  /-- the dict of the instance at x -/
  | own (x : Addr)
  /-- the dict of an exception -/
  | xd (fs : List (Str × V))
  /-- a bound method, f of x -/
  | met (f x : Addr)
  /-- a range object lo, lo + 1, .. below hi -/
  | rng (lo hi : Int)
  /-- a thing that is known to the object (the script; a dict while a loop walks it): read, never written while it is so -/
  | frz (o : Obj) (u : HO)
  /-- a code object's table -/
  | tbl (ps : Array Value)
  /-- any other thing, by what is true of its one object (a def of one's own: SetO a S n := HO.ext fun h => ..) -/
  | ext (φ : Heap → Prop)

abbrev Hp := Addr → Option HO
def upd (H : Hp) (a : Addr) (o : HO) : Hp := fun b => if b = a then some o else H b
theorem upd_same {H : Hp} {a : Addr} {o : HO} : upd H a o a = some o := by unfold upd; rw [if_pos rfl]
theorem upd_ne {H : Hp} {a b : Addr} {o : HO} (h : b ≠ a) : upd H a o b = H b := by unfold upd; rw [if_neg h]
theorem upd_upd {H : Hp} {a : Addr} {o u : HO} : upd (upd H a o) a u = upd H a u := by
  funext b; unfold upd; split <;> rfl
/-- two objects of different content stand apart -/
theorem ne_of {H : Hp} {a b : Addr} {o u : HO} (h : H a = some o) (h' : H b = some u) (d : o ≠ u) : a ≠ b := by
  intro e; subst e; rw [h] at h'; exact d (Option.some.inj h')
theorem ne_of_none {H : Hp} {a b : Addr} {o : HO} (h : H a = some o) (h' : H b = none) : a ≠ b := by
  intro e; subst e; rw [h] at h'; cases h'

section
variable (P : Program) (w : World)
def ObjOk (H : Hp) (h : Heap) (a : Addr) : HO → Prop
  | .lst xs => xs.length ≤ sizeLine ∧ ∃ (its : List Value) (n : Nat), Vals xs its ∧ h.get? a = some { cls := .type "list", data := .seq its.toArray n }
  | .tup xs => xs.length ≤ sizeLine ∧ ∃ its : List Value, Vals xs its ∧ IsTup h a its.toArray
  | .dK kvs => kvs.length ≤ sizeLine ∧ (a == sysModules) = false ∧ ∃ vs, KV kvs vs ∧ h.DictOf (mixKind P w) a vs
  | .dT kvs => kvs.length ≤ sizeLine ∧ (a == sysModules) = false ∧ ∃ xs : List (List Key × Addr × Value),
      Paired (fun (p : List Key × V) (q : List Key × Addr × Value) => p.1 = q.1 ∧ H q.2.1 = some (.tup (p.1.map kV)) ∧ RelV p.2 q.2.2) kvs xs ∧
      ∃ o es ep, h.get? a = some o ∧ o.ExactDict ∧ o.data = .dict es ep ∧ es.toList = xs.map (entryOfKey (tupleKind (mixKind P w))) ∧ (xs.map (·.1)).Nodup
  | .set S n => h.SetOf (intKind P w) a S n
  | .ins C dx fs => H dx = some (.own a) ∧ fs.length ≤ 1000 ∧ dx ≠ a ∧ h.get? a = some (PySem.W.instObj C dx) ∧
      ∃ mA, h.Ns1 dx mA ∧ (∀ f, RelO (fs.lookup f) (mA f)) ∧ PySem.Within mA (fs.map (·.1))
  | .own _ => ∃ o, h.get? a = some o
  | .xd fs => ∃ mA, h.Ns1 a mA ∧ ∀ f, RelO (fs.lookup f) (mA f)
  | .rng lo hi => ∃ t u v, h.get? a = some { cls := .type "range", data := .fields #[.int lo t, .int hi u, .int 1 v] }
  | .frz o u => h.get? a = some o ∧ ObjOk H h a u
  | .tbl ps => h.get? a = some { cls := .none, data := .fields ps }
  | .met f x => h.get? a = some (PySem.W.methodObj (.ref f) (.ref x))
  | .ext φ => φ h ∧ (∃ o, h.get? a = some o) ∧ ∀ h1 h2 : Heap, φ h1 → (∀ o, h1.get? a = some o → h2.get? a = some o) → φ h2
/-- the abstract heap is held -/
def HOk (H : Hp) (h : Heap) : Prop := ∀ a o, H a = some o → ObjOk P w H h a o
end

section
variable {P : Program} {w : World} {H H' : Hp} {h h' : Heap} {a : Addr} {o : HO}
theorem ObjOk.lt (x : ObjOk P w H h a o) : a < h.objs.size := by
  cases o with
  | lst xs => obtain ⟨_, _, _, _, e⟩ := x; exact Heap.lt_size e
  | tup xs => obtain ⟨_, _, _, p⟩ := x; exact p.lt
  | dK kvs => obtain ⟨_, _, _, _, o, _, _, e, _⟩ := x; exact Heap.lt_size e
  | dT kvs => obtain ⟨_, _, _, _, o, _, _, e, _⟩ := x; exact Heap.lt_size e
  | set S n => obtain ⟨o, _, _, _, e, _⟩ := x; exact Heap.lt_size e
  | ins C dx fs => obtain ⟨_, _, _, e, _⟩ := x; exact Heap.lt_size e
  | own y => obtain ⟨_, e⟩ := x; exact Heap.lt_size e
  | xd fs => obtain ⟨_, ⟨_, _, _, e, _⟩, _⟩ := x; exact Heap.lt_size e
  | rng lo hi => obtain ⟨_, _, _, e⟩ := x; exact Heap.lt_size e
  | frz ob u => obtain ⟨e, _⟩ := x; exact Heap.lt_size e
  | tbl ps => exact Heap.lt_size (show h.get? a = some _ from x)
  | met f y => exact Heap.lt_size (show h.get? a = some _ from x)
  | ext φ => obtain ⟨_, ⟨_, e⟩, _⟩ := x; exact Heap.lt_size e
theorem Paired.mapP {α β : Type} {F G : α → β → Prop} : ∀ {l₁ : List α} {l₂ : List β}, Paired F l₁ l₂ → (∀ a b, F a b → G a b) → Paired G l₁ l₂
  | _, _, .nil, _ => .nil
  | _, _, .cons r t, f => .cons (f _ _ r) (Paired.mapP t f)
theorem Paired.imp' {α β : Type} {F G : α → β → Prop} (f : ∀ a b, F a b → G a b) {l₁ : List α} {l₂ : List β} (r : Paired F l₁ l₂) : Paired G l₁ l₂ := Paired.mapP r f
/-- what an object's description leans on: its own object, its own dict, the tuples -/
theorem ObjOk.stay (x : ObjOk P w H h a o) (k : ∀ b u, (b = a ∨ H b = some (.own a)) → h.get? b = some u → h'.get? b = some u)
    (ho : ∀ b, H b = some (.own a) → H' b = some (.own a)) (ht : ∀ b xs, H b = some (.tup xs) → H' b = some (.tup xs)) : ObjOk P w H' h' a o := by
  induction o with
  | lst xs => obtain ⟨z, its, n, r, e⟩ := x; exact ⟨z, its, n, r, k _ _ (.inl rfl) e⟩
  | tup xs => obtain ⟨z, its, r, ob, e, c⟩ := x; exact ⟨z, its, r, ob, k _ _ (.inl rfl) e, c⟩
  | dK kvs => obtain ⟨z, y, vs, r, ob, es, ep, e, c⟩ := x; exact ⟨z, y, vs, r, ob, es, ep, k _ _ (.inl rfl) e, c⟩
  | dT kvs =>
    obtain ⟨z, y, xs, r, ob, es, ep, e, c⟩ := x
    exact ⟨z, y, xs, Paired.mapP r fun p q z => ⟨z.1, ht _ _ z.2.1, z.2.2⟩, ob, es, ep, k _ _ (.inl rfl) e, c⟩
  | set S n => obtain ⟨ob, es, ep, t, e, c⟩ := x; exact ⟨ob, es, ep, t, k _ _ (.inl rfl) e, c⟩
  | ins C dx fs =>
    obtain ⟨d, z, ne, e, mA, ⟨od, es, ep, e2, c⟩, r⟩ := x
    exact ⟨ho _ d, z, ne, k _ _ (.inl rfl) e, mA, ⟨od, es, ep, k _ _ (.inr d) e2, c⟩, r⟩
  | own y => obtain ⟨ob, e⟩ := x; exact ⟨ob, k _ _ (.inl rfl) e⟩
  | xd fs => obtain ⟨mA, ⟨od, es, ep, e, c⟩, r⟩ := x; exact ⟨mA, ⟨od, es, ep, k _ _ (.inl rfl) e, c⟩, r⟩
  | rng lo hi => obtain ⟨t, u, v, e⟩ := x; exact ⟨t, u, v, k _ _ (.inl rfl) e⟩
  | frz ob u ih => obtain ⟨e, q⟩ := x; exact ⟨k _ _ (.inl rfl) e, ih q⟩
  | tbl ps =>
    have e : h.get? a = some { cls := .none, data := .fields ps } := x
    show h'.get? a = some { cls := .none, data := .fields ps }
    exact k a _ (.inl rfl) e
  | met f y =>
    have e : h.get? a = some (PySem.W.methodObj (.ref f) (.ref y)) := x
    show h'.get? a = some (PySem.W.methodObj (.ref f) (.ref y))
    exact k a _ (.inl rfl) e
  | ext φ => obtain ⟨p, ⟨o, e⟩, st⟩ := x; exact ⟨st _ _ p fun o q => k _ _ (.inl rfl) q, ⟨o, k _ _ (.inl rfl) e⟩, st⟩
theorem HOk.lt (x : HOk P w H h) (e : H a = some o) : a < h.objs.size := (x a o e).lt
theorem HOk.fresh (x : HOk P w H h) (e : h.objs.size ≤ a) : H a = none := by
  cases q : H a with
  | none => rfl
  | some u => exact absurd (Nat.lt_of_lt_of_le (x.lt q) e) (Nat.lt_irrefl _)
/-- every object of the heap is kept -/
theorem HOk.kept (x : HOk P w H h) (k : ∀ b u, h.get? b = some u → h'.get? b = some u) : HOk P w H h' := fun a o e =>
  (x a o e).stay (fun b u _ q => k b u q) (fun _ q => q) fun _ _ q => q
/-- a new object is laid and tracked -/
theorem HOk.laid (x : HOk P w H h) (k : ∀ b u, h.get? b = some u → h'.get? b = some u) (hp : h.objs.size ≤ a) (new : ObjOk P w (upd H a o) h' a o) : HOk P w (upd H a o) h' := fun b u e => by
  have hn := x.fresh hp
  by_cases hb : b = a
  · subst hb; rw [upd_same] at e; cases e; exact new
  · rw [upd_ne hb] at e
    exact (x b u e).stay (fun c v _ q => k c v q) (fun c q => by rw [upd_ne (ne_of_none q hn)]; exact q) fun c xs q => by rw [upd_ne (ne_of_none q hn)]; exact q
end

/-- what may be read as u: it is u, or a known u -/
def Rd (H : Hp) (a : Addr) (u : HO) : Prop := H a = some u ∨ ∃ o, H a = some (.frz o u)
theorem Rd.of {H : Hp} {a : Addr} {u : HO} (h : H a = some u) : Rd H a u := .inl h
theorem Rd.ok {P : Program} {w : World} {H : Hp} {h : Heap} {a : Addr} {u : HO} (r : Rd H a u) (x : HOk P w H h) : ObjOk P w H h a u := by
  rcases r with r | ⟨o, r⟩
  · exact x a u r
  · obtain ⟨_, q⟩ := x a _ r
    exact q
/-- what may be written -/
def Mut : Option HO → Prop
  | some (.lst _) => True
  | some (.dK _) => True
  | some (.dT _) => True
  | some (.set _ _) => True
  | some (.ins _ _ _) => True
  | some (.ext _) => True
  | _ => False
section
variable {P : Program} {w : World} {H : Hp} {h h' : Heap} {x e : Addr} {o' : HO}
/-- the object at e is changed: x itself, or the dict of the instance x -/
theorem HOk.write (ok : HOk P w H h) (mu : Mut (H x)) (he : e = x ∨ H e = some (.own x)) (k : ∀ b u, b ≠ e → h.get? b = some u → h'.get? b = some u) (heo : ∃ u, h'.get? e = some u)
    (new : ObjOk P w (upd H x o') h' x o') : HOk P w (upd H x o') h' := fun b u q => by
  have nown : ∀ c y, H c = some (.own y) → c ≠ x := fun c y r z => by subst z; rw [r] at mu; exact mu
  have ntup : ∀ c xs, H c = some (.tup xs) → c ≠ x := fun c xs r z => by subst z; rw [r] at mu; exact mu
  by_cases hb : b = x
  · subst hb; rw [upd_same] at q; cases q; exact new
  · rw [upd_ne hb] at q
    by_cases hbe : b = e
    · have q' : H b = some (.own x) := by
        rcases he with z | z
        · exact absurd (hbe.trans z) hb
        · rw [hbe]; exact z
      rw [q] at q'; cases q'
      obtain ⟨v, hv⟩ := heo
      exact ⟨v, by rw [hbe]; exact hv⟩
    · refine (ok b u q).stay (fun c v hc r => k c v ?_ r) (fun c r => by rw [upd_ne (nown c b r)]; exact r) fun c xs r => by rw [upd_ne (ntup c xs r)]; exact r
      rcases hc with rfl | hc
      · exact hbe
      · rintro rfl
        rcases he with z | z
        · exact nown c b hc z
        · rw [hc] at z; cases z; exact hb rfl
end

/-! ### kept unless tracked; of the frames at fs (the callers') the slots may change (an exception that passes writes there); of the records at ex (iterators) nothing is said -/
structure Un (fs ex : List Addr) (H H' : Hp) (h h' : Heap) : Prop where
  keep : ∀ b o, h.get? b = some o → H b = none → b ∉ fs → b ∉ ex → h'.get? b = some o
  slot : ∀ b o, h.get? b = some o → H b = none → b ∈ fs → b ∉ ex → ∃ sl, h'.get? b = some { o with slots := sl }
  free : ∀ b o, h.get? b = some o → H b = none → b ∉ ex → H' b = none
  there : ∀ b o, h.get? b = some o → b ∉ ex → ∃ o', h'.get? b = some o'
  tups : ∀ b xs, H b = some (.tup xs) → H' b = some (.tup xs)
  frzs : ∀ b o u, H b = some (.frz o u) → H' b = some (.frz o u)
  tbls : ∀ b ps, H b = some (.tbl ps) → ∃ more, H' b = some (.tbl (ps ++ more))
section
variable {fs fs' ex ex' : List Addr} {H H1 H2 : Hp} {h h1 h2 h' : Heap} {a x e : Addr} {o : HO}
theorem Un.any (u : Un fs ex H H1 h h1) {b : Addr} {ob : Obj} (q : h.get? b = some ob) (n : H b = none) (hx : b ∉ ex) : ∃ sl, h1.get? b = some { ob with slots := sl } := by
  by_cases hb : b ∈ fs
  · exact u.slot b ob q n hb hx
  · exact ⟨ob.slots, u.keep b ob q n hb hx⟩
theorem Un.trans (a : Un fs ex H H1 h h1) (b : Un fs ex H1 H2 h1 h2) : Un fs ex H H2 h h2 where
  keep := fun c ob q n hc hx => b.keep c ob (a.keep c ob q n hc hx) (a.free c ob q n hx) hc hx
  slot := fun c ob q n hc hx => by
    obtain ⟨sl, e1⟩ := a.slot c ob q n hc hx
    obtain ⟨sl', e2⟩ := b.slot c _ e1 (a.free c ob q n hx) hc hx
    exact ⟨sl', e2⟩
  free := fun c ob q n hx => by
    obtain ⟨o', e1⟩ := a.there c ob q hx
    exact b.free c o' e1 (a.free c ob q n hx) hx
  there := fun c ob q hx => by
    obtain ⟨o', e1⟩ := a.there c ob q hx
    exact b.there c o' e1 hx
  tups := fun c xs q => b.tups c xs (a.tups c xs q)
  frzs := fun c ob xs q => b.frzs c ob xs (a.frzs c ob xs q)
  tbls := fun c ps q => by
    obtain ⟨m1, e1⟩ := a.tbls c ps q
    obtain ⟨m2, e2⟩ := b.tbls c _ e1
    exact ⟨m1 ++ m2, by rw [e2, Array.append_assoc]⟩
theorem Un.kept (k : ∀ b u, h.get? b = some u → h'.get? b = some u) : Un fs ex H H h h' :=
  ⟨fun b ob q _ _ _ => k b ob q, fun b ob q _ _ _ => ⟨ob.slots, k b ob q⟩, fun _ _ _ n _ => n, fun b ob q _ => ⟨ob, k b ob q⟩, fun _ _ q => q, fun _ _ _ q => q, fun _ ps q => ⟨#[], by rw [q]; simp⟩⟩
theorem Un.refl : Un fs ex H H h h := Un.kept fun _ _ q => q
theorem Un.laid (k : ∀ b u, h.get? b = some u → h'.get? b = some u) (hp : h.objs.size ≤ a) (hn : H a = none) : Un fs ex H (upd H a o) h h' where
  keep := fun b u q _ _ _ => k b u q
  slot := fun b u q _ _ _ => ⟨u.slots, k b u q⟩
  free := fun b u q n _ => by rw [upd_ne (Nat.ne_of_lt (Nat.lt_of_lt_of_le (Heap.lt_size q) hp))]; exact n
  there := fun b u q _ => ⟨u, k b u q⟩
  tups := fun b xs q => by rw [upd_ne (ne_of_none q hn)]; exact q
  frzs := fun b u xs q => by rw [upd_ne (ne_of_none q hn)]; exact q
  tbls := fun b ps q => ⟨#[], by rw [upd_ne (ne_of_none q hn), q]; simp⟩
theorem Un.write (mu : Mut (H x)) (he : e = x ∨ H e = some (.own x)) (k : ∀ b u, b ≠ e → h.get? b = some u → h'.get? b = some u) (heo : ∃ u, h'.get? e = some u) : Un fs ex H (upd H x o) h h' := by
  have hx : ∀ b, H b = none → b ≠ x := fun b n z => by subst z; rw [n] at mu; exact mu
  have hb : ∀ b, H b = none → b ≠ e := fun b n z => by
    subst z
    rcases he with r | r
    · exact hx b n r
    · rw [n] at r; cases r
  have hm : ∀ b u, H b = some u → ¬ Mut (some u) → b ≠ x := fun b u q nm z => by subst z; rw [q] at mu; exact nm mu
  refine ⟨fun b u q n _ _ => k b u (hb b n) q, fun b u q n _ _ => ⟨u.slots, k b u (hb b n) q⟩, fun b u q n _ => by rw [upd_ne (hx b n)]; exact n, fun b u q _ => ?_,
    fun b xs q => by rw [upd_ne (hm b _ q fun z => z)]; exact q, fun b u xs q => by rw [upd_ne (hm b _ q fun z => z)]; exact q, fun b ps q => ⟨#[], by rw [upd_ne (hm b _ q fun z => z), q]; simp⟩⟩
  by_cases hbe : b = e
  · subst hbe; exact heo
  · exact ⟨u, k b u hbe q⟩
theorem Un.mono (u : Un fs ex H H1 h h1) (hs : ∀ b ∈ fs, b ∈ fs') (hx : ∀ b ∈ ex, b ∈ ex') : Un fs' ex' H H1 h h1 :=
  ⟨fun b ob q n hb he => u.keep b ob q n (fun z => hb (hs b z)) fun z => he (hx b z), fun _ _ q n _ he => u.any q n fun z => he (hx _ z), fun b ob q n he => u.free b ob q n fun z => he (hx b z), fun b ob q he => u.there b ob q fun z => he (hx b z), u.tups, u.frzs, u.tbls⟩
end

/-! ### the heap without what is tracked -/
def trk (h : Heap) (H : Hp) : List Addr := (List.range h.objs.size).filter fun a => (H a).isSome
def hidT (h : Heap) (H : Hp) : Heap := PySem.W.hideAll h (trk h H)
theorem hidT_size (h : Heap) (H : Hp) : (hidT h H).objs.size = h.objs.size := PySem.W.hideAll_size _ _
theorem hidT_get {h : Heap} {H : Hp} {b : Addr} {o : Obj} (e : h.get? b = some o) (n : H b = none) : (hidT h H).get? b = some o :=
  PySem.W.hideAll_get _ e fun hm => by
    have q : (H b).isSome = true := (List.mem_filter.mp hm).2
    rw [n] at q; simp at q
theorem of_hidT {h : Heap} {H : Hp} {b : Addr} {o : Obj} (e : (hidT h H).get? b = some o) : h.get? b = some o ∧ H b = none := by
  have e' : h.get? b = some o := PySem.W.of_hideAll (trk h H) e
  refine ⟨e', ?_⟩
  cases q : H b with
  | none => rfl
  | some x =>
    have hm : b ∈ trk h H := List.mem_filter.mpr ⟨List.mem_range.mpr (Heap.lt_size e'), by simp [q]⟩
    have z : (hidT h H).get? b = none := PySem.W.hideAll_none (trk h H) hm
    rw [z] at e; cases e

/-! ### OpenK's ledger, filled with every new object but one -/
def allNews (g h : Heap) (L : Addr) : List (Addr × Obj) := (List.range h.objs.size).filterMap fun a => if a = L ∨ (g.get? a).isSome = true then none else (h.get? a).map fun o => (a, o)
theorem mem_allNews {g h : Heap} {L a : Addr} {o : Obj} (h1 : a ≠ L) (h2 : g.get? a = none) (h3 : h.get? a = some o) : (a, o) ∈ allNews g h L :=
  List.mem_filterMap.mpr ⟨a, List.mem_range.mpr (Heap.lt_size h3), by simp [h1, h2, h3]⟩
theorem of_mem_allNews {g h : Heap} {L : Addr} {p : Addr × Obj} (hp : p ∈ allNews g h L) : p.1 ≠ L ∧ g.get? p.1 = none ∧ h.get? p.1 = some p.2 := by
  obtain ⟨b, _, e⟩ := List.mem_filterMap.mp hp
  split at e
  · cases e
  · rename_i hn
    cases q : h.get? b with
    | none => rw [q] at e; simp at e
    | some u =>
      rw [q] at e
      simp only [Option.map_some, Option.some.injEq] at e
      subst e
      refine ⟨fun z => hn (.inl z), ?_, q⟩
      show g.get? b = none
      cases r : g.get? b with
      | none => rfl
      | some v => exact (hn (.inr (by simp [r]))).elim
def rest (g h : Heap) (L d : Addr) : List (Addr × Obj) := (allNews g h L).filter fun p => decide (p.1 ≠ d)
theorem rest_ne {g h : Heap} {L d : Addr} : ∀ p ∈ rest g h L d, p.1 ≠ d := fun p hp => of_decide_eq_true (List.mem_filter.mp hp).2
theorem mem_rest {g h : Heap} {L d a : Addr} {o : Obj} (h1 : a ≠ L) (h2 : g.get? a = none) (h3 : h.get? a = some o) (h4 : a ≠ d) : (a, o) ∈ rest g h L d :=
  List.mem_filter.mpr ⟨mem_allNews h1 h2 h3, decide_eq_true h4⟩
theorem news_all {g h : Heap} {L : Addr} : News g L h (allNews g h L) := fun p hp => let ⟨a, b, c⟩ := of_mem_allNews hp; ⟨c, a, b⟩
theorem news_at {g h : Heap} {L d : Addr} {o : Obj} (h1 : d ≠ L) (h2 : g.get? d = none) (h3 : h.get? d = some o) : News g L h ((d, o) :: rest g h L d) := fun p hp => by
  rcases List.mem_cons.mp hp with rfl | hp
  · exact ⟨h3, h1, h2⟩
  · exact news_all p (List.mem_filter.mp hp).1
/-- behind a rule that changed d alone: all else but the frame is kept -/
theorem kept_of_news {g h h' : Heap} {L d : Addr} {m : Str → Option Value} (k : ∀ b o, g.get? b = some o → h.get? b = some o) (F : Fr g L h' m) (N : News g L h' (rest g h L d)) :
    ∀ b o, b ≠ L → b ≠ d → h.get? b = some o → h'.get? b = some o := fun b o h1 h2 e => by
  cases q : g.get? b with
  | some u =>
    have := k b u q
    rw [e] at this; cases this
    exact F.keep b _ q
  | none => exact (N (b, o) (mem_rest h1 q e h2)).1
end L2

namespace L2
open PySem PySem.Spec PyProof.Rows

/-- the module's facts, over the base: the heap at the law's entry without what is tracked there -/
structure Mod (K : PySem.W.Frag) (mg : Str → Option Value) (base : Heap) : Prop where
  kin : K.In base
  glob : base.Ns mainGlobals mg
  blt : ∃ mb, base.Ns builtinsNs mb ∧ ∀ x : Str, x ≠ "__name__" → mb x = bootBuiltins x
  nolimit : base.NoLimit

/-- the context: a def's body (or a comprehension's block) running. base: fixed through the whole law; s₀, H₀: the entry; outer: the frames whose slots others may change (a def's callers); stack: all frames that run;
   ex: iterators that were made ahead of the entry and are walked here (a comprehension's); fn: the names whose cells were made at the entry (a def: all; a comprehension's block: its own); calm: not within an except suite; pn: pins that every state bears; xe: what is wanted of an exception that leaves the code -/
structure Cx where
  prog : Program
  w : World
  K : PySem.W.Frag
  mg : Str → Option Value
  base : Heap
  A : Around
  N : List Str
  s₀ : Shared
  H₀ : Hp
  env : Env
  outer : List Env
  stack : List Env
  ex : List Addr
  fn : Str → Bool
  calm : Bool
  pn : List (Addr × Obj)
  xe : Value → Shared → Prop
/-- the callers' frames -/
def frs (l : List Env) : List Addr := l.filterMap (·.frame)
abbrev Cx.fs (X : Cx) : List Addr := frs X.outer

def Vis (sc : Scope) (x : Str) : Prop := sc.names.lookup x = some .local ∨ sc.names.lookup x = some .cell ∨ sc.names.lookup x = some .free
def Loc (sc : Scope) (x : Str) : Prop := sc.names.lookup x = some .local ∨ sc.names.lookup x = some .cell
def Look (env : Env) (h : Heap) (m : Str → Option Value) (x : Str) (u : Value) : Prop :=
  (env.kindOf x = some .local ∧ m x = some u) ∨ ((env.kindOf x = some .cell ∨ env.kindOf x = some .free) ∧ ∃ c, env.cells.lookup x = some c ∧ h.IsCell c (some u))

structure Cx.Ok (X : Cx) : Prop where
  mod : Mod X.K X.mg X.base
  kind : X.env.scope.kind = .function
  glob : X.env.globals = mainGlobals
  blt : X.env.builtins = builtinsNs
  above : X.s₀.heap.objs.size ≤ X.env.locals
  inj : ∀ x y c, X.env.cells.lookup x = some c → X.env.cells.lookup y = some c → x = y
  has : ∀ x, (X.env.kindOf x = some .cell ∨ X.env.kindOf x = some .free) → ∃ c, X.env.cells.lookup x = some c
  cab : ∀ x c, X.fn x = true → X.env.cells.lookup x = some c → X.s₀.heap.objs.size ≤ c
  hd : X.calm = true → X.A.handled = none
  frames : X.A.frames = some X.stack
  stk : X.stack = X.outer ∨ (X.stack = X.env :: X.outer ∧ X.env.frame = some X.env.locals)
  exf : ∀ b ∈ X.ex, b ≠ X.env.locals ∧ ∀ x c, X.env.cells.lookup x = some c → c ≠ b
  bs : ∀ b o, X.base.get? b = some o → X.s₀.heap.get? b = some o ∧ X.H₀ b = none
  bsz : X.base.objs.size ≤ X.s₀.heap.objs.size
  noex : ∀ b o, X.base.get? b = some o → b ∉ X.ex
  exfs : ∀ b ∈ X.ex, b ∉ X.fs
  funs : X.s₀.heap.FunFrames X.base X.outer
  frf : ∀ b ∈ X.fs, X.H₀ b = none

structure Inv (X : Cx) (pins : List (Addr × Obj)) (σ : List (Option V)) (H : Hp) (s : Shared) : Prop where
  ok : X.Ok
  os : s.os = X.s₀.os
  bare : AllBare s.gens
  base : Un X.fs X.ex X.H₀ H X.s₀.heap s.heap
  loc : ∃ m, s.heap.Ns X.env.locals m ∧ ∀ (i : Nat) (x : Str) (v : V), X.N[i]? = some x → σ[i]? = some (some v) → Vis X.env.scope x → ∃ u, RelV v u ∧ Look X.env s.heap m x u
  cell : ∀ x c, X.env.cells.lookup x = some c → ∃ v, s.heap.IsCell c v
  free : H X.env.locals = none
  freeC : ∀ x c, X.env.cells.lookup x = some c → H c = none ∨ (X.fn x = false ∧ ∃ o, H c = some (.frz o (.own 0)))
  pin : ∀ p ∈ X.pn ++ pins, s.heap.get? p.1 = some p.2 ∧ H p.1 = none ∧ p.1 ≠ X.env.locals ∧ p.1 ∉ X.fs ∧ ∀ v, p.2.data ≠ .cell v
  hok : HOk X.prog X.w H s.heap
  len : σ.length = X.N.length

section
variable {X : Cx} {pins : List (Addr × Obj)} {σ : List (Option V)} {H H' : Hp} {s : Shared} {h' : Heap}

theorem Cx.Ok.nofr (ok : X.Ok) {b : Addr} {o : Obj} (e : X.base.get? b = some o) : b ∉ X.fs := fun hb => by
  have := (ok.funs.mem hb).1
  rw [e] at this; cases this
theorem Inv.bs (I : Inv X pins σ H s) : ∀ b o, X.base.get? b = some o → s.heap.get? b = some o ∧ H b = none := fun b o e =>
  ⟨I.base.keep b o (I.ok.bs b o e).1 (I.ok.bs b o e).2 (I.ok.nofr e) (I.ok.noex b o e), I.base.free b o (I.ok.bs b o e).1 (I.ok.bs b o e).2 (I.ok.noex b o e)⟩
theorem Inv.bk (I : Inv X pins σ H s) : ∀ b o, X.base.get? b = some o → s.heap.get? b = some o := fun b o e => (I.bs b o e).1
theorem Inv.mod (I : Inv X pins σ H s) : Mod X.K X.mg X.base := I.ok.mod
theorem Inv.kIn (I : Inv X pins σ H s) : X.K.In s.heap := I.ok.mod.kin.keeps I.bk
theorem Inv.nolimit (I : Inv X pins σ H s) : s.heap.NoLimit := I.ok.mod.nolimit.keeps I.bk
/-- the frame over the base: for OpenK's rules (K.In X.base is I.mod.kin) -/
theorem Inv.fr (I : Inv X pins σ H s) : ∃ m, Fr X.base X.env.locals s.heap m :=
  let ⟨m, hn, _⟩ := I.loc
  ⟨m, hn, I.bk, Nat.le_trans I.ok.bsz I.ok.above⟩
theorem Inv.lt (I : Inv X pins σ H s) : X.env.locals < s.heap.objs.size := let ⟨_, hn, _⟩ := I.loc; hn.lt
theorem Inv.sz (I : Inv X pins σ H s) : X.s₀.heap.objs.size ≤ s.heap.objs.size := Nat.le_trans I.ok.above (Nat.le_of_lt I.lt)
theorem Inv.nofs (I : Inv X pins σ H s) {a : Addr} (h : s.heap.objs.size ≤ a) : a ∉ X.fs := fun hb => by
  obtain ⟨_, o, ho, _⟩ := I.ok.funs.mem hb
  exact absurd (Nat.lt_of_lt_of_le (Heap.lt_size ho) (Nat.le_trans I.sz h)) (Nat.lt_irrefl _)
theorem Inv.cne (I : Inv X pins σ H s) : ∀ x c, X.env.cells.lookup x = some c → c ≠ X.env.locals := fun x c e z => by
  obtain ⟨v, o, ho, hd⟩ := I.cell x c e
  obtain ⟨m, ⟨o', es, ep, ho', hd', _⟩, _⟩ := I.loc
  rw [z, ho'] at ho; cases ho; rw [hd'] at hd; cases hd
theorem Inv.funs (I : Inv X pins σ H s) : s.heap.FunFrames X.base X.outer := by
  have all : ∀ (l : List Env), (∀ b ∈ frs l, b ∈ X.fs) → X.s₀.heap.FunFrames X.base l → s.heap.FunFrames X.base l := by
    intro l
    induction l with
    | nil => intro _ _; trivial
    | cons env r ih =>
      intro hs hl
      obtain ⟨hk, ⟨L, o, hf, hn, ho, hd⟩, hr⟩ := hl
      have hL : L ∈ X.fs := hs L (by unfold frs; rw [List.filterMap_cons, hf]; exact List.mem_cons_self)
      obtain ⟨sl, e⟩ := I.base.slot L o ho (I.ok.frf L hL) hL fun z => I.ok.exfs L z hL
      exact ⟨hk, ⟨L, _, hf, hn, e, hd⟩, ih (fun b hb => hs b (by unfold frs; rw [List.filterMap_cons, hf]; exact List.mem_cons_of_mem _ hb)) hr⟩
  exact all X.outer (fun _ hb => hb) I.ok.funs

/-- the frames that run, for a call -/
theorem Inv.stack (I : Inv X pins σ H s) : s.heap.FunFrames X.base X.stack := by
  rcases I.ok.stk with e | ⟨e, hf⟩
  · rw [e]; exact I.funs
  · rw [e]
    obtain ⟨m, hn, _⟩ := I.loc
    refine .cons (by rw [I.ok.kind]; decide) hf hn ?_ I.funs
    exact Heap.get?_none_of_le (Nat.le_trans I.ok.bsz I.ok.above)
theorem Inv.stkSub (I : Inv X pins σ H s) : ∀ b ∈ frs X.stack, b ∈ X.env.locals :: X.fs := fun b hb => by
  rcases I.ok.stk with e | ⟨e, hf⟩
  · rw [e] at hb; exact List.mem_cons_of_mem _ hb
  · rw [e] at hb
    unfold frs at hb
    rw [List.filterMap_cons, hf] at hb
    exact hb
theorem Inv.stkFree (I : Inv X pins σ H s) : ∀ b ∈ frs X.stack, H b = none := fun b hb => by
  rcases List.mem_cons.mp (I.stkSub b hb) with e | hb
  · rw [e]; exact I.free
  · obtain ⟨_, o, ho, _⟩ := I.ok.funs.mem hb
    exact I.base.free b o ho (I.ok.frf b hb) fun z => I.ok.exfs b z hb

/-- THE STEP: the untracked objects but the frame and the records at ch are kept (the callers' frames up to slots), the frame's map is kept, the new abstract heap is held -/
theorem Inv.step {g' : Array GenState} {t' : Nat} {d' : Drawn} {ch : List Addr} (I : Inv X pins σ H s)
    (hch : ∀ b ∈ ch, (b ∈ X.ex ∨ X.s₀.heap.objs.size ≤ b) ∧ b ≠ X.env.locals ∧ (∀ x c, X.env.cells.lookup x = some c → c ≠ b) ∧ ∀ p ∈ X.pn ++ pins, p.1 ≠ b)
    (keep : ∀ b o, b ≠ X.env.locals → b ∉ X.fs → b ∉ ch → s.heap.get? b = some o → H b = none → h'.get? b = some o)
    (slot : ∀ b o, b ≠ X.env.locals → b ∈ X.fs → b ∉ ch → s.heap.get? b = some o → H b = none → ∃ sl, h'.get? b = some { o with slots := sl }) (free : ∀ b o, b ∉ ch → s.heap.get? b = some o → H b = none → H' b = none)
    (there : ∀ b o, b ∉ ch → s.heap.get? b = some o → ∃ o', h'.get? b = some o')
    (tups : ∀ b xs, H b = some (.tup xs) → H' b = some (.tup xs)) (frzs : ∀ b o u, H b = some (.frz o u) → H' b = some (.frz o u)) (tbls : ∀ b ps, H b = some (.tbl ps) → ∃ more, H' b = some (.tbl (ps ++ more)))
    (ns : ∀ m, s.heap.Ns X.env.locals m → h'.Ns X.env.locals m) (hok : HOk X.prog X.w H' h') (hg : AllBare g') :
    Inv X pins σ H' { s with heap := h', gens := g', drawn := d', toks := t' } := by
  have neL : ∀ b o, X.s₀.heap.get? b = some o → b ≠ X.env.locals := fun b o e => Nat.ne_of_lt (Nat.lt_of_lt_of_le (Heap.lt_size e) I.ok.above)
  have neC : ∀ b o, X.s₀.heap.get? b = some o → b ∉ X.ex → b ∉ ch := fun b o e hx hb => by
    rcases (hch b hb).1 with z | z
    · exact hx z
    · exact absurd (Nat.lt_of_lt_of_le (Heap.lt_size e) z) (Nat.lt_irrefl _)
  have cellK : ∀ x c, X.env.cells.lookup x = some c → ∀ v, s.heap.IsCell c v → h'.IsCell c v := fun x c e v ⟨o, ho, hd⟩ => by
    have nch : c ∉ ch := fun z => (hch c z).2.2.1 x c e rfl
    rcases I.freeC x c e with fc | ⟨_, of, hf⟩
    · by_cases hc : c ∈ X.fs
      · obtain ⟨sl, q⟩ := slot c o (I.cne x c e) hc nch ho fc
        exact ⟨_, q, hd⟩
      · exact ⟨o, keep c o (I.cne x c e) hc nch ho fc, hd⟩
    · obtain ⟨e1, _⟩ := I.hok c _ hf
      obtain ⟨e2, _⟩ := hok c _ (frzs c _ _ hf)
      rw [ho] at e1; cases e1
      exact ⟨o, e2, hd⟩
  refine ⟨I.ok, I.os, hg, ⟨fun b o e n hb hx => ?_, fun b o e n hb hx => ?_, fun b o e n hx => ?_, fun b o e hx => ?_, fun b xs e => tups b xs (I.base.tups b xs e), fun b o xs e => frzs b o xs (I.base.frzs b o xs e), fun b ps e => ?_⟩, ?_, fun x c e => ?_, ?_, fun x c e => ?_, fun p hp => ?_, hok, I.len⟩
  · exact keep b o (neL b o e) hb (neC b o e hx) (I.base.keep b o e n hb hx) (I.base.free b o e n hx)
  · obtain ⟨sl, e1⟩ := I.base.slot b o e n hb hx
    obtain ⟨sl', e2⟩ := slot b _ (neL b o e) hb (neC b o e hx) e1 (I.base.free b o e n hx)
    exact ⟨sl', e2⟩
  · obtain ⟨o', e1⟩ := I.base.there b o e hx
    exact free b o' (neC b o e hx) e1 (I.base.free b o e n hx)
  · obtain ⟨o', e1⟩ := I.base.there b o e hx
    exact there b o' (neC b o e hx) e1
  · obtain ⟨m1, e1⟩ := I.base.tbls b ps e
    obtain ⟨m2, e2⟩ := tbls b _ e1
    exact ⟨m1 ++ m2, by rw [e2, Array.append_assoc]⟩
  · obtain ⟨m, hn, hl⟩ := I.loc
    refine ⟨m, ns m hn, fun i x v e1 e2 e3 => ?_⟩
    obtain ⟨u, r, l⟩ := hl i x v e1 e2 e3
    refine ⟨u, r, ?_⟩
    rcases l with l | ⟨k, c, e, z⟩
    · exact .inl l
    · exact .inr ⟨k, c, e, cellK x c e _ z⟩
  · obtain ⟨v, z⟩ := I.cell x c e
    exact ⟨v, cellK x c e v z⟩
  · obtain ⟨m, ⟨o, _, _, ho, _⟩, _⟩ := I.loc
    exact free _ o (fun z => (hch _ z).2.1 rfl) ho I.free
  · obtain ⟨v, o, ho, hd⟩ := I.cell x c e
    rcases I.freeC x c e with fc | ⟨fn0, of, hf⟩
    · exact .inl (free c o (fun z => (hch c z).2.2.1 x c e rfl) ho fc)
    · exact .inr ⟨fn0, of, frzs c _ _ hf⟩
  · obtain ⟨e, n, ne, nf, d⟩ := I.pin p hp
    have nch : p.1 ∉ ch := fun z => (hch p.1 z).2.2.2 p hp rfl
    exact ⟨keep p.1 p.2 ne nf nch e n, free p.1 p.2 nch e n, ne, nf, d⟩
/-- .. where the frame's own object is kept too -/
theorem Inv.un {t' : Nat} (I : Inv X pins σ H s) (u : Un X.fs [] H H' s.heap h') (hok : HOk X.prog X.w H' h') : Inv X pins σ H' { s with heap := h', toks := t' } := by
  obtain ⟨m, ⟨o, es, ep, ho, r⟩, _⟩ := id I.loc
  obtain ⟨sl, hL⟩ := u.any ho I.free (by simp)
  exact I.step (g' := s.gens) (d' := s.drawn) (ch := []) (fun _ z => nomatch z) (fun b o _ hb _ e n => u.keep b o e n hb (by simp)) (fun b o _ hb _ e n => u.slot b o e n hb (by simp)) (fun b o _ e n => u.free b o e n (by simp)) (fun b o _ e => u.there b o e (by simp)) u.tups u.frzs u.tbls (fun m' hm => by
    obtain ⟨o', es', ep', ho', r'⟩ := hm
    rw [ho] at ho'; cases ho'
    exact ⟨_, es', ep', hL, r'⟩) hok I.bare
/-- behind a call (or a comprehension's block): the slots of this frame may have changed too, the records at ch may have turned -/
theorem Inv.call {g' : Array GenState} {t' : Nat} {d' : Drawn} {ch : List Addr} (I : Inv X pins σ H s) (u : Un (frs X.stack) ch H H' s.heap h') (hok : HOk X.prog X.w H' h') (hg : AllBare g')
    (hch : ∀ b ∈ ch, (b ∈ X.ex ∨ X.s₀.heap.objs.size ≤ b) ∧ b ≠ X.env.locals ∧ (∀ x c, X.env.cells.lookup x = some c → c ≠ b) ∧ ∀ p ∈ X.pn ++ pins, p.1 ≠ b) :
    Inv X pins σ H' { s with heap := h', gens := g', drawn := d', toks := t' } := by
  obtain ⟨m, ⟨o, es, ep, ho, r⟩, _⟩ := id I.loc
  obtain ⟨sl, hL⟩ := u.any ho I.free fun z => (hch _ z).2.1 rfl
  exact I.step (ch := ch) hch (fun b o hL hb hc e n => u.keep b o e n (fun z => (List.mem_cons.mp (I.stkSub b z)).elim hL hb) hc) (fun b o _ _ hc e n => u.any e n hc) (fun b o hc e n => u.free b o e n hc) (fun b o hc e => u.there b o e hc) u.tups u.frzs u.tbls (fun m' hm => by
    obtain ⟨o', es', ep', ho', r'⟩ := hm
    rw [ho] at ho'; cases ho'
    exact ⟨_, es', ep', hL, r'⟩) hok hg
/-- an untracked record of ours (an iterator) has turned -/
theorem Inv.turned {t' : Nat} {it : Addr} (I : Inv X pins σ H s) (k : ∀ b o, b ≠ it → s.heap.get? b = some o → h'.get? b = some o) (hn : H it = none) (hL : it ≠ X.env.locals)
    (h1 : it ∈ X.ex ∨ X.s₀.heap.objs.size ≤ it) (h2 : ∀ x c, X.env.cells.lookup x = some c → c ≠ it) (h3 : ∀ p ∈ X.pn ++ pins, p.1 ≠ it) : Inv X pins σ H { s with heap := h', toks := t' } := by
  have nit : ∀ b u, H b = some u → b ≠ it := fun b u e z => by rw [z, hn] at e; cases e
  refine I.step (g' := s.gens) (d' := s.drawn) (ch := [it]) (fun b hb => ?_) (fun b o _ _ hc e _ => k b o (fun z => hc (by simp [z])) e) (fun b o _ _ hc e _ => ⟨o.slots, k b o (fun z => hc (by simp [z])) e⟩) (fun _ _ _ _ n => n)
    (fun b o hc e => ⟨o, k b o (fun z => hc (by simp [z])) e⟩) (fun _ _ e => e) (fun _ _ _ e => e) (fun b ps e => ⟨#[], by rw [e]; simp⟩) (fun m hm => ?_) (fun b u e => ?_) I.bare
  · have e : b = it := by simpa using hb
    subst e
    exact ⟨h1, hL, h2, h3⟩
  · obtain ⟨o, es, ep, ho, r⟩ := hm
    exact ⟨o, es, ep, k _ o (Ne.symm hL) ho, r⟩
  · refine (I.hok b u e).stay (fun c v hc q => k c v ?_ q) (fun _ q => q) fun _ _ q => q
    rcases hc with z | z
    · rw [z]; exact nit b u e
    · exact nit c _ z
theorem Inv.tok (I : Inv X pins σ H s) (t : Nat) : Inv X pins σ H { s with toks := t } := I.un (h' := s.heap) (t' := t) Un.refl I.hok
/-- all objects kept -/
theorem Inv.kept {t' : Nat} (I : Inv X pins σ H s) (k : ∀ b u, s.heap.get? b = some u → h'.get? b = some u) : Inv X pins σ H { s with heap := h', toks := t' } := I.un (Un.kept k) (I.hok.kept k)
/-- a new object laid and tracked -/
theorem Inv.laid {a : Addr} {o : HO} {t' : Nat} (I : Inv X pins σ H s) (k : ∀ b u, s.heap.get? b = some u → h'.get? b = some u) (hp : s.heap.objs.size ≤ a) (new : ObjOk X.prog X.w (upd H a o) h' a o) :
    Inv X pins σ (upd H a o) { s with heap := h', toks := t' } := I.un (Un.laid k hp (I.hok.fresh hp)) (I.hok.laid k hp new)
/-- an object written -/
theorem Inv.write {x e : Addr} {o : HO} {t' : Nat} (I : Inv X pins σ H s) (mu : Mut (H x)) (he : e = x ∨ H e = some (.own x)) (k : ∀ b u, b ≠ e → s.heap.get? b = some u → h'.get? b = some u) (heo : ∃ u, h'.get? e = some u)
    (new : ObjOk X.prog X.w (upd H x o) h' x o) : Inv X pins σ (upd H x o) { s with heap := h', toks := t' } := I.un (Un.write mu he k heo) (I.hok.write mu he k heo new)
/-- forgetting slots, pins -/
theorem Inv.weak {σ' : List (Option V)} (I : Inv X pins σ H s) (hl : σ'.length = σ.length) (w : ∀ (i : Nat) v, σ'[i]? = some (some v) → σ[i]? = some (some v)) : Inv X pins σ' H s :=
  ⟨I.ok, I.os, I.bare, I.base, let ⟨m, hn, hl'⟩ := I.loc; ⟨m, hn, fun i x v e1 e2 e3 => hl' i x v e1 (w i v e2) e3⟩, I.cell, I.free, I.freeC, I.pin, I.hok, hl.trans I.len⟩
theorem Inv.pins_of {pins' : List (Addr × Obj)} (I : Inv X pins σ H s) (h : ∀ p ∈ pins', s.heap.get? p.1 = some p.2 ∧ H p.1 = none ∧ p.1 ≠ X.env.locals ∧ p.1 ∉ X.fs ∧ ∀ v, p.2.data ≠ .cell v) : Inv X pins' σ H s :=
  ⟨I.ok, I.os, I.bare, I.base, I.loc, I.cell, I.free, I.freeC, fun p hp => (List.mem_append.mp hp).elim (fun z => I.pin p (List.mem_append_left _ z)) (h p), I.hok, I.len⟩

theorem nodup_ix {N : List Str} (hN : N.Nodup) {i j : Nat} {x : Str} (a : N[i]? = some x) (b : N[j]? = some x) : i = j := by
  obtain ⟨h1, e1⟩ := List.getElem?_eq_some_iff.mp a
  obtain ⟨h2, e2⟩ := List.getElem?_eq_some_iff.mp b
  exact (List.getElem_inj hN).mp (e1.trans e2.symm)

/-- a name is stored; what changed -/
theorem store_ok2 {M : Model} {A : Around} {E : Value → Shared → Prop} {i : Nat} {x : Str} {v : V} {u : Value} {Q : Unit → Shared → Prop} (I : Inv X pins σ H s) (hN : X.N.Nodup) (hi : X.N[i]? = some x) (hx : Loc X.env.scope x) (r : RelV v u)
    (h : ∀ s', Inv X pins (σ.set i (some v)) H s' → (∃ a, Heap.SameBut a s.heap s'.heap ∧ (a = X.env.locals ∨ X.env.cells.lookup x = some a)) → Q () s') (hf : X.fn x = true ∨ X.env.scope.names.lookup x = some .local := by first | exact .inl rfl | exact .inr rfl | assumption) : wpAny M A (storeName X.env x u) Q E s := by
  obtain ⟨m, hn, hl⟩ := id I.loc
  have hcls : (X.env.scope.kind == .class || (X.env.scope.kind == .module && X.env.locals != X.env.globals)) = false := by rw [I.ok.kind]; rfl
  have hiσ : i < σ.length := by rw [I.len]; exact (List.getElem?_eq_some_iff.mp hi).1
  have cne := I.cne
  have tracked : ∀ {a : Addr} {h' : Heap}, (∃ o, s.heap.get? a = some o ∧ H a = none) → Heap.SameBut a s.heap h' → HOk X.prog X.w H h' := fun {a h'} ha hs b ob e => by
    obtain ⟨_, _, hfree⟩ := ha
    refine (I.hok b ob e).stay (fun c w' hc q => (hs.2 c ?_).trans q) (fun _ q => q) fun _ _ q => q
    rintro rfl
    rcases hc with rfl | hc
    · rw [hfree] at e; cases e
    · rw [hfree] at hc; cases hc
  rcases hx with hk | hk
  · refine wpAny_storeName_local hk hn (fun h' hn' hs => ?_) hcls
    obtain ⟨oL, _, _, hoL, _⟩ := id hn
    refine h _ ⟨I.ok, I.os, I.bare, ⟨fun b o e n hb hx => ?_, fun b o e n hb hx => ?_, I.base.free, fun b o e hx => ?_, I.base.tups, I.base.frzs, I.base.tbls⟩, ⟨_, hn', fun j y v' e1 e2 e3 => ?_⟩, fun y c e => ?_, I.free, I.freeC, fun p hp => ?_, tracked ⟨oL, hoL, I.free⟩ hs, by simpa using I.len⟩ ⟨_, hs, .inl rfl⟩
    · exact (hs.2 b (Nat.ne_of_lt (Nat.lt_of_lt_of_le (Heap.lt_size e) I.ok.above))).trans (I.base.keep b o e n hb hx)
    · obtain ⟨sl, e1⟩ := I.base.slot b o e n hb hx
      exact ⟨sl, (hs.2 b (Nat.ne_of_lt (Nat.lt_of_lt_of_le (Heap.lt_size e) I.ok.above))).trans e1⟩
    · obtain ⟨o', e1⟩ := I.base.there b o e hx
      exact ⟨o', (hs.2 b (Nat.ne_of_lt (Nat.lt_of_lt_of_le (Heap.lt_size e) I.ok.above))).trans e1⟩
    · by_cases hj : j = i
      · subst hj
        rw [hi] at e1; cases e1
        rw [List.getElem?_set_self hiσ] at e2
        cases e2
        exact ⟨u, r, .inl ⟨hk, by simp⟩⟩
      · rw [List.getElem?_set_ne (Ne.symm hj)] at e2
        obtain ⟨u', r', q⟩ := hl j y v' e1 e2 e3
        refine ⟨u', r', ?_⟩
        rcases q with ⟨k, e⟩ | ⟨k, c, e, z⟩
        · refine .inl ⟨k, ?_⟩
          have : y ≠ x := fun e => hj (nodup_ix hN e1 (e ▸ hi))
          simp [this, e]
        · exact .inr ⟨k, c, e, z.sameBut hs (cne y c e)⟩
    · obtain ⟨w', z⟩ := I.cell y c e
      exact ⟨w', z.sameBut hs (cne y c e)⟩
    · obtain ⟨e, n, ne, nf, d⟩ := I.pin p hp
      exact ⟨(hs.2 p.1 ne).trans e, n, ne, nf, d⟩
  · have hfn : X.fn x = true := by
      rcases hf with z | z
      · exact z
      · rw [z] at hk; cases hk
    obtain ⟨c, hc⟩ := I.ok.has x (.inl hk)
    obtain ⟨w', z⟩ := I.cell x c hc
    refine wpAny_storeName_cell I.ok.kind hk hc z (fun h' hc' hs => ?_)
    obtain ⟨oc, hoc, hocd⟩ := id z
    refine h { s with heap := h' } ⟨I.ok, I.os, I.bare, ⟨fun b o e n hb hx => ?_, fun b o e n hb hx => ?_, I.base.free, fun b o e hx => ?_, I.base.tups, I.base.frzs, I.base.tbls⟩, ⟨m, hn.sameBut hs (Ne.symm (cne x c hc)), fun j y v' e1 e2 e3 => ?_⟩, fun y c' e => ?_, I.free, I.freeC, fun p hp => ?_, tracked ⟨oc, hoc, (I.freeC x c hc).resolve_right fun z => by rw [hfn] at z; cases z.1⟩ hs, by simpa using I.len⟩ ⟨c, hs, .inr hc⟩
    · exact (hs.2 b (Nat.ne_of_lt (Nat.lt_of_lt_of_le (Heap.lt_size e) (I.ok.cab x c hfn hc)))).trans (I.base.keep b o e n hb hx)
    · obtain ⟨sl, e1⟩ := I.base.slot b o e n hb hx
      exact ⟨sl, (hs.2 b (Nat.ne_of_lt (Nat.lt_of_lt_of_le (Heap.lt_size e) (I.ok.cab x c hfn hc)))).trans e1⟩
    · obtain ⟨o', e1⟩ := I.base.there b o e hx
      exact ⟨o', (hs.2 b (Nat.ne_of_lt (Nat.lt_of_lt_of_le (Heap.lt_size e) (I.ok.cab x c hfn hc)))).trans e1⟩
    · by_cases hj : j = i
      · subst hj
        rw [hi] at e1; cases e1
        rw [List.getElem?_set_self hiσ] at e2
        cases e2
        exact ⟨u, r, .inr ⟨.inl hk, c, hc, hc'⟩⟩
      · rw [List.getElem?_set_ne (Ne.symm hj)] at e2
        obtain ⟨u', r', q⟩ := hl j y v' e1 e2 e3
        refine ⟨u', r', ?_⟩
        rcases q with q | ⟨k, c', e, z'⟩
        · exact .inl q
        · refine .inr ⟨k, c', e, z'.sameBut hs ?_⟩
          rintro rfl
          exact hj (nodup_ix hN e1 (I.ok.inj _ _ _ e hc ▸ hi))
    · by_cases hcc : c' = c
      · subst hcc; exact ⟨_, hc'⟩
      · obtain ⟨w2, z2⟩ := I.cell y c' e
        exact ⟨w2, z2.sameBut hs hcc⟩
    · obtain ⟨e, n, ne, nf, d⟩ := I.pin p hp
      refine ⟨(hs.2 p.1 ?_).trans e, n, ne, nf, d⟩
      intro q
      rw [q, hoc] at e
      have q' : oc = p.2 := Option.some.inj e
      exact d w' (by rw [← q']; exact hocd)
theorem store_ok {M : Model} {A : Around} {E : Value → Shared → Prop} {i : Nat} {x : Str} {v : V} {u : Value} {Q : Unit → Shared → Prop} (I : Inv X pins σ H s) (hN : X.N.Nodup) (hi : X.N[i]? = some x) (hx : Loc X.env.scope x) (r : RelV v u)
    (h : ∀ s', Inv X pins (σ.set i (some v)) H s' → Q () s') (hf : X.fn x = true ∨ X.env.scope.names.lookup x = some .local := by first | exact .inl rfl | exact .inr rfl | assumption) : wpAny M A (storeName X.env x u) Q E s :=
  store_ok2 I hN hi hx r (fun s' I' _ => h s' I') hf
/-- behind a call or a block, the state as it is -/
theorem Inv.call' {s' : Shared} {ch : List Addr} (I : Inv X pins σ H s) (ho : s'.os = s.os) (u : Un (frs X.stack) ch H H' s.heap s'.heap) (hok : HOk X.prog X.w H' s'.heap) (hg : AllBare s'.gens)
    (hch : ∀ b ∈ ch, (b ∈ X.ex ∨ X.s₀.heap.objs.size ≤ b) ∧ b ≠ X.env.locals ∧ (∀ x c, X.env.cells.lookup x = some c → c ≠ b) ∧ ∀ p ∈ X.pn ++ pins, p.1 ≠ b) : Inv X pins σ H' s' := by
  obtain ⟨h', g', d', t', o'⟩ := s'
  have e : o' = s.os := ho
  subst e
  exact I.call (g' := g') (t' := t') (d' := d') u hok hg hch
end

/-! ### the judgements -/
/-- an exception: its class, its own dict's address (where it has one), the abstract heap behind it -/
abbrev XK := Value → Option Addr → Hp → Prop
abbrev St := List (Option V)
abbrev VK := V → Hp → Prop
/-- an expression's reading; a test's; an argument list's -/
abbrev TE := St → Hp → VK → Prop
abbrev TT := St → Hp → (Bool → Hp → Prop) → Prop
abbrev TA := St → Hp → (List V → Hp → Prop) → Prop
/-- what is wanted behind a statement -/
structure Ends where
  nx : St → Hp → Prop
  rt : VK
  bk : St → Hp → Prop := fun _ _ => False
  ct : St → Hp → Prop := fun _ _ => False
abbrev TS := Ends → St → Hp → Prop

def EP (X : Cx) (pins : List (Addr × Obj)) (σ : St) (Q : VK) (u : Value) (s' : Shared) : Prop := ∃ v H', Inv X pins σ H' s' ∧ RelV v u ∧ Q v H'
def TP (X : Cx) (pins : List (Addr × Obj)) (σ : St) (Q : Bool → Hp → Prop) (b : Bool) (s' : Shared) : Prop := ∃ H', Inv X pins σ H' s' ∧ Q b H'
def AP (X : Cx) (pins : List (Addr × Obj)) (σ : St) (Q : List V → Hp → Prop) (us : List Value) (s' : Shared) : Prop := ∃ vs H', Inv X pins σ H' s' ∧ Vals vs us ∧ Q vs H'
def SP (X : Cx) (pins : List (Addr × Obj)) (D : Ends) (f : Flow) (s' : Shared) : Prop :=
  match f with
  | .next => ∃ σ' H', Inv X pins σ' H' s' ∧ D.nx σ' H'
  | .brk => ∃ σ' H', Inv X pins σ' H' s' ∧ D.bk σ' H'
  | .cont => ∃ σ' H', Inv X pins σ' H' s' ∧ D.ct σ' H'
  | .ret u => ∃ v σ' H', Inv X pins σ' H' s' ∧ RelV v u ∧ D.rt v H'

def PE (X : Cx) (e : Expr) (t : TE) : Prop :=
  ∀ (pins : List (Addr × Obj)) (s : Shared) (σ : St) (H : Hp) (Q : VK), Inv X pins σ H s → t σ H Q → wpAny (model X.prog X.w) X.A (eval e X.env) (EP X pins σ Q) X.xe s
def PT (X : Cx) (e : Expr) (t : TT) : Prop :=
  ∀ (pins : List (Addr × Obj)) (s : Shared) (σ : St) (H : Hp) (Q : Bool → Hp → Prop), Inv X pins σ H s → t σ H Q → wpAny (model X.prog X.w) X.A (isTrue e X.env (eval e X.env)) (TP X pins σ Q) X.xe s
/-- a test whatever its 'whole' is (and, or) -/
def PW (X : Cx) (e : Expr) (t : TT) : Prop :=
  ∀ (whole : Sem Value) (pins : List (Addr × Obj)) (s : Shared) (σ : St) (H : Hp) (Q : Bool → Hp → Prop), Inv X pins σ H s → t σ H Q → wpAny (model X.prog X.w) X.A (isTrue e X.env whole) (TP X pins σ Q) X.xe s
theorem PW.pt {X : Cx} {e : Expr} {t : TT} (h : PW X e t) : PT X e t := h _
/-- an argument list (no star), from the left -/
def PA (X : Cx) (es : List Expr) (t : TA) : Prop :=
  ∀ (pos : Pos) (pins : List (Addr × Obj)) (s : Shared) (σ : St) (H : Hp) (Q : List V → Hp → Prop), Inv X pins σ H s → t σ H Q → wpAny (model X.prog X.w) X.A (spliced (backTo pos (starEach es X.env))) (AP X pins σ Q) X.xe s
def PS (X : Cx) (st : Stmt) (t : TS) : Prop :=
  ∀ (pins : List (Addr × Obj)) (s : Shared) (σ : St) (H : Hp) (D : Ends), Inv X pins σ H s → t D σ H → wpAny (model X.prog X.w) X.A (exec st X.env) (SP X pins D) X.xe s
def PSs (X : Cx) (st : List Stmt) (t : TS) : Prop :=
  ∀ (pins : List (Addr × Obj)) (s : Shared) (σ : St) (H : Hp) (D : Ends), Inv X pins σ H s → t D σ H → wpAny (model X.prog X.w) X.A (execs st X.env) (SP X pins D) X.xe s
/-- weaken the end -/
theorem thn {α : Type} {t : Sem α} {Q Q' : α → Shared → Prop} {M : Model} {A : Around} {E : Value → Shared → Prop} {s : Shared} (h : wpAny M A t Q E s) (hQ : ∀ a s, Q a s → Q' a s) : wpAny M A t Q' E s := wpAny_mono h hQ fun _ _ x => x
end L2

namespace L2
open PySem PySem.Spec PyProof.Rows
section
variable {X : Cx}

/-- two expressions in a row -/
theorem bin {a b : Expr} {ta tb : TE} (ha : PE X a ta) (hb : PE X b tb) {pins : List (Addr × Obj)} {s : Shared} {σ : St} {H : Hp} {R : V → V → Hp → Prop} (I : Inv X pins σ H s) (h : ta σ H fun x H1 => tb σ H1 fun y H2 => R x y H2)
    {α : Type} {Q : α → Shared → Prop} {f : Value → Value → Sem α}
    (hf : ∀ v u s2 x y H2, Inv X pins σ H2 s2 → RelV x v → RelV y u → R x y H2 → wpAny (model X.prog X.w) X.A (f v u) Q X.xe s2) :
    wpAny (model X.prog X.w) X.A (eval a X.env) (fun v s₁ => wpAny (model X.prog X.w) X.A (eval b X.env) (fun u s₂ => wpAny (model X.prog X.w) X.A (f v u) Q X.xe s₂) X.xe s₁) X.xe s := by
  refine thn (ha pins s σ H _ I h) fun v s1 ⟨x, H1, I1, r1, q1⟩ => ?_
  refine thn (hb pins s1 σ H1 _ I1 q1) fun u s2 ⟨y, H2, I2, r2, q2⟩ => ?_
  exact hf v u s2 x y H2 I2 r1 r2 q2

/-! ### names and constants -/
def tVar (i : Nat) : TE := fun σ H Q => ∃ v, σ[i]? = some (some v) ∧ Q v H
def tC (v : V) : TE := fun _ H Q => Q v H
theorem pe_var {i : Nat} {x : Str} {pos : Pos} (hN : X.N[i]? = some x) (hv : Vis X.env.scope x) (hd : (x == ("__debug__" : Str)) = false := by decide) (hcd : (x == ("__classdict__" : Str)) = false := by decide) : PE X (.Name x pos) (tVar i) := by
  intro pins s σ H Q I h
  obtain ⟨v, e, h⟩ := h
  obtain ⟨m, hn, hl⟩ := I.loc
  obtain ⟨u, r, l⟩ := hl i x v hN e hv
  have fin : EP X pins σ Q u s := ⟨v, H, I, r, h⟩
  rcases l with ⟨hk, hm⟩ | ⟨hk, c, hc, hcell⟩
  · exact wpAny_Name (wpAny_loadName_local I.ok.kind hk hn hm fin) hd
  · rcases hk with hk | hk
    · exact wpAny_Name (wpAny_loadName_cell I.ok.kind hk hc hcell fin) hd
    · exact wpAny_Name (wpAny_loadName_free I.ok.kind hk hc hcell fin hcd) hd
theorem pe_int {i j pos} : PE X (.Constant (.int i) j pos) (tC (.int i)) := fun _ _ _ H _ I h => wpAny_Constant_int ⟨.int i, H, I.tok _, ⟨_, rfl⟩, h⟩
theorem pe_bl {b j pos} : PE X (.Constant (.bool b) j pos) (tC (.bl b)) := fun _ _ _ H _ I h => Constant_bool ⟨.bl b, H, I, rfl, h⟩
theorem pe_non {j pos} : PE X (.Constant .none j pos) (tC .non) := fun _ _ _ H _ I h => Constant_none ⟨.non, H, I, rfl, h⟩
theorem pe_str {x j pos} : PE X (.Constant (.str x) j pos) (tC (.str x)) := fun _ _ _ H _ I h => Calls.Constant_str ⟨.str x, H, I.tok _, ⟨_, rfl⟩, h⟩

/-- a global name of the def -/
def Gl (X : Cx) (x : Str) : Prop := X.env.kindOf x = some .globalImplicit
theorem ld_glob {E : Value → Shared → Prop} {pins : List (Addr × Obj)} {s : Shared} {σ : St} {H : Hp} {x : Str} {u : Value} {pos : Pos} {Q : Value → Shared → Prop} (I : Inv X pins σ H s) (hg : Gl X x) (hm : X.mg x = some u) (h : Q u s)
    (hd : (x == ("__debug__" : Str)) = false := by decide) : wpAny (model X.prog X.w) X.A (eval (.Name x pos) X.env) Q E s :=
  Calls.Name_function_global I.ok.kind hg (Calls.loadGlobal_global (by rw [I.ok.glob]; exact I.mod.glob.keeps I.bk) hm h) hd
theorem ld_blt {E : Value → Shared → Prop} {pins : List (Addr × Obj)} {s : Shared} {σ : St} {H : Hp} {x : Str} {u : Value} {pos : Pos} {Q : Value → Shared → Prop} (I : Inv X pins σ H s) (hg : Gl X x) (hm : X.mg x = none) (hv : bootBuiltins x = some u) (h : Q u s)
    (hn : x ≠ "__name__" := by decide) (hd : (x == ("__debug__" : Str)) = false := by decide) : wpAny (model X.prog X.w) X.A (eval (.Name x pos) X.env) Q E s := by
  obtain ⟨mb, h1, h2⟩ := I.mod.blt
  exact Calls.Name_function_global I.ok.kind hg (Calls.loadGlobal_builtin (by rw [I.ok.glob]; exact I.mod.glob.keeps I.bk) hm (by rw [I.ok.blt]; exact h1.keeps I.bk) ((h2 x hn).trans hv) h) hd
/-- a module's constant, a class, a function, as a value -/
theorem pe_glob {x : Str} {v : V} {u : Value} {pos : Pos} (hg : Gl X x) (hm : X.mg x = some u) (r : RelV v u) (hd : (x == ("__debug__" : Str)) = false := by decide) : PE X (.Name x pos) (tC v) :=
  fun _ _ _ H _ I h => ld_glob I hg hm ⟨v, H, I, r, h⟩ hd
theorem pe_bltn {x : Str} {v : V} {u : Value} {pos : Pos} (hg : Gl X x) (hm : X.mg x = none) (hv : bootBuiltins x = some u) (r : RelV v u) (hn : x ≠ "__name__" := by decide) (hd : (x == ("__debug__" : Str)) = false := by decide) : PE X (.Name x pos) (tC v) :=
  fun _ _ _ H _ I h => ld_blt I hg hm hv ⟨v, H, I, r, h⟩ hn hd

/-! ### arithmetic -/
/-- two ints -/
def t2I (ta tb : TE) (k : Int → Int → Hp → Prop) : St → Hp → Prop := fun σ H => ta σ H fun x H1 => tb σ H1 fun y H2 => ∃ i j, x = .int i ∧ y = .int j ∧ k i j H2
def tAdd (ta tb : TE) : TE := fun σ H Q => t2I ta tb (fun i j H2 => Q (.int (i + j)) H2) σ H
def tSub (ta tb : TE) : TE := fun σ H Q => t2I ta tb (fun i j H2 => Q (.int (i - j)) H2) σ H
/-- the left factor below 2^64 -/
def tMul (ta tb : TE) : TE := fun σ H Q => t2I ta tb (fun i j H2 => (-(2 ^ 64) < i ∧ i < 2 ^ 64) ∧ Q (.int (i * j)) H2) σ H
variable {a b : Expr} {ta tb : TE} {pos : Pos}
theorem pe_add (ha : PE X a ta) (hb : PE X b tb) : PE X (.BinOp a .Add b pos) (tAdd ta tb) := by
  intro pins s σ H Q I h
  refine wpAny_BinOp (bin ha hb I h fun v u s2 x y H2 I2 rx ry q => ?_)
  obtain ⟨i, j, rfl, rfl, q⟩ := q
  obtain ⟨t, rfl⟩ := rx
  obtain ⟨t', rfl⟩ := ry
  exact add_int ⟨.int _, H2, I2.tok _, ⟨_, rfl⟩, q⟩
theorem pe_sub (ha : PE X a ta) (hb : PE X b tb) : PE X (.BinOp a .Sub b pos) (tSub ta tb) := by
  intro pins s σ H Q I h
  refine wpAny_BinOp (bin ha hb I h fun v u s2 x y H2 I2 rx ry q => ?_)
  obtain ⟨i, j, rfl, rfl, q⟩ := q
  obtain ⟨t, rfl⟩ := rx
  obtain ⟨t', rfl⟩ := ry
  exact sub_int ⟨.int _, H2, I2.tok _, ⟨_, rfl⟩, q⟩
theorem pe_mul (ha : PE X a ta) (hb : PE X b tb) : PE X (.BinOp a .Mult b pos) (tMul ta tb) := by
  intro pins s σ H Q I h
  refine wpAny_BinOp (bin ha hb I h fun v u s2 x y H2 I2 rx ry q => ?_)
  obtain ⟨i, j, rfl, rfl, ⟨q1, q2⟩, q⟩ := q
  obtain ⟨t, rfl⟩ := rx
  obtain ⟨t', rfl⟩ := ry
  exact mul_int ⟨.int _, H2, I2.tok _, ⟨_, rfl⟩, q⟩ (.of_left (intBits_le_64 q1 q2))

/-! ### comparisons -/
def PC (X : Cx) (op : CmpOp) (a b : Expr) (t : TE) : Prop :=
  ∀ (pins : List (Addr × Obj)) (s : Shared) (σ : St) (H : Hp) (Q : VK), Inv X pins σ H s → t σ H Q →
    wpAny (model X.prog X.w) X.A (eval a X.env) (fun v s₁ => wpAny (model X.prog X.w) X.A (eval b X.env) (fun u s₂ => wpAny (model X.prog X.w) X.A (compareOp op v u) (EP X pins σ Q) X.xe s₂) X.xe s₁) X.xe s
theorem nobehind (b : Expr) {op : CmpOp} (h : op ≠ .In) (h2 : op ≠ .NotIn) : behindInMarks op b = false := by
  have e1 : (op == CmpOp.In) = false := by cases op <;> first | rfl | exact absurd rfl h
  have e2 : (op == CmpOp.NotIn) = false := by cases op <;> first | rfl | exact absurd rfl h2
  cases b <;> simp [behindInMarks, e1, e2]
def tCmp (p : Int → Int → Bool) (ta tb : TE) : TE := fun σ H Q => t2I ta tb (fun i j H2 => Q (.bl (p i j)) H2) σ H
abbrev tLt : TE → TE → TE := tCmp fun i j => decide (i < j)
abbrev tLe : TE → TE → TE := tCmp fun i j => decide (i ≤ j)
abbrev tGt : TE → TE → TE := tCmp fun i j => decide (j < i)
abbrev tGe : TE → TE → TE := tCmp fun i j => decide (j ≤ i)
abbrev tEqI : TE → TE → TE := tCmp fun i j => decide (i = j)
abbrev tNeI : TE → TE → TE := tCmp fun i j => !decide (i = j)
/-- a comparison of two ints, by its rule -/
theorem pc_int {op : CmpOp} {p : Int → Int → Bool} (ha : PE X a ta) (hb : PE X b tb)
    (rule : ∀ (i j : Int) (t u : Tok) (Q : Value → Shared → Prop) (s : Shared), Q (.bool (p i j)) s → wpAny (model X.prog X.w) X.A (compareOp op (.int i t) (.int j u)) Q X.xe s) : PC X op a b (tCmp p ta tb) := by
  intro pins s σ H Q I h
  refine bin ha hb I h fun v u s2 x y H2 I2 rx ry q => ?_
  obtain ⟨i, j, rfl, rfl, q⟩ := q
  obtain ⟨t, rfl⟩ := rx
  obtain ⟨t', rfl⟩ := ry
  exact rule i j t t' _ s2 ⟨.bl _, H2, I2, rfl, q⟩
theorem pc_lt (ha : PE X a ta) (hb : PE X b tb) : PC X .Lt a b (tLt ta tb) := pc_int ha hb fun _ _ _ _ _ _ h => lt_int h
theorem pc_le (ha : PE X a ta) (hb : PE X b tb) : PC X .LtE a b (tLe ta tb) := pc_int ha hb fun _ _ _ _ _ _ h => le_int h
theorem pc_gt (ha : PE X a ta) (hb : PE X b tb) : PC X .Gt a b (tGt ta tb) := pc_int ha hb fun _ _ _ _ _ _ h => gt_int h
theorem pc_ge (ha : PE X a ta) (hb : PE X b tb) : PC X .GtE a b (tGe ta tb) := pc_int ha hb fun _ _ _ _ _ _ h => ge_int h
theorem pc_eqI (ha : PE X a ta) (hb : PE X b tb) : PC X .Eq a b (tEqI ta tb) := pc_int ha hb fun _ _ _ _ _ _ h => eq_int (by rw [Bool.beq_eq_decide_eq]; exact h)
theorem pc_neI (ha : PE X a ta) (hb : PE X b tb) : PC X .NotEq a b (tNeI ta tb) := pc_int ha hb fun _ _ _ _ _ _ h => ne_int (by rw [bne, Bool.beq_eq_decide_eq]; exact h)
/-- is None -/
def tIsN (ta : TE) : TE := fun σ H Q => ta σ H fun x H1 => Q (.bl (decide (x = .non))) H1
def tNotN (ta : TE) : TE := fun σ H Q => ta σ H fun x H1 => Q (.bl (!decide (x = .non))) H1
theorem RelV.none_iff {x : V} {v : Value} (r : RelV x v) : (v == Value.none) = decide (x = .non) := by
  cases x with
  | non => cases r; rfl
  | bl _ => cases r; rfl
  | int _ => obtain ⟨t, rfl⟩ := r; rfl
  | str _ => obtain ⟨t, rfl⟩ := r; rfl
  | byt _ => obtain ⟨t, rfl⟩ := r; rfl
  | flt _ => obtain ⟨t, rfl⟩ := r; rfl
  | ref _ => cases r; rfl
  | ty _ => cases r; rfl
theorem pc_isN {j pos'} (ha : PE X a ta) : PC X .Is a (.Constant .none j pos') (tIsN ta) := by
  intro pins s σ H Q I h
  refine thn (ha pins s σ H _ I h) fun v s1 ⟨x, H1, I1, r1, q1⟩ => ?_
  exact Constant_none (is_none_gen ⟨.bl _, H1, I1, by rw [r1.none_iff]; rfl, q1⟩)
theorem pc_notN {j pos'} (ha : PE X a ta) : PC X .IsNot a (.Constant .none j pos') (tNotN ta) := by
  intro pins s σ H Q I h
  refine thn (ha pins s σ H _ I h) fun v s1 ⟨x, H1, I1, r1, q1⟩ => ?_
  exact Constant_none (isnot_none_gen ⟨.bl _, H1, I1, by rw [r1.none_iff]; rfl, q1⟩)
/-- a comparison as a value, as a test -/
def tB (t : TE) : TT := fun σ H Q => t σ H fun x H1 => ∃ c, x = .bl c ∧ Q c H1
theorem pe_cmp {op : CmpOp} {t : TE} (h : PC X op a b t) (h1 : behindInMarks op b = false := by first | exact nobehind _ (by decide) (by decide) | rfl) : PE X (.Compare a [op] [b] pos) t := fun pins s σ H Q I hw => wpAny_Compare1 (h pins s σ H Q I hw) h1
theorem pt_cmp {op : CmpOp} {t : TE} (h : PC X op a b t) (h1 : behindInMarks op b = false := by first | exact nobehind _ (by decide) (by decide) | rfl) : PT X (.Compare a [op] [b] pos) (tB t) := by
  intro pins s σ H Q I hw
  refine wpAny_isTrue_Compare1 (thn (h pins s σ H _ I hw) fun v s1 h1 => thn h1 fun u s2 h2 => thn h2 fun c s3 ⟨x, H1, I1, r1, q1⟩ => ?_) h1
  obtain ⟨d, rfl, q⟩ := q1
  cases r1
  exact wpAny_truthy_bool ⟨H1, I1, q⟩
/-- an expression whose value is a bool, as a test -/
theorem pt_val {e : Expr} {t : TE} (h : PE X e t) (he : ∀ whole, isTrue e X.env whole = (do let v ← whole; standAt e.pos; holding [v] (truthy v)) := by intro _; rfl) : PT X e (tB t) := by
  intro pins s σ H Q I hw
  refine isTrue_plain (thn (h pins s σ H _ I hw) fun v s1 ⟨x, H1, I1, r1, q1⟩ => ?_) (he _)
  obtain ⟨d, rfl, q⟩ := q1
  cases r1
  exact wpAny_truthy_bool ⟨H1, I1, q⟩

/-! ### and, or, not -/
variable {tA tB' : TT} {rest : List Expr}
def tAnd (t u : TT) : TT := fun σ H Q => t σ H fun c H1 => if c = true then u σ H1 Q else Q false H1
def tOr (t u : TT) : TT := fun σ H Q => t σ H fun c H1 => if c = true then Q true H1 else u σ H1 Q
def tNot (t : TT) : TT := fun σ H Q => t σ H fun c H1 => Q (!c) H1
theorem pw_and1 (ha : PT X a tA) : PW X (.BoolOp .And [a] pos) tA := by
  intro wh pins s σ H Q I h
  refine isTrue_and (thn (ha pins s σ H Q I h) fun c s1 e => ?_)
  cases c with
  | true => exact isTrue_and_nil e
  | false => exact e
theorem pw_or1 (ha : PT X a tA) : PW X (.BoolOp .Or [a] pos) tA := by
  intro wh pins s σ H Q I h
  refine isTrue_or (thn (ha pins s σ H Q I h) fun c s1 e => ?_)
  cases c with
  | false => exact isTrue_or_nil e
  | true => exact e
theorem pw_and (ha : PT X a tA) (hb : PW X (.BoolOp .And (b :: rest) pos) tB') : PW X (.BoolOp .And (a :: b :: rest) pos) (tAnd tA tB') := by
  intro wh pins s σ H Q I h
  refine isTrue_and (thn (ha pins s σ H _ I h) fun c s1 ⟨H1, I1, q1⟩ => ?_)
  cases c with
  | true => exact hb wh pins s1 σ H1 Q I1 q1
  | false => exact ⟨H1, I1, q1⟩
theorem pw_or (ha : PT X a tA) (hb : PW X (.BoolOp .Or (b :: rest) pos) tB') : PW X (.BoolOp .Or (a :: b :: rest) pos) (tOr tA tB') := by
  intro wh pins s σ H Q I h
  refine isTrue_or (thn (ha pins s σ H _ I h) fun c s1 ⟨H1, I1, q1⟩ => ?_)
  cases c with
  | true => exact ⟨H1, I1, q1⟩
  | false => exact hb wh pins s1 σ H1 Q I1 q1
theorem pt_not (ha : PT X a tA) : PT X (.UnaryOp .Not a pos) (tNot tA) := by
  intro pins s σ H Q I h
  exact isTrue_not (ha pins s σ H (fun c H1 => Q (!c) H1) I h)
/-- .. as values (bools) -/
def tAndV (ta tb : TE) : TE := fun σ H Q => ta σ H fun x H1 => ∃ c, x = .bl c ∧ if c = true then tb σ H1 Q else Q (.bl false) H1
def tOrV (ta tb : TE) : TE := fun σ H Q => ta σ H fun x H1 => ∃ c, x = .bl c ∧ if c = true then Q (.bl true) H1 else tb σ H1 Q
def tNotV (ta : TE) : TE := fun σ H Q => ta σ H fun x H1 => ∃ c, x = .bl c ∧ Q (.bl (!c)) H1
theorem pe_one {op} {t : TE} (h : PE X a t) : PE X (.BoolOp op [a] pos) t := fun pins s σ H Q I hw => BoolOp_one (h pins s σ H Q I hw)
theorem pe_and (ha : PE X a ta) (hb : PE X (.BoolOp .And (b :: rest) pos) tb) : PE X (.BoolOp .And (a :: b :: rest) pos) (tAndV ta tb) := by
  intro pins s σ H Q I h
  refine BoolOp_and (thn (ha pins s σ H _ I h) fun v s1 ⟨x, H1, I1, r1, q1⟩ => ?_)
  obtain ⟨c, rfl, q1⟩ := q1
  cases r1
  refine wpAny_truthy_bool ?_
  cases c with
  | true => exact hb pins s1 σ H1 Q I1 q1
  | false => exact ⟨.bl false, H1, I1, rfl, q1⟩
theorem pe_or (ha : PE X a ta) (hb : PE X (.BoolOp .Or (b :: rest) pos) tb) : PE X (.BoolOp .Or (a :: b :: rest) pos) (tOrV ta tb) := by
  intro pins s σ H Q I h
  refine BoolOp_or (thn (ha pins s σ H _ I h) fun v s1 ⟨x, H1, I1, r1, q1⟩ => ?_)
  obtain ⟨c, rfl, q1⟩ := q1
  cases r1
  refine wpAny_truthy_bool ?_
  cases c with
  | false => exact hb pins s1 σ H1 Q I1 q1
  | true => exact ⟨.bl true, H1, I1, rfl, q1⟩
theorem pe_not (ha : PE X a ta) : PE X (.UnaryOp .Not a pos) (tNotV ta) := by
  intro pins s σ H Q I h
  refine UnaryOp_ (thn (ha pins s σ H _ I h) fun v s1 ⟨x, H1, I1, r1, q1⟩ => ?_)
  obtain ⟨c, rfl, q1⟩ := q1
  cases r1
  exact not_of (wpAny_truthy_bool ⟨.bl (!c), H1, I1, rfl, q1⟩)
/-- a if t else b -/
def tIf (t : TT) (ta tb : TE) : TE := fun σ H Q => t σ H fun c H1 => if c = true then ta σ H1 Q else tb σ H1 Q
theorem pe_ifExp {c : Expr} (hc : PT X c tA) (ha : PE X a ta) (hb : PE X b tb) : PE X (.IfExp c a b pos) (tIf tA ta tb) := by
  intro pins s σ H Q I h
  refine wpAny_IfExp (thn (hc pins s σ H _ I h) fun d s1 ⟨H1, I1, q1⟩ => ?_)
  cases d with
  | true => exact ha pins s1 σ H1 Q I1 q1
  | false => exact hb pins s1 σ H1 Q I1 q1
end
end L2

namespace L2
open PySem PySem.Spec PyProof.Rows

/-! ### a list, a tuple that is read: tracked, frozen, or an object of the module -/
def SqL (K : PySem.W.Frag) (H : Hp) (a : Addr) (xs : List V) : Prop :=
  Rd H a (.lst xs) ∨
    ∃ (o : Obj) (its : Array Value) (n : Nat), K.lookup a = some o ∧ o.cls = .type "list" ∧ o.dict = none ∧ o.data = .seq its n ∧ its.size ≤ sizeLine ∧ Vals xs its.toList
def SqT (K : PySem.W.Frag) (H : Hp) (a : Addr) (xs : List V) : Prop :=
  Rd H a (.tup xs) ∨
    ∃ (o : Obj) (its : Array Value) (n : Nat), K.lookup a = some o ∧ o.cls = .type "tuple" ∧ o.data = .seq its n ∧ its.size ≤ sizeLine ∧ Vals xs its.toList
def absV : Value → Option V
  | .none => some .non
  | .bool b => some (.bl b)
  | .int i _ => some (.int i)
  | .str x _ => some (.str x)
  | .bytes b _ => some (.byt b)
  | .float b _ => some (.flt b)
  | .ref a => some (.ref a)
  | .type n => some (.ty n)
  | _ => none
theorem RelV.abs {x : V} {u : Value} (r : RelV x u) : absV u = some x := by
  cases x with
  | non => cases r; rfl
  | bl _ => cases r; rfl
  | int _ => obtain ⟨t, rfl⟩ := r; rfl
  | str _ => obtain ⟨t, rfl⟩ := r; rfl
  | byt _ => obtain ⟨t, rfl⟩ := r; rfl
  | flt _ => obtain ⟨t, rfl⟩ := r; rfl
  | ref _ => cases r; rfl
  | ty _ => cases r; rfl
theorem RelV.inj {x y : V} {u : Value} (r : RelV x u) (q : RelV y u) : x = y := Option.some.inj (r.abs.symm.trans q.abs)
theorem Vals.inj : ∀ {xs ys : List V} {us : List Value}, Vals xs us → Vals ys us → xs = ys
  | _, _, _, .nil, .nil => rfl
  | _, _, _, .cons r t, .cons r' t' => by rw [r.inj r', Vals.inj t t']
section
variable {X : Cx} {pins : List (Addr × Obj)} {σ : St} {H : Hp} {s : Shared} {a : Addr} {xs ys : List V}
theorem SqL.of {K : PySem.W.Frag} (h : H a = some (.lst xs)) : SqL K H a xs := .inl (.inl h)
theorem SqT.of {K : PySem.W.Frag} (h : H a = some (.tup xs)) : SqT K H a xs := .inl (.inl h)
theorem Inv.list (I : Inv X pins σ H s) (h : SqL X.K H a xs) : ∃ its : List Value, Vals xs its ∧ PlainL s.heap a its.toArray ∧ xs.length ≤ sizeLine := by
  rcases h with h | ⟨o, its, n, hk, hc, hd, hs, hz, r⟩
  · obtain ⟨z, its, n, r, e⟩ := h.ok I.hok
    exact ⟨its, r, ⟨_, n, e, rfl, rfl, rfl⟩, z⟩
  · refine ⟨its.toList, r, ⟨o, n, I.kIn a o hk, hc, hd, by simpa using hs⟩, ?_⟩
    have e := r.length
    simp only [Array.length_toList] at e
    omega
theorem Inv.tuple (I : Inv X pins σ H s) (h : SqT X.K H a xs) : ∃ its : List Value, Vals xs its ∧ IsTup s.heap a its.toArray ∧ xs.length ≤ sizeLine := by
  rcases h with h | ⟨o, its, n, hk, hc, hs, hz, r⟩
  · obtain ⟨z, its, r, p⟩ := h.ok I.hok
    exact ⟨its, r, p, z⟩
  · refine ⟨its.toList, r, ⟨o, I.kIn a o hk, hc, n, by simpa using hs⟩, ?_⟩
    have e := r.length
    simp only [Array.length_toList] at e
    omega
theorem Inv.list_inj (I : Inv X pins σ H s) (h : SqL X.K H a xs) (h' : SqL X.K H a ys) : xs = ys := by
  obtain ⟨its, r, ⟨o, n, e, _, _, d⟩, _⟩ := I.list h
  obtain ⟨its', r', ⟨o', n', e', _, _, d'⟩, _⟩ := I.list h'
  rw [e] at e'; cases e'
  rw [d] at d'
  injection d' with d1 _
  have : its = its' := by simpa using congrArg Array.toList d1
  subst this
  exact r.inj r'
theorem Inv.tuple_inj (I : Inv X pins σ H s) (h : SqT X.K H a xs) (h' : SqT X.K H a ys) : xs = ys := by
  obtain ⟨its, r, ⟨o, e, _, n, d⟩, _⟩ := I.tuple h
  obtain ⟨its', r', ⟨o', e', _, n', d'⟩, _⟩ := I.tuple h'
  rw [e] at e'; cases e'
  rw [d] at d'
  injection d' with d1 _
  have : its = its' := by simpa using congrArg Array.toList d1
  subst this
  exact r.inj r'
end

/-! ### another wish about exceptions -/
abbrev Cx.wish (X : Cx) (E : Value → Shared → Prop) : Cx := { X with xe := E }
/-- no exception leaves -/
abbrev Cx.nox (X : Cx) : Cx := X.wish fun _ _ => False
theorem Cx.Ok.wish {X : Cx} (ok : X.Ok) (E : Value → Shared → Prop) : (X.wish E).Ok :=
  ⟨ok.mod, ok.kind, ok.glob, ok.blt, ok.above, ok.inj, ok.has, ok.cab, ok.hd, ok.frames, ok.stk, ok.exf, ok.bs, ok.bsz, ok.noex, ok.exfs, ok.funs, ok.frf⟩
theorem Cx.Ok.unwish {X : Cx} {E : Value → Shared → Prop} (ok : (X.wish E).Ok) : X.Ok :=
  ⟨ok.mod, ok.kind, ok.glob, ok.blt, ok.above, ok.inj, ok.has, ok.cab, ok.hd, ok.frames, ok.stk, ok.exf, ok.bs, ok.bsz, ok.noex, ok.exfs, ok.funs, ok.frf⟩
section
variable {X : Cx} {pins : List (Addr × Obj)} {σ : St} {H : Hp} {s : Shared} {E : Value → Shared → Prop}
theorem Inv.wish (I : Inv X pins σ H s) (E : Value → Shared → Prop) : Inv (X.wish E) pins σ H s := ⟨I.ok.wish E, I.os, I.bare, I.base, I.loc, I.cell, I.free, I.freeC, I.pin, I.hok, I.len⟩
theorem Inv.unwish (I : Inv (X.wish E) pins σ H s) : Inv X pins σ H s := ⟨I.ok.unwish, I.os, I.bare, I.base, I.loc, I.cell, I.free, I.freeC, I.pin, I.hok, I.len⟩
theorem SP.unwish {D : Ends} {f : Flow} {s' : Shared} (h : SP (X.wish E) pins D f s') : SP X pins D f s' := by
  cases f with
  | next => obtain ⟨σ', H', I, q⟩ := h; exact ⟨σ', H', I.unwish, q⟩
  | brk => obtain ⟨σ', H', I, q⟩ := h; exact ⟨σ', H', I.unwish, q⟩
  | cont => obtain ⟨σ', H', I, q⟩ := h; exact ⟨σ', H', I.unwish, q⟩
  | ret u => obtain ⟨v, σ', H', I, r, q⟩ := h; exact ⟨v, σ', H', I.unwish, r, q⟩
theorem PE.nox {e : Expr} {t : TE} (h : PE X.nox e t) : PE X e t := fun pins s σ H Q I hw =>
  wpAny_mono (h pins s σ H Q (I.wish _) hw) (fun _ _ ⟨v, H', I', r, q⟩ => ⟨v, H', I'.unwish, r, q⟩) fun _ _ z => False.elim z
theorem PT.nox {e : Expr} {t : TT} (h : PT X.nox e t) : PT X e t := fun pins s σ H Q I hw =>
  wpAny_mono (h pins s σ H Q (I.wish _) hw) (fun _ _ ⟨H', I', q⟩ => ⟨H', I'.unwish, q⟩) fun _ _ z => False.elim z
theorem PSs.nox {st : List Stmt} {t : TS} (h : PSs X.nox st t) : PSs X st t := fun pins s σ H D I hw =>
  wpAny_mono (h pins s σ H D (I.wish _) hw) (fun _ _ q => q.unwish) fun _ _ z => False.elim z
end

/-! ### blocks and small statements -/
section
variable {X : Cx} {st : Stmt} {rest : List Stmt} {t u : TS} {e : Expr} {te : TE} {pos : Pos}
def tNext : TS := fun D σ H => D.nx σ H
def tSeq (t u : TS) : TS := fun D σ H => t { D with nx := u D } σ H
theorem pss_nil : PSs X [] tNext := fun _ _ σ H _ I h => wpAny_execs_nil ⟨σ, H, I, h⟩
theorem pss_cons (h1 : PS X st t) (h2 : PSs X rest u) : PSs X (st :: rest) (tSeq t u) := by
  intro pins s σ H D I h
  refine wpAny_execs_cons (thn (h1 pins s σ H { D with nx := u D } I h) fun f s1 q => ?_)
  cases f with
  | next =>
    obtain ⟨σ', H', I', q⟩ := q
    exact h2 pins s1 σ' H' D I' q
  | ret v => exact q
  | brk => exact q
  | cont => exact q
theorem pss_one (h1 : PS X st t) : PSs X [st] t := by
  intro pins s σ H D I h
  refine wpAny_execs_cons (thn (h1 pins s σ H D I h) fun f s1 q => ?_)
  cases f with
  | next => exact wpAny_execs_nil q
  | ret v => exact q
  | brk => exact q
  | cont => exact q
def tBreak : TS := fun D σ H => D.bk σ H
def tCont : TS := fun D σ H => D.ct σ H
theorem ps_pass : PS X (.Pass pos) tNext := fun _ _ σ H _ I h => wpAny_Pass ⟨σ, H, I, h⟩
theorem ps_break : PS X (.Break pos) tBreak := fun _ _ σ H _ I h => wpAny_Break ⟨σ, H, I, h⟩
theorem ps_continue : PS X (.Continue pos) tCont := fun _ _ σ H _ I h => wpAny_Continue ⟨σ, H, I, h⟩
/-- in a def's body nothing is shown -/
theorem Inv.quiet {pins : List (Addr × Obj)} {σ : St} {H : Hp} {s : Shared} (I : Inv X pins σ H s) : interactive X.env = false := by simp [interactive, I.ok.kind]
/-- a docstring -/
theorem ps_doc {x j pos pos'} : PS X (.Expr (.Constant (.str x) j pos) pos') tNext := fun _ s σ H _ I h => wpAny_Expr (Calls.Constant_str (show SP X _ _ .next { s with toks := s.toks + 1 } from ⟨σ, H, I.tok _, h⟩)) I.quiet
/-- an expression whose value is dropped -/
def tDrop (te : TE) : TS := fun D σ H => te σ H fun _ H1 => D.nx σ H1
theorem ps_expr (he : PE X e te) (hs : swapsWith e none pos.line X.env = pure false := by rfl) : PS X (.Expr e pos) (tDrop te) := by
  intro pins s σ H D I h
  exact wpAny_Expr_any (thn (he pins s σ H _ I h) fun v s1 ⟨x, H1, I1, r1, q1⟩ => ⟨σ, H1, I1, q1⟩) I.quiet hs
def tRet (te : TE) : TS := fun D σ H => te σ H D.rt
theorem ps_ret (he : PE X e te) : PS X (.Return (some e) pos) (tRet te) := by
  intro pins s σ H D I h
  exact wpAny_Return_some (thn (he pins s σ H _ I h) fun v s1 ⟨x, H1, I1, r1, q1⟩ => ⟨x, σ, H1, I1, r1, q1⟩)
def tRetN : TS := fun D _ H => D.rt .non H
theorem ps_retN : PS X (.Return none pos) tRetN := fun _ _ σ H _ I h => wpAny_Return_none ⟨.non, σ, H, I, rfl, h⟩
def tIfS (c : TT) (t u : TS) : TS := fun D σ H => c σ H fun b H1 => if b = true then t D σ H1 else u D σ H1
theorem ps_if {c : Expr} {a b : List Stmt} {tc : TT} (hc : PT X c tc) (ha : PSs X a t) (hb : PSs X b u) : PS X (.If c a b pos) (tIfS tc t u) := by
  intro pins s σ H D I h
  refine wpAny_If (thn (hc pins s σ H _ I h) fun d s1 ⟨H1, I1, q1⟩ => ?_)
  cases d with
  | true => exact ha pins s1 σ H1 D I1 q1
  | false => exact hb pins s1 σ H1 D I1 q1
/-- code that the proof never comes to -/
def tNever : TS := fun _ _ _ => False
theorem ps_never : PS X st tNever := fun _ _ _ _ _ _ h => h.elim
theorem pss_never {sts : List Stmt} : PSs X sts tNever := fun _ _ _ _ _ _ h => h.elim
end

/-! ### targets -/
abbrev TG := V → St → Hp → (St → Hp → Prop) → Prop
abbrev TGs := List V → St → Hp → (St → Hp → Prop) → Prop
def PG (X : Cx) (target : Expr) (t : TG) : Prop :=
  ∀ (pins : List (Addr × Obj)) (s : Shared) (σ : St) (H : Hp) (v : V) (u : Value) (Q : St → Hp → Prop), Inv X pins σ H s → RelV v u → t v σ H Q →
    wpAny (model X.prog X.w) X.A (assign target X.env u) (fun _ s' => ∃ σ' H', Inv X pins σ' H' s' ∧ Q σ' H') X.xe s
/-- several targets, one after another -/
def PGs (X : Cx) (ts : List Expr) (t : TGs) : Prop :=
  ∀ (pins : List (Addr × Obj)) (s : Shared) (σ : St) (H : Hp) (vs : List V) (us : List Value) (Q : St → Hp → Prop), Inv X pins σ H s → Vals vs us → t vs σ H Q →
    wpAny (model X.prog X.w) X.A (assignInOrder ((assignEach ts X.env).map (·.2)) us) (fun _ s' => ∃ σ' H', Inv X pins σ' H' s' ∧ Q σ' H') X.xe s
/-- o[i] = v, by values -/
abbrev TSet := V → V → V → Hp → (Hp → Prop) → Prop
def PSet (X : Cx) (t : TSet) : Prop :=
  ∀ (pins : List (Addr × Obj)) (s : Shared) (σ : St) (H : Hp) (o i v : V) (ov iv u : Value) (Q : Hp → Prop), Inv X pins σ H s → RelV o ov → RelV i iv → RelV v u → t o i v H Q →
    wpAny (model X.prog X.w) X.A (setItem ov iv u) (fun _ s' => ∃ H', Inv X pins σ H' s' ∧ Q H') X.xe s
/-- a op= b, by values -/
abbrev TIp := V → V → Hp → VK → Prop
def PIp (X : Cx) (op : Operator) (t : TIp) : Prop :=
  ∀ (pins : List (Addr × Obj)) (s : Shared) (σ : St) (H : Hp) (x y : V) (v u : Value) (Q : VK), Inv X pins σ H s → RelV x v → RelV y u → t x y H Q →
    wpAny (model X.prog X.w) X.A (inplaceOp op v u) (EP X pins σ Q) X.xe s
section
variable {X : Cx} {pos : Pos}
def gName (i : Nat) : TG := fun v σ H Q => Q (σ.set i (some v)) H
theorem pg_name {i : Nat} {x : Str} (hN : X.N.Nodup) (hi : X.N[i]? = some x) (hx : Loc X.env.scope x) (hf : X.fn x = true ∨ X.env.scope.names.lookup x = some .local := by first | exact .inl rfl | exact .inr rfl | assumption) : PG X (.Name x pos) (gName i) := by
  intro pins s σ H v u Q I r h
  exact wpAny_assign_Name (store_ok I hN hi hx r (fun s' I' => ⟨_, H, I', h⟩) hf)
def gNil : TGs := fun vs σ H Q => vs = [] ∧ Q σ H
def gCons (t : TG) (u : TGs) : TGs := fun vs σ H Q => ∃ v r, vs = v :: r ∧ t v σ H fun σ' H' => u r σ' H' Q
theorem pgs_nil : PGs X [] gNil := by
  intro pins s σ H vs us Q I r h
  obtain ⟨e, h⟩ := h
  subst e
  cases r
  exact assignInOrder_nil ⟨σ, H, I, h⟩
theorem pgs_cons {e : Expr} {es : List Expr} {t : TG} {u : TGs} (h1 : PG X e t) (h2 : PGs X es u)
    (hs : (assignEach (e :: es) X.env).map (·.2) = assign e X.env :: (assignEach es X.env).map (·.2) := by rfl) : PGs X (e :: es) (gCons t u) := by
  intro pins s σ H vs us Q I r h
  obtain ⟨v, vr, e1, h⟩ := h
  subst e1
  cases r with
  | cons r rr =>
    rw [hs]
    refine assignInOrder_cons (thn (h1 pins s σ H _ _ _ I r h) fun _ s1 ⟨σ1, H1, I1, q1⟩ => ?_)
    exact h2 pins s1 σ1 H1 _ _ Q I1 rr q1
/-- (a, b, ..) = a tuple of that length -/
def gTup (K : PySem.W.Frag) (n : Nat) (t : TGs) : TG := fun v σ H Q => ∃ a xs, v = .ref a ∧ SqT K H a xs ∧ xs.length = n ∧ t xs σ H Q
theorem pg_tup {es : List Expr} {k : Nat} {t : TGs} {n : Nat} (hc : X.calm = true) (h : PGs X es t)
    (hn : (assignEach es X.env).length = n := by rfl) (hst : (assignEach es X.env).findIdx? (·.1) = none := by rfl) : PG X (.Tuple es k pos) (gTup X.K n t) := by
  intro pins s σ H v u Q I r hw
  obtain ⟨a, xs, e1, hq, hl, hw⟩ := hw
  subst e1
  cases r
  obtain ⟨its, rv, ht, hz⟩ := I.tuple hq
  refine assign_Tuple_tuple (I.ok.hd hc) ht (by simp [hn, ← hl, rv.length]) hst fun h' hx => ?_
  have I1 : Inv X pins σ H { s with heap := h' } := I.kept (t' := s.toks) fun b o e => hx b o (Nat.ne_of_lt (Heap.lt_size e)) e
  exact h pins _ σ H xs _ Q I1 (by simpa using rv) hw
/-- o[i] = .. -/
def gSub (to ti : TE) (t : TSet) : TG := fun v σ H Q => to σ H fun o H1 => ti σ H1 fun i H2 => t o i v H2 fun H3 => Q σ H3
theorem pg_sub {o i : Expr} {to ti : TE} {t : TSet} (ho : PE X o to) (hi : PE X i ti) (hs : PSet X t)
    (ha : ∀ v, assign (.Subscript o i pos) X.env v = (do
      let ov ← holding [v] (eval o X.env)
      let iv ← holding [v, ov] (eval i X.env)
      standAt pos
      holding [v, ov, iv] (setItem ov iv v)
      release [v, ov, iv] []) := by intro _; rfl) : PG X (.Subscript o i pos) (gSub to ti t) := by
  intro pins s σ H v u Q I r h
  rw [ha]
  refine wpAny_bind (wpAny_holding (thn (ho pins s σ H _ I h) fun ov s1 ⟨x, H1, I1, r1, q1⟩ => ?_))
  refine wpAny_bind (wpAny_holding (thn (hi pins s1 σ H1 _ I1 q1) fun iv s2 ⟨y, H2, I2, r2, q2⟩ => ?_))
  refine wpAny_bind (wpAny_standAt (wpAny_bind (wpAny_holding (thn (hs pins s2 σ H2 x y v ov iv u _ I2 r1 r2 r q2) fun _ s3 ⟨H3, I3, q3⟩ => ?_))))
  exact wpAny_release ⟨σ, H3, I3, q3⟩
/-- target = value -/
def tAsg (te : TE) (g : TG) : TS := fun D σ H => te σ H fun x H1 => g x σ H1 D.nx
theorem ps_asg {tg e : Expr} {te : TE} {g : TG} (he : PE X e te) (hg : PG X tg g) (hs : swapsWithSole [tg] e pos.line X.env = pure false := by rfl) (hw : swappedStores [tg] e X.env = pure none := by rfl)
    (h1 : (assignEach [tg] X.env).map (·.2) = [assign tg X.env] := by rfl) : PS X (.Assign [tg] e pos) (tAsg te g) := by
  intro pins s σ H D I h
  refine wpAny_Assign_stores (thn (he pins s σ H _ I h) fun v s1 ⟨x, H1, I1, r1, q1⟩ => ?_) hs hw
  rw [h1]
  exact thn (hg pins s1 σ H1 x v _ I1 r1 q1) fun _ s2 q => q
/-- name = value -/
theorem ps_set {i : Nat} {x : Str} {e : Expr} {te : TE} {pos' : Pos} (hN : X.N.Nodup) (hi : X.N[i]? = some x) (hx : Loc X.env.scope x) (he : PE X e te) (hs : swapsWith e (some (.Name x pos')) pos.line X.env = pure false := by rfl) (hf : X.fn x = true ∨ X.env.scope.names.lookup x = some .local := by first | exact .inl rfl | exact .inr rfl | assumption) :
    PS X (.Assign [.Name x pos'] e pos) (tAsg te (gName i)) := by
  intro pins s σ H D I h
  refine wpAny_Assign_Name (thn (he pins s σ H _ I h) fun v s1 ⟨y, H1, I1, r1, q1⟩ => ?_) hs
  exact store_ok I1 hN hi hx r1 (fun s2 I2 => ⟨_, H1, I2, q1⟩) hf
/-- a, b = x, y with plain local names: stored from the right; the pair itself is not tracked (the opening rows as in PyProof/Rows/TupAssign.lean:23) -/
def tPar (i j : Nat) (ta : TA) : TS := fun D σ H => ta σ H fun vs H1 => ∃ v w, vs = [v, w] ∧ D.nx ((σ.set i (some v)).set j (some w)) H1
theorem ps_par {i j : Nat} {x y : Str} {a b : Expr} {ta : TA} {px py pt : Pos} {kt k2 pt2} (hc : X.calm = true) (hN : X.N.Nodup) (hi : X.N[i]? = some x) (hj : X.N[j]? = some y) (hij : i ≠ j)
    (hx : X.env.scope.names.lookup x = some .local) (hy : X.env.scope.names.lookup y = some .local) (ha : PA X [a, b] ta)
    (hw : swappedStores [.Tuple [.Name x px, .Name y py] kt pt] (.Tuple [a, b] k2 pt2) X.env = pure (some [x, y]))
    (hs : swapsWithSole [.Tuple [.Name x px, .Name y py] kt pt] (.Tuple [a, b] k2 pt2) pos.line X.env = pure false := by rfl) :
    PS X (.Assign [.Tuple [.Name x px, .Name y py] kt pt] (.Tuple [a, b] k2 pt2) pos) (tPar i j ta) := by
  intro pins s σ H D I h
  rw [exec_Assign_arm]
  refine wpAny_bind (wpAny_standAt ?_)
  rw [hs]
  refine wpAny_bind (wpAny_pure ?_)
  rw [if_neg (by decide)]
  refine wpAny_bind (Tuple_ (thn (ha _ pins s σ H _ I h) fun us s1 ⟨vs, H1, I1, r1, q1⟩ => ?_))
  obtain ⟨v, w, e1, q1⟩ := q1
  subst e1
  obtain ⟨u1, u2, rfl, rv, rw'⟩ : ∃ u1 u2, us = [u1, u2] ∧ RelV v u1 ∧ RelV w u2 := by
    cases r1 with
    | cons p q =>
      cases q with
      | cons p' q' =>
        cases q'
        exact ⟨_, _, rfl, p, p'⟩
  refine wpAny_newObj_type ?_ (by show 2 ≤ sizeLine; decide)
  have I2 : Inv X pins σ H1 { s1 with heap := s1.heap.push { cls := .type "tuple", data := .seq [u1, u2].toArray } } := I1.kept (t' := s1.toks) fun b o e => Heap.get?_push_of_some _ e
  rw [hw]
  refine wpAny_bind (wpAny_pure ?_)
  show wpAny (model X.prog X.w) X.A (do rule "assign.swapped-stores"; let items ← unpackItems (.ref s1.heap.objs.size) 2 none; assignInOrder [fun v => bindName X.env y v, fun v => bindName X.env x v] items.reverse; pure Flow.next) _ _ _
  refine wpAny_bind (wpAny_rule (wpAny_bind (unpackItems_tuple (items := #[u1, u2]) (I.ok.hd hc) (IsTup.new s1.heap _) fun h' hx' => ?_)))
  have I3 := I2.kept (h' := h') (t' := s1.toks) fun b o e => hx' b o (Nat.ne_of_lt (Heap.lt_size e)) e
  show wpAny _ _ (assignInOrder [fun v => bindName X.env y v, fun v => bindName X.env x v] [u2, u1] >>= fun _ => pure Flow.next) _ _ _
  refine wpAny_bind (assignInOrder_cons (wpAny_bindName (store_ok I3 hN hj (.inl hy) rw' (fun s2 I4 => ?_) (.inr hy))))
  refine assignInOrder_cons (wpAny_bindName (store_ok I4 hN hi (.inl hx) rv (fun s3 I5 => assignInOrder_nil (wpAny_pure ?_)) (.inr hx)))
  rw [List.set_comm _ _ (Ne.symm hij)] at I5
  exact ⟨_, H1, I5, q1⟩
/-- name op= e -/
def tAug (i : Nat) (te : TE) (ti : TIp) : TS := fun D σ H => ∃ x, σ[i]? = some (some x) ∧ te σ H fun y H1 => ti x y H1 fun z H2 => D.nx (σ.set i (some z)) H2
theorem ps_aug {i : Nat} {x : Str} {e : Expr} {te : TE} {op : Operator} {ti : TIp} {pos' : Pos} (hN : X.N.Nodup) (hi : X.N[i]? = some x) (hx : Loc X.env.scope x) (he : PE X e te) (ho : PIp X op ti) (hf : X.fn x = true ∨ X.env.scope.names.lookup x = some .local := by first | exact .inl rfl | exact .inr rfl | assumption) :
    PS X (.AugAssign (.Name x pos') op e pos) (tAug i te ti) := by
  intro pins s σ H D I h
  obtain ⟨v, e1, h⟩ := h
  obtain ⟨m, hn, hl⟩ := I.loc
  have vis : Vis X.env.scope x := by rcases hx with k | k; exact .inl k; exact .inr (.inl k)
  obtain ⟨u, r, l⟩ := hl i x v hi e1 vis
  refine wpAny_AugAssign_Name ?_
  have go : wpAny (model X.prog X.w) X.A (eval e X.env) (fun w s₂ => wpAny (model X.prog X.w) X.A (inplaceOp op u w) (fun r s₃ => wpAny (model X.prog X.w) X.A (storeName X.env x r) (fun _ => SP X pins D .next) X.xe s₃) X.xe s₂) X.xe s := by
    refine thn (he pins s σ H _ I h) fun w s1 ⟨y, H1, I1, r1, q1⟩ => ?_
    refine thn (ho pins s1 σ H1 v y u w _ I1 r r1 q1) fun z s2 ⟨zv, H2, I2, r2, q2⟩ => ?_
    exact store_ok I2 hN hi hx r2 (fun s3 I3 => ⟨_, H2, I3, q2⟩) hf
  rcases l with ⟨hk, hm⟩ | ⟨hk, c, hc, hcell⟩
  · exact wpAny_loadName_local I.ok.kind hk hn hm go
  · rcases hk with hk | hk
    · exact wpAny_loadName_cell I.ok.kind hk hc hcell go
    · rcases hx with k | k
      · have : X.env.scope.names.lookup x = some .free := hk
        rw [k] at this; cases this
      · have : X.env.scope.names.lookup x = some .free := hk
        rw [k] at this; cases this
/-- o[i] op= e -/
def tAugS (to ti te : TE) (tget : V → V → Hp → VK → Prop) (tip : TIp) (tset : TSet) : TS := fun D σ H => to σ H fun o H1 => ti σ H1 fun i H2 => tget o i H2 fun x H3 => te σ H3 fun y H4 => tip x y H4 fun z H5 => tset o i z H5 fun H6 => D.nx σ H6
/-- o[i], by values -/
def PGet (X : Cx) (t : V → V → Hp → VK → Prop) : Prop :=
  ∀ (pins : List (Addr × Obj)) (s : Shared) (σ : St) (H : Hp) (o i : V) (ov iv : Value) (Q : VK), Inv X pins σ H s → RelV o ov → RelV i iv → t o i H Q →
    wpAny (model X.prog X.w) X.A (getItem ov iv) (EP X pins σ Q) X.xe s
theorem ps_augS {o i e : Expr} {to ti te : TE} {tget : V → V → Hp → VK → Prop} {tip : TIp} {tset : TSet} {op : Operator} {tpos : Pos} (ho : PE X o to) (hi : PE X i ti) (hg : PGet X tget) (he : PE X e te) (hp : PIp X op tip) (hs : PSet X tset)
    (ha : ∀ ov iv new, augStore i ov iv new = (do holding [new, ov, iv] (setItem ov iv new); release [new, ov, iv] []; pure .next) := by intros; rfl) : PS X (.AugAssign (.Subscript o i tpos) op e pos) (tAugS to ti te tget tip tset) := by
  intro pins s σ H D I h
  refine wpAny_AugAssign_SubscriptAny (thn (ho pins s σ H _ I h) fun ov s1 ⟨x1, H1, I1, r1, q1⟩ => ?_) ha
  refine thn (hi pins s1 σ H1 _ I1 q1) fun iv s2 ⟨x2, H2, I2, r2, q2⟩ => ?_
  refine thn (hg pins s2 σ H2 x1 x2 ov iv _ I2 r1 r2 q2) fun old s3 ⟨x3, H3, I3, r3, q3⟩ => ?_
  refine thn (he pins s3 σ H3 _ I3 q3) fun v s4 ⟨x4, H4, I4, r4, q4⟩ => ?_
  refine thn (hp pins s4 σ H4 x3 x4 old v _ I4 r3 r4 q4) fun new s5 ⟨x5, H5, I5, r5, q5⟩ => ?_
  exact thn (hs pins s5 σ H5 x1 x2 x5 ov iv new _ I5 r1 r2 r5 q5) fun _ s6 ⟨H6, I6, q6⟩ => ⟨σ, H6, I6, q6⟩
/-- ints -/
def ipI (f : Int → Int → Int) : TIp := fun x y H Q => ∃ i j, x = .int i ∧ y = .int j ∧ Q (.int (f i j)) H
theorem ip_add : PIp X .Add (ipI fun i j => i + j) := by
  intro pins s σ H x y v u Q I r1 r2 h
  obtain ⟨i, j, e1, e2, q⟩ := h
  subst e1; subst e2
  obtain ⟨t, rfl⟩ := r1
  obtain ⟨t', rfl⟩ := r2
  exact iadd_int ⟨.int _, H, I.tok _, ⟨_, rfl⟩, q⟩
theorem ip_sub : PIp X .Sub (ipI fun i j => i - j) := by
  intro pins s σ H x y v u Q I r1 r2 h
  obtain ⟨i, j, e1, e2, q⟩ := h
  subst e1; subst e2
  obtain ⟨t, rfl⟩ := r1
  obtain ⟨t', rfl⟩ := r2
  exact isub_int ⟨.int _, H, I.tok _, ⟨_, rfl⟩, q⟩
end

/-! ### while -/
section
variable {X : Cx} {pos : Pos}
/-- the invariant W with its measure -/
def tWhile (c : TT) (tb : TS) : TS := fun D σ H => ∃ W : Nat → St → Hp → Prop, (∃ m, W m σ H) ∧ ∀ m σ H, W m σ H →
  c σ H fun b H1 => if b = true then ∃ N : St → Hp → Prop, (∀ σ' H', N σ' H' → ∃ m', m' < m ∧ W m' σ' H') ∧ tb { D with nx := N, ct := N, bk := D.nx } σ H1 else D.nx σ H1
theorem ps_while {c : Expr} {body : List Stmt} {tc : TT} {tb : TS} (hp : PassesOwn (model X.prog X.w) X.A X.env X.xe) (hc : PT X c tc) (hb : PSs X body tb) : PS X (.While c body [] pos) (tWhile tc tb) := by
  intro pins s σ H D I h
  obtain ⟨W, ⟨m0, w0⟩, turn⟩ := h
  refine wpAny_While (codeAny_whileLoop (fun n s' => ∃ σ' H', Inv X pins σ' H' s' ∧ W n σ' H') ?_ m0 ⟨σ, H, I, w0⟩)
  rintro n s1 ⟨σ1, H1, I1, w1⟩
  refine wpAny_passesOwn hp (thn (hc pins s1 σ1 H1 _ I1 (turn n σ1 H1 w1)) fun b s2 ⟨H2, I2, q2⟩ => ?_)
  cases b with
  | true =>
    obtain ⟨N, hN, q2⟩ := q2
    rw [if_pos rfl]
    refine wpAny_passesOwn hp (thn (hb pins s2 σ1 H2 _ I2 q2) fun f s3 q3 => ?_)
    cases f with
    | next =>
      obtain ⟨σ3, H3, I3, n3⟩ := q3
      obtain ⟨m', hm, w3⟩ := hN σ3 H3 n3
      exact ⟨m', hm, σ3, H3, I3, w3⟩
    | cont =>
      obtain ⟨σ3, H3, I3, n3⟩ := q3
      obtain ⟨m', hm, w3⟩ := hN σ3 H3 n3
      exact ⟨m', hm, σ3, H3, I3, w3⟩
    | brk => exact q3
    | ret v => exact q3
  | false =>
    rw [if_neg Bool.false_ne_true]
    exact wpAny_execs_nil ⟨σ1, H2, I2, q2⟩
end

/-! ### what a loop or a comprehension walks -/
/-- at turn i: it yields x (the heap may grow), or it stops -/
structure It where
  go : Nat → Hp → Prop
  yld : Nat → Hp → V → Hp → Prop
  stop : Nat → Hp → Prop
/-- the iterator's own objects may turn: they are not the frame's, not pinned, younger than the entry (or a comprehension's own) -/
def FpOk (X : Cx) (pins : List (Addr × Obj)) (H : Hp) (b : Addr) : Prop :=
  H b = none ∧ b ≠ X.env.locals ∧ b ∉ X.fs ∧ (b ∈ X.ex ∨ X.s₀.heap.objs.size ≤ b) ∧ (∀ x c, X.env.cells.lookup x = some c → c ≠ b) ∧ ∀ p ∈ X.pn ++ pins, p.1 ≠ b
theorem Inv.fpOk {X : Cx} {pins : List (Addr × Obj)} {σ : St} {H H' : Hp} {s : Shared} {b : Addr} (I : Inv X pins σ H s) (hb : s.heap.objs.size ≤ b) (hn : H' b = none) : FpOk X pins H' b := by
  refine ⟨hn, Nat.ne_of_gt (Nat.lt_of_lt_of_le I.lt hb), I.nofs hb, .inr (Nat.le_trans I.sz hb), fun x c e z => ?_, fun p hp z => ?_⟩
  · obtain ⟨v, q⟩ := I.cell x c e
    exact absurd (Nat.lt_of_lt_of_le q.lt (by rw [z]; exact hb)) (Nat.lt_irrefl _)
  · exact absurd (Nat.lt_of_lt_of_le (Heap.lt_size (I.pin p hp).1) (by rw [z]; exact hb)) (Nat.lt_irrefl _)
structure Turn (P : Program) (w : World) (K : PySem.W.Frag) (tg : Expr) (J : It) (fp : List Addr) (it : Addr) (tn : Nat → Heap → Prop) : Prop where
  mem : it ∈ fp
  obj : ∀ i h, tn i h → ∀ b ∈ fp, ∃ o, h.get? b = some o ∧ ∀ v, o.data ≠ .cell v
  keep : ∀ i h h', tn i h → (∀ b ∈ fp, ∀ o, h.get? b = some o → h'.get? b = some o) → tn i h'
  item : ∀ (X : Cx), X.prog = P → X.w = w → X.K = K → X.calm = true → ∀ (i : Nat) (pins : List (Addr × Obj)) (s : Shared) (σ : St) (H : Hp) (E : Value → Shared → Prop), Inv X pins σ H s → (∀ b ∈ fp, FpOk X pins H b) → tn i s.heap → J.go i H →
    wpAny (model P w) X.A (pyNext (.ref it)) (fun r s1 => ∃ u, r = some u ∧
      wpAny (model P w) X.A (letOwnedTupleGo tg (.ref it) u) (fun _ s2 => ∃ x H', Inv X pins σ H' s2 ∧ RelV x u ∧ J.yld i H x H' ∧ tn (i + 1) s2.heap ∧ ∀ b ∈ fp, H' b = none) E s1) E s
  done : ∀ (X : Cx), X.prog = P → X.w = w → X.K = K → X.calm = true → ∀ (i : Nat) (pins : List (Addr × Obj)) (s : Shared) (σ : St) (H : Hp) (E : Value → Shared → Prop), Inv X pins σ H s → (∀ b ∈ fp, FpOk X pins H b) → tn i s.heap → J.stop i H →
    wpAny (model P w) X.A (pyNext (.ref it)) (fun r s1 => r = none ∧ Inv X pins σ H s1) E s
  self : ∀ (A : Around) (i : Nat) (s : Shared) (Q : Value → Shared → Prop) (E : Value → Shared → Prop), tn i s.heap → Q (.ref it) s → wpAny (model P w) A (pyIter (.ref it)) Q E s
abbrev TI := St → Hp → (It → Hp → Prop) → Prop
/-- an iterator has come -/
def PIE (X : Cx) (pins : List (Addr × Obj)) (σ : St) (tg : Expr) (R : It → Hp → Prop) (itv : Value) (s2 : Shared) : Prop :=
  ∃ (it : Addr) (fp : List Addr) (tn : Nat → Heap → Prop) (J : It) (H' : Hp), itv = .ref it ∧ Inv X pins σ H' s2 ∧ Turn X.prog X.w X.K tg J fp it tn ∧ tn 0 s2.heap ∧ (∀ b ∈ fp, FpOk X pins H' b) ∧ R J H'
def PI (X : Cx) (tg iter : Expr) (wi : TI) : Prop :=
  ∀ (pins : List (Addr × Obj)) (s : Shared) (σ : St) (H : Hp) (R : It → Hp → Prop), Inv X pins σ H s → wi σ H R →
    wpAny (model X.prog X.w) X.A (eval iter X.env) (fun v s1 => wpAny (model X.prog X.w) X.A (pyIter v) (PIE X pins σ tg R) X.xe s1) X.xe s

/-- the step ahead of the store is nothing for an iterator that keeps no tuple -/
theorem go_of {M : Model} {A : Around} {E : Value → Shared → Prop} {s : Shared} {tg : Expr} {it : Addr} {u : Value} {o : Obj} {n : String} {vs : Array Value} {Q : Unit → Shared → Prop} (ho : s.heap.get? it = some o) (hc : o.cls = .type n) (hd : o.data = .fields vs)
    (hn : ["enumerate", "zip", "dict_itemiterator", "dict_reverseitemiterator", "odict_iterator", "itertools.zip_longest", "itertools.pairwise"].contains n = false) (hQ : Q () s) : wpAny M A (letOwnedTupleGo tg (.ref it) u) Q E s := by
  unfold letOwnedTupleGo
  cases tg <;> first
    | exact wpAny_pure hQ
    | (cases u <;> first
        | exact wpAny_pure hQ
        | (refine wpAny_bind (wpAny_load ho ?_)
           rw [hc, hd]
           show wpAny M A (if (["enumerate", "zip", "dict_itemiterator", "dict_reverseitemiterator", "odict_iterator", "itertools.zip_longest", "itertools.pairwise"].contains n && vs[0]? == some (rawInt _)) = true then _ else _) Q E s
           rw [if_neg (by intro h; rw [hn, Bool.false_and] at h; cases h)]
           exact wpAny_pure hQ))

/-- the list at a, as it stands at each turn (a loop may append to it) -/
def Itl (K : PySem.W.Frag) (a : Addr) : It :=
  ⟨fun i H => ∃ xs x, SqL K H a xs ∧ xs[i]? = some x, fun i H x H' => H' = H ∧ ∀ xs, SqL K H a xs → xs[i]? = some x, fun i H => ∃ xs, SqL K H a xs ∧ xs.length ≤ i⟩
def Itt (K : PySem.W.Frag) (a : Addr) : It :=
  ⟨fun i H => ∃ xs x, SqT K H a xs ∧ xs[i]? = some x, fun i H x H' => H' = H ∧ ∀ xs, SqT K H a xs → xs[i]? = some x, fun i H => ∃ xs, SqT K H a xs ∧ xs.length ≤ i⟩
/-- lo, lo + 1, .. (n of them) -/
def Itr (lo : Int) (n : Nat) : It := ⟨fun i _ => i < n, fun i H x H' => H' = H ∧ x = .int (lo + i), fun i _ => n ≤ i⟩
theorem turn_list {P : Program} {w : World} {K : PySem.W.Frag} {tg : Expr} (a it : Addr) : Turn P w K tg (Itl K a) [it] it (fun i h => h.IsListIter it a i) where
  mem := by simp
  obj := fun i h st b hb => by
    have e : b = it := by simpa using hb
    subst e
    obtain ⟨o, e, c, d⟩ := st
    exact ⟨o, e, fun v z => by rw [d] at z; cases z⟩
  keep := fun i h h' st k => st.at fun o e => k it (by simp) o e
  item := by
    intro X hP hw hK hc i pins s σ H E I hf st hg
    subst hP hw hK
    obtain ⟨xs, x, hq, hx⟩ := hg
    obtain ⟨its, rv, p, hz⟩ := I.list hq
    obtain ⟨u, hu, ru⟩ := rv.get hx
    obtain ⟨f0, f1, f2, f3, f4, f5⟩ := hf it (by simp)
    refine wpAny_pyNext_list_item st p.isList (x := u) (by simpa using hu) fun h' st' sb => ?_
    have I1 : Inv X pins σ H { s with heap := h' } := I.turned (t' := s.toks) (fun b o hb e => (sb.2 b hb).trans e) f0 f1 f3 f4 f5
    obtain ⟨o, e, c, d⟩ := id st'
    exact ⟨u, rfl, go_of (s := { s with heap := h' }) e c d (by decide) ⟨x, H, I1, ru, ⟨rfl, fun ys hy => by rw [I.list_inj hy hq]; exact hx⟩, st', fun b hb => (hf b hb).1⟩⟩
  done := by
    intro X hP hw hK hc i pins s σ H E I hf st hg
    subst hP hw hK
    obtain ⟨xs, hq, hx⟩ := hg
    obtain ⟨its, rv, p, hz⟩ := I.list hq
    obtain ⟨f0, f1, f2, f3, f4, f5⟩ := hf it (by simp)
    have hl := rv.length
    exact wpAny_pyNext_list_end (I.ok.hd hc) st p.isList (by simp; omega) fun h' eb => ⟨rfl, I.turned (t' := s.toks) (fun b o hb e => eb b o hb e) f0 f1 f3 f4 f5⟩
  self := fun _ _ _ _ _ st h => wpAny_pyIter_listiter st h
theorem turn_tuple {P : Program} {w : World} {K : PySem.W.Frag} {tg : Expr} (a it : Addr) : Turn P w K tg (Itt K a) [it] it (fun i h => h.IsTupleIter it a i) where
  mem := by simp
  obj := fun i h st b hb => by
    have e : b = it := by simpa using hb
    subst e
    obtain ⟨o, e, c, d⟩ := st
    exact ⟨o, e, fun v z => by rw [d] at z; cases z⟩
  keep := fun i h h' st k => st.at fun o e => k it (by simp) o e
  item := by
    intro X hP hw hK hc i pins s σ H E I hf st hg
    subst hP hw hK
    obtain ⟨xs, x, hq, hx⟩ := hg
    obtain ⟨its, rv, p, hz⟩ := I.tuple hq
    obtain ⟨u, hu, ru⟩ := rv.get hx
    obtain ⟨f0, f1, f2, f3, f4, f5⟩ := hf it (by simp)
    refine wpAny_pyNext_tuple_item st (show s.heap.IsTuple a its.toArray from p) (x := u) (by simpa using hu) fun h' st' sb => ?_
    have I1 : Inv X pins σ H { s with heap := h' } := I.turned (t' := s.toks) (fun b o hb e => (sb.2 b hb).trans e) f0 f1 f3 f4 f5
    obtain ⟨o, e, c, d⟩ := id st'
    exact ⟨u, rfl, go_of (s := { s with heap := h' }) e c d (by decide) ⟨x, H, I1, ru, ⟨rfl, fun ys hy => by rw [I.tuple_inj hy hq]; exact hx⟩, st', fun b hb => (hf b hb).1⟩⟩
  done := by
    intro X hP hw hK hc i pins s σ H E I hf st hg
    subst hP hw hK
    obtain ⟨xs, hq, hx⟩ := hg
    obtain ⟨its, rv, p, hz⟩ := I.tuple hq
    obtain ⟨f0, f1, f2, f3, f4, f5⟩ := hf it (by simp)
    have hl := rv.length
    exact wpAny_pyNext_tuple_end (I.ok.hd hc) st (show s.heap.IsTuple a its.toArray from p) (by simp; omega) fun h' eb => ⟨rfl, I.turned (t' := s.toks) (fun b o hb e => eb b o hb e) f0 f1 f3 f4 f5⟩
  self := fun _ _ _ _ _ st h => wpAny_pyIter_tupleiter st h
theorem turn_range {P : Program} {w : World} {K : PySem.W.Frag} {tg : Expr} (it : Addr) (lo : Int) (n : Nat) : Turn P w K tg (Itr lo n) [it] it (fun i h => IsRangeIter h it (lo + (i : Nat) * 1) ((n : Int) - (i : Nat)) 1) where
  mem := by simp
  obj := fun i h st b hb => by
    have e : b = it := by simpa using hb
    subst e
    exact ⟨_, st, fun v z => by
      have z' : Data.fields _ = Data.cell v := z
      cases z'⟩
  keep := fun i h h' st k => k it (by simp) _ st
  item := by
    intro X hP hw hK hc i pins s σ H E I hf st hg
    subst hP hw hK
    obtain ⟨f0, f1, f2, f3, f4, f5⟩ := hf it (by simp)
    have W := Walks.range (prog := X.prog) (w := X.w) (I.ok.hd hc) it lo 1 n
    refine W.item i s _ _ hg st fun v h' tk hv st' kk => ?_
    obtain ⟨t, rfl⟩ := hv
    have I1 : Inv X pins σ H { s with heap := h', toks := tk } := I.turned (fun b o hb e => kk b o (by simpa using hb) e) f0 f1 f3 f4 f5
    refine ⟨_, rfl, go_of (s := { s with heap := h', toks := tk }) (n := "range_iterator") st' rfl rfl (by decide) ⟨.int (lo + i), H, I1, ⟨t, ?_⟩, ⟨rfl, rfl⟩, st', fun b hb => (hf b hb).1⟩⟩
    rw [Int.mul_one]
  done := by
    intro X hP hw hK hc i pins s σ H E I hf st hg
    subst hP hw hK
    obtain ⟨f0, f1, f2, f3, f4, f5⟩ := hf it (by simp)
    exact wpAny_pyNext_range_end (I.ok.hd hc) st (by have : n ≤ i := hg; omega) fun h' eb => ⟨rfl, I.turned (t' := s.toks) (fun b o hb e => eb b o hb e) f0 f1 f3 f4 f5⟩
  self := fun _ _ _ _ _ st h => wpAny_pyIter_rangeiter st h
end L2

namespace L2
open PySem PySem.Spec PyProof.Rows
section
variable {X : Cx} {tg : Expr}
def iList (K : PySem.W.Frag) (tl : TE) : TI := fun σ H R => tl σ H fun x H1 => ∃ a, x = .ref a ∧ (∃ xs, SqL K H1 a xs) ∧ R (Itl K a) H1
def iTup (K : PySem.W.Frag) (tl : TE) : TI := fun σ H R => tl σ H fun x H1 => ∃ a, x = .ref a ∧ (∃ xs, SqT K H1 a xs) ∧ R (Itt K a) H1
theorem pi_list {l : Expr} {tl : TE} (hl : PE X l tl) : PI X tg l (iList X.K tl) := by
  intro pins s σ H R I h
  refine thn (hl pins s σ H _ I h) fun v s1 ⟨x, H1, I1, r1, q1⟩ => ?_
  obtain ⟨a, e, ⟨xs, hq⟩, q⟩ := q1
  subst e
  cases r1
  obtain ⟨its, rv, p, hz⟩ := I1.list hq
  refine wpAny_pyIter_list p.isList ?_
  refine ⟨s1.heap.objs.size, [s1.heap.objs.size], _, _, H1, rfl, I1.kept (t' := s1.toks) fun b o e => Heap.get?_push_of_some _ e, turn_list a _, ⟨_, Heap.get?_push_size _ rfl, rfl, rfl⟩, fun b hb => ?_, q⟩
  have e : b = s1.heap.objs.size := by simpa using hb
  subst e
  exact I1.fpOk (Nat.le_refl _) (I1.hok.fresh (Nat.le_refl _))
theorem pi_tup {l : Expr} {tl : TE} (hl : PE X l tl) : PI X tg l (iTup X.K tl) := by
  intro pins s σ H R I h
  refine thn (hl pins s σ H _ I h) fun v s1 ⟨x, H1, I1, r1, q1⟩ => ?_
  obtain ⟨a, e, ⟨xs, hq⟩, q⟩ := q1
  subst e
  cases r1
  obtain ⟨its, rv, p, hz⟩ := I1.tuple hq
  refine wpAny_pyIter_tuple (show s1.heap.IsTuple a its.toArray from p) ?_
  refine ⟨s1.heap.objs.size, [s1.heap.objs.size], _, _, H1, rfl, I1.kept (t' := s1.toks) fun b o e => Heap.get?_push_of_some _ e, turn_tuple a _, ⟨_, Heap.get?_push_size _ rfl, rfl, rfl⟩, fun b hb => ?_, q⟩
  have e : b = s1.heap.objs.size := by simpa using hb
  subst e
  exact I1.fpOk (Nat.le_refl _) (I1.hok.fresh (Nat.le_refl _))
/-- a range object just made, walked -/
theorem range_it {pins : List (Addr × Obj)} {σ : St} {H : Hp} {s : Shared} {R : It → Hp → Prop} {E : Value → Shared → Prop} {lo hi : Int} {t u v : Tok} {tk : Nat} (I : Inv X pins σ H s) (h1 : -(2 ^ 62) ≤ lo) (h2 : lo < 2 ^ 62) (h3 : -(2 ^ 62) ≤ hi) (h4 : hi < 2 ^ 62)
    (q : R (Itr lo (hi - lo).toNat) H) : wpAny (model X.prog X.w) X.A (pyIter (.ref s.heap.objs.size)) (PIE X pins σ tg R) E { s with heap := s.heap.push { cls := .type "range", data := .fields #[.int lo t, .int hi u, .int 1 v] }, toks := tk } := by
  refine wpAny_pyIter_range (IsRange.new ..) (small_one h1 h2 h3 h4) ?_
  have I1 : Inv X pins σ H { s with heap := s.heap.push { cls := .type "range", data := .fields #[.int lo t, .int hi u, .int 1 v] }, toks := tk } := I.kept fun b o e => Heap.get?_push_of_some _ e
  refine ⟨(s.heap.push { cls := .type "range", data := .fields #[.int lo t, .int hi u, .int 1 v] }).objs.size, [(s.heap.push { cls := .type "range", data := .fields #[.int lo t, .int hi u, .int 1 v] }).objs.size], _, _, H, rfl,
    I1.kept (t' := tk) fun b o e => Heap.get?_push_of_some _ e, turn_range _ lo (hi - lo).toNat, ?_, fun b hb => ?_, q⟩
  · have e1 : lo + ((0 : Nat) : Int) * 1 = lo := by simp
    have e2 : (((hi - lo).toNat : Nat) : Int) - ((0 : Nat) : Int) = Builtin.Range.rangeSize lo hi 1 := by rw [rangeSize_one]; split <;> omega
    show IsRangeIter _ _ (lo + ((0 : Nat) : Int) * 1) ((((hi - lo).toNat : Nat) : Int) - ((0 : Nat) : Int)) 1
    rw [e1, e2]
    exact Heap.get?_push_size _ rfl
  · have e : b = (s.heap.push { cls := .type "range", data := .fields #[.int lo t, .int hi u, .int 1 v] }).objs.size := by simpa using hb
    subst e
    exact I1.fpOk (Nat.le_refl _) (I1.hok.fresh (Nat.le_refl _))
def iRng1 (ta : TA) : TI := fun σ H R => ta σ H fun vs H1 => ∃ j : Int, vs = [.int j] ∧ -(2 ^ 62) ≤ j ∧ j < 2 ^ 62 ∧ R (Itr 0 j.toNat) H1
def iRng2 (ta : TA) : TI := fun σ H R => ta σ H fun vs H1 => ∃ i j : Int, vs = [.int i, .int j] ∧ (-(2 ^ 62) ≤ i ∧ i < 2 ^ 62 ∧ -(2 ^ 62) ≤ j ∧ j < 2 ^ 62) ∧ R (Itr i (j - i).toNat) H1
theorem pi_range1 {a : Expr} {ta : TA} {p pos : Pos} (hg : Gl X "range") (hm : X.mg "range" = none) (ha : PA X [a] ta) (hs : starEach [a] X.env = [(false, eval a X.env)] := by rfl) : PI X tg (.Call (.Name "range" p) [a] [] pos) (iRng1 ta) := by
  intro pins s σ H R I h
  refine Call_ (ld_blt I hg hm boot_range (PyProof.Rows.callWith_type1 (thn (ha pos pins s σ H _ I h) fun us s1 ⟨vs, H1, I1, r1, q1⟩ => ?_) hs rfl))
  obtain ⟨j, e, q1, q2, q⟩ := q1
  subst e
  cases r1 with
  | cons r rr =>
    cases rr
    obtain ⟨t, rfl⟩ := r
    exact call_range_1 (range_it I1 (by omega) (by omega) q1 q2 (by simpa using q))
theorem pi_range2 {a b : Expr} {ta : TA} {p pos : Pos} (hg : Gl X "range") (hm : X.mg "range" = none) (ha : PA X [a, b] ta) (hs : starEach [a, b] X.env = [(false, eval a X.env), (false, eval b X.env)] := by rfl) (hs2 : starEach [b] X.env = [(false, eval b X.env)] := by rfl) :
    PI X tg (.Call (.Name "range" p) [a, b] [] pos) (iRng2 ta) := by
  intro pins s σ H R I h
  refine Call_ (ld_blt I hg hm boot_range (PyProof.Rows.callWith_type1 (thn (ha pos pins s σ H _ I h) fun us s1 ⟨vs, H1, I1, r1, q1⟩ => ?_) (by rw [hs, hs2]) (by rw [hs2]; rfl)))
  obtain ⟨i, j, e, ⟨q1, q2, q3, q4⟩, q⟩ := q1
  subst e
  cases r1 with
  | cons r rr =>
    cases rr with
    | cons r' rr =>
      cases rr
      obtain ⟨t, rfl⟩ := r
      obtain ⟨t', rfl⟩ := r'
      exact call_range_2 (range_it I1 q1 q2 q3 q4 q)

/-! ### for -/
/-- W: the invariant by the turn and a measure; N: what the body is to reach -/
def tFor (wi : TI) (g : TG) (tb : TS) : TS := fun D σ H => wi σ H fun J H1 => ∃ W : Nat → Nat → St → Hp → Prop, (∃ m, W 0 m σ H1) ∧ ∀ i m σ H, W i m σ H →
  (J.stop i H ∧ D.nx σ H) ∨ (J.go i H ∧ ∃ N : St → Hp → Prop, (∀ σ' H', N σ' H' → ∃ m', m' < m ∧ W (i + 1) m' σ' H') ∧ ∀ x H', J.yld i H x H' → g x σ H' fun σ2 H2 => tb { D with nx := N, ct := N, bk := D.nx } σ2 H2)
/-- the records at fp as they stand -/
def pinsAt (fp : List Addr) (h : Heap) : List (Addr × Obj) := fp.filterMap fun b => (h.get? b).map fun o => (b, o)
theorem mem_pinsAt {fp : List Addr} {h : Heap} {b : Addr} {o : Obj} (hb : b ∈ fp) (e : h.get? b = some o) : (b, o) ∈ pinsAt fp h := List.mem_filterMap.mpr ⟨b, hb, by rw [e]; rfl⟩
theorem of_pinsAt {fp : List Addr} {h : Heap} {p : Addr × Obj} (hp : p ∈ pinsAt fp h) : p.1 ∈ fp ∧ h.get? p.1 = some p.2 := by
  obtain ⟨b, hb, e⟩ := List.mem_filterMap.mp hp
  cases q : h.get? b with
  | none => rw [q] at e; cases e
  | some o =>
    rw [q] at e
    have e' : (b, o) = p := Option.some.inj e
    subst e'
    exact ⟨hb, q⟩
theorem Inv.pinned {pins : List (Addr × Obj)} {σ : St} {H : Hp} {s : Shared} {fp : List Addr} (I : Inv X pins σ H s) (hf : ∀ b ∈ fp, FpOk X pins H b) (ho : ∀ b ∈ fp, ∃ o, s.heap.get? b = some o ∧ ∀ v, o.data ≠ .cell v) : Inv X (pins ++ pinsAt fp s.heap) σ H s :=
  I.pins_of fun p hp => (List.mem_append.mp hp).elim (fun z => I.pin p (List.mem_append_right _ z)) fun z => by
    obtain ⟨hb, e⟩ := of_pinsAt z
    obtain ⟨f0, f1, f2, _⟩ := hf p.1 hb
    obtain ⟨o, e', d⟩ := ho p.1 hb
    rw [e] at e'; cases e'
    exact ⟨e, f0, f1, f2, d⟩
theorem Inv.unpinned {pins pl : List (Addr × Obj)} {σ : St} {H : Hp} {s : Shared} (I : Inv X (pins ++ pl) σ H s) : Inv X pins σ H s := I.pins_of fun p hp => I.pin p (List.mem_append_right _ (List.mem_append_left _ hp))
theorem ps_for {iter : Expr} {body : List Stmt} {wi : TI} {g : TG} {tb : TS} {pos : Pos} (hp : PassesOwn (model X.prog X.w) X.A X.env X.xe) (hc : X.calm = true) (hi : PI X tg iter wi) (hg : PG X tg g) (hb : PSs X body tb)
    (hs : ∀ x, foldedSetIterable iter X.env x = pure x := by intro _; rfl) : PS X (.For tg iter body [] pos) (tFor wi g tb) := by
  intro pins s σ H D I h
  refine wpAny_For (thn (hi pins s σ H _ I h) fun v s1 h1 => thn h1 fun itv s2 h2 => ?_) hs
  obtain ⟨it, fp, tn, J, H2, e, I2, T, st2, f2, W, ⟨m0, w0⟩, turn⟩ := h2
  subst e
  -- what stays true of the iterator's objects through the loop
  have stat : ∀ {H' : Hp}, (∀ b ∈ fp, H' b = none) → ∀ b ∈ fp, FpOk X pins H' b := fun hn b hb => ⟨hn b hb, (f2 b hb).2⟩
  refine codeAny_forLoop_any (fun n s' => ∃ i σ' H', Inv X pins σ' H' s' ∧ tn i s'.heap ∧ (∀ b ∈ fp, H' b = none) ∧ W i n σ' H') ?_ m0 ⟨0, σ, H2, I2, st2, fun b hb => (f2 b hb).1, w0⟩
  rintro n s3 ⟨i, σ3, H3, I3, st3, fr3, w3⟩
  rcases turn i n σ3 H3 w3 with ⟨stop, qn⟩ | ⟨go, N, hN, step⟩
  · refine wpAny_passesOwn hp (thn (T.done X rfl rfl rfl hc i pins s3 σ3 H3 X.xe I3 (stat fr3) st3 stop) fun r s4 ⟨hr, I4⟩ => ?_)
    subst hr
    exact wpAny_execs_nil ⟨σ3, H3, I4, qn⟩
  · refine wpAny_passesOwn hp (thn (T.item X rfl rfl rfl hc i pins s3 σ3 H3 X.xe I3 (stat fr3) st3 go) fun r s4 ⟨u, hr, h4⟩ => ?_)
    subst hr
    refine wpAny_passesOwn hp (thn h4 fun _ s5 ⟨x, H5, I5, r5, y5, st5, fr5⟩ => ?_)
    have I5' := I5.pinned (stat fr5) (T.obj _ _ st5)
    refine wpAny_passesOwn hp (thn (hg _ s5 σ3 H5 x u _ I5' r5 (step x H5 y5)) fun _ s6 ⟨σ6, H6, I6, q6⟩ => ?_)
    refine wpAny_passesOwn hp (thn (hb _ s6 σ6 H6 _ I6 q6) fun f s7 q7 => ?_)
    have again : ∀ {σ7 : St} {H7 : Hp}, Inv X (pins ++ pinsAt fp s5.heap) σ7 H7 s7 → N σ7 H7 → ∃ m, m < n ∧ ∃ i σ' H', Inv X pins σ' H' s7 ∧ tn i s7.heap ∧ (∀ b ∈ fp, H' b = none) ∧ W i m σ' H' := fun {σ7 H7} I7 n7 => by
      obtain ⟨m', hm, w7⟩ := hN σ7 H7 n7
      refine ⟨m', hm, i + 1, σ7, H7, I7.unpinned, T.keep _ _ _ st5 fun b hb o e => (I7.pin (b, o) (List.mem_append_right _ (List.mem_append_right _ (mem_pinsAt hb e)))).1, fun b hb => ?_, w7⟩
      obtain ⟨o, e, d⟩ := T.obj _ _ st5 b hb
      exact (I7.pin (b, o) (List.mem_append_right _ (List.mem_append_right _ (mem_pinsAt hb e)))).2.1
    cases f with
    | next => obtain ⟨σ7, H7, I7, n7⟩ := q7; exact again I7 n7
    | cont => obtain ⟨σ7, H7, I7, n7⟩ := q7; exact again I7 n7
    | brk => obtain ⟨σ7, H7, I7, q7⟩ := q7; exact ⟨σ7, H7, I7.unpinned, q7⟩
    | ret v => obtain ⟨x7, σ7, H7, I7, r7, q7⟩ := q7; exact ⟨x7, σ7, H7, I7.unpinned, r7, q7⟩
end

/-! ### the forms one uses -/
/-- over a list that the body leaves as it is -/
theorem for_list {K : PySem.W.Frag} {a : Addr} {xs : List V} {g : TG} {tb : TS} {D : Ends} {σ : St} {H : Hp} (Pv : Nat → St → Hp → Prop) (h0 : Pv 0 σ H) (hl : ∀ i σ H, i ≤ xs.length → Pv i σ H → SqL K H a xs)
    (hs : ∀ i x σ H, xs[i]? = some x → Pv i σ H → g x σ H fun σ2 H2 => tb { D with nx := Pv (i + 1), ct := Pv (i + 1), bk := D.nx } σ2 H2) (hd : ∀ σ H, Pv xs.length σ H → D.nx σ H) :
    ∃ W : Nat → Nat → St → Hp → Prop, (∃ m, W 0 m σ H) ∧ ∀ i m σ H, W i m σ H →
      ((Itl K a).stop i H ∧ D.nx σ H) ∨ ((Itl K a).go i H ∧ ∃ N : St → Hp → Prop, (∀ σ' H', N σ' H' → ∃ m', m' < m ∧ W (i + 1) m' σ' H') ∧ ∀ x H', (Itl K a).yld i H x H' → g x σ H' fun σ2 H2 => tb { D with nx := N, ct := N, bk := D.nx } σ2 H2) := by
  refine ⟨fun i m σ H => m = xs.length - i ∧ i ≤ xs.length ∧ Pv i σ H, ⟨xs.length, by simp, Nat.zero_le _, h0⟩, ?_⟩
  rintro i m σ H ⟨rfl, hi, p⟩
  have q := hl i σ H hi p
  by_cases hlt : i < xs.length
  · refine .inr ⟨⟨xs, xs[i], q, by simp [hlt]⟩, Pv (i + 1), fun σ' H' p' => ⟨xs.length - (i + 1), by omega, rfl, hlt, p'⟩, fun x H' y => ?_⟩
    obtain ⟨e, y⟩ := y
    subst e
    exact hs i x σ _ (y xs q) p
  · have e : i = xs.length := by omega
    subst e
    exact .inl ⟨⟨xs, q, Nat.le_refl _⟩, hd σ H p⟩
theorem for_tup {K : PySem.W.Frag} {a : Addr} {xs : List V} {g : TG} {tb : TS} {D : Ends} {σ : St} {H : Hp} (Pv : Nat → St → Hp → Prop) (h0 : Pv 0 σ H) (hl : ∀ i σ H, i ≤ xs.length → Pv i σ H → SqT K H a xs)
    (hs : ∀ i x σ H, xs[i]? = some x → Pv i σ H → g x σ H fun σ2 H2 => tb { D with nx := Pv (i + 1), ct := Pv (i + 1), bk := D.nx } σ2 H2) (hd : ∀ σ H, Pv xs.length σ H → D.nx σ H) :
    ∃ W : Nat → Nat → St → Hp → Prop, (∃ m, W 0 m σ H) ∧ ∀ i m σ H, W i m σ H →
      ((Itt K a).stop i H ∧ D.nx σ H) ∨ ((Itt K a).go i H ∧ ∃ N : St → Hp → Prop, (∀ σ' H', N σ' H' → ∃ m', m' < m ∧ W (i + 1) m' σ' H') ∧ ∀ x H', (Itt K a).yld i H x H' → g x σ H' fun σ2 H2 => tb { D with nx := N, ct := N, bk := D.nx } σ2 H2) := by
  refine ⟨fun i m σ H => m = xs.length - i ∧ i ≤ xs.length ∧ Pv i σ H, ⟨xs.length, by simp, Nat.zero_le _, h0⟩, ?_⟩
  rintro i m σ H ⟨rfl, hi, p⟩
  have q := hl i σ H hi p
  by_cases hlt : i < xs.length
  · refine .inr ⟨⟨xs, xs[i], q, by simp [hlt]⟩, Pv (i + 1), fun σ' H' p' => ⟨xs.length - (i + 1), by omega, rfl, hlt, p'⟩, fun x H' y => ?_⟩
    obtain ⟨e, y⟩ := y
    subst e
    exact hs i x σ _ (y xs q) p
  · have e : i = xs.length := by omega
    subst e
    exact .inl ⟨⟨xs, q, Nat.le_refl _⟩, hd σ H p⟩
theorem for_range {lo : Int} {n : Nat} {g : TG} {tb : TS} {D : Ends} {σ : St} {H : Hp} (Pv : Nat → St → Hp → Prop) (h0 : Pv 0 σ H)
    (hs : ∀ i σ H, i < n → Pv i σ H → g (.int (lo + i)) σ H fun σ2 H2 => tb { D with nx := Pv (i + 1), ct := Pv (i + 1), bk := D.nx } σ2 H2) (hd : ∀ σ H, Pv n σ H → D.nx σ H) :
    ∃ W : Nat → Nat → St → Hp → Prop, (∃ m, W 0 m σ H) ∧ ∀ i m σ H, W i m σ H →
      ((Itr lo n).stop i H ∧ D.nx σ H) ∨ ((Itr lo n).go i H ∧ ∃ N : St → Hp → Prop, (∀ σ' H', N σ' H' → ∃ m', m' < m ∧ W (i + 1) m' σ' H') ∧ ∀ x H', (Itr lo n).yld i H x H' → g x σ H' fun σ2 H2 => tb { D with nx := N, ct := N, bk := D.nx } σ2 H2) := by
  refine ⟨fun i m σ H => m = n - i ∧ i ≤ n ∧ Pv i σ H, ⟨n, by simp, Nat.zero_le _, h0⟩, ?_⟩
  rintro i m σ H ⟨rfl, hi, p⟩
  by_cases hlt : i < n
  · refine .inr ⟨hlt, Pv (i + 1), fun σ' H' p' => ⟨n - (i + 1), by omega, rfl, hlt, p'⟩, fun x H' y => ?_⟩
    obtain ⟨e, y⟩ := y
    subst e y
    exact hs i σ _ hlt p
  · have e : i = n := by omega
    subst e
    exact .inl ⟨Nat.le_refl _, hd σ H p⟩
/-- while, by a word and a measure of the state -/
theorem while_by {c : TT} {tb : TS} {D : Ends} {σ : St} {H : Hp} (Pv : St → Hp → Prop) (μ : St → Hp → Nat) (h0 : Pv σ H)
    (hs : ∀ σ H, Pv σ H → c σ H fun b H1 => if b = true then tb { D with nx := fun σ' H' => Pv σ' H' ∧ μ σ' H' < μ σ H, ct := fun σ' H' => Pv σ' H' ∧ μ σ' H' < μ σ H, bk := D.nx } σ H1 else D.nx σ H1)
    (mono : ∀ σ H Q Q', (∀ b H1, Q b H1 → Q' b H1) → c σ H Q → c σ H Q') : tWhile c tb D σ H := by
  refine ⟨fun m σ H => m = μ σ H ∧ Pv σ H, ⟨_, rfl, h0⟩, ?_⟩
  rintro m σ H ⟨rfl, p⟩
  refine mono σ H _ _ (fun b H1 q => ?_) (hs σ H p)
  cases b with
  | true => exact ⟨_, fun σ' H' ⟨p', l⟩ => ⟨_, l, rfl, p'⟩, q⟩
  | false => exact q
end L2

namespace L2
open PySem PySem.Spec PyProof.Rows

abbrev R2 := V → V → Hp → VK → Prop
/-- a two-place operation on values: f is binaryOp op, inplaceOp op or compareOp op -/
def OpR (X : Cx) (f : Value → Value → Sem Value) (r : R2) : Prop :=
  ∀ (pins : List (Addr × Obj)) (s : Shared) (σ : St) (H : Hp) (x y : V) (v u : Value) (Q : VK), Inv X pins σ H s → RelV x v → RelV y u → r x y H Q →
    wpAny (model X.prog X.w) X.A (f v u) (EP X pins σ Q) X.xe s
/-- a one-place operation -/
def UnR (X : Cx) (f : Value → Sem Value) (r : V → Hp → VK → Prop) : Prop :=
  ∀ (pins : List (Addr × Obj)) (s : Shared) (σ : St) (H : Hp) (x : V) (v : Value) (Q : VK), Inv X pins σ H s → RelV x v → r x H Q →
    wpAny (model X.prog X.w) X.A (f v) (EP X pins σ Q) X.xe s
/-- a call of a value that is known (a builtin, a type) with values -/
def CallR (X : Cx) (f : Value) (r : List V → Hp → VK → Prop) : Prop :=
  ∀ (pins : List (Addr × Obj)) (s : Shared) (σ : St) (H : Hp) (xs : List V) (us : List Value) (Q : VK), Inv X pins σ H s → Vals xs us → r xs H Q →
    wpAny (model X.prog X.w) X.A (call f us) (EP X pins σ Q) X.xe s
/-- a value's truth -/
def TruR (X : Cx) (r : V → Hp → (Bool → Hp → Prop) → Prop) : Prop :=
  ∀ (pins : List (Addr × Obj)) (s : Shared) (σ : St) (H : Hp) (x : V) (v : Value) (Q : Bool → Hp → Prop), Inv X pins σ H s → RelV x v → r x H Q →
    wpAny (model X.prog X.w) X.A (truthy v) (TP X pins σ Q) X.xe s

def tOp (r : R2) (ta tb : TE) : TE := fun σ H Q => ta σ H fun x H1 => tb σ H1 fun y H2 => r x y H2 Q
def tUn (r : V → Hp → VK → Prop) (ta : TE) : TE := fun σ H Q => ta σ H fun x H1 => r x H1 Q
/-- ints in, under C, and a value out -/
def rI (C : Int → Int → Prop) (g : Int → Int → V) : R2 := fun x y H Q => ∃ i j, x = .int i ∧ y = .int j ∧ C i j ∧ Q (g i j) H
def rI0 (g : Int → Int → V) : R2 := fun x y H Q => ∃ i j, x = .int i ∧ y = .int j ∧ Q (g i j) H
def rU (g : Int → V) : V → Hp → VK → Prop := fun x H Q => ∃ i, x = .int i ∧ Q (g i) H

section
variable {X : Cx} {a b c : Expr} {ta tb tc : TE} {pos : Pos}

theorem binT (ha : PE X a ta) (hb : PE X b tb) {pins : List (Addr × Obj)} {s : Shared} {σ : St} {H : Hp} {R : V → V → Hp → Prop} (I : Inv X pins σ H s)
    (h : ta σ H fun x H1 => tb σ H1 fun y H2 => R x y H2) {Q : Value → Shared → Prop} {f : Value → Value → Sem Value}
    (hf : ∀ v u s2 x y H2, Inv X pins σ H2 s2 → RelV x v → RelV y u → R x y H2 → wpAny (model X.prog X.w) X.A (f v u) Q X.xe s2) :
    wpAny (model X.prog X.w) X.A (eval a X.env) (fun v s₁ => wpAny (model X.prog X.w) X.A (eval b X.env) (fun u s₂ => wpAny (model X.prog X.w) X.A (f v u) Q X.xe s₂) X.xe s₁) X.xe s := by
  refine thn (ha pins s σ H _ I h) fun v s1 ⟨x, H1, I1, r1, q1⟩ => ?_
  refine thn (hb pins s1 σ H1 _ I1 q1) fun u s2 ⟨y, H2, I2, r2, q2⟩ => ?_
  exact hf v u s2 x y H2 I2 r1 r2 q2

theorem pe_op {op : Operator} {r : R2} (ho : OpR X (binaryOp op) r) (ha : PE X a ta) (hb : PE X b tb) : PE X (.BinOp a op b pos) (tOp r ta tb) := by
  intro pins s σ H Q I h
  exact wpAny_BinOp (binT ha hb I h fun v u s2 x y H2 I2 rx ry q => ho pins s2 σ H2 x y v u Q I2 rx ry q)
theorem pe_un {op : UnaryOp} {r : V → Hp → VK → Prop} (ho : UnR X (unaryOp op) r) (ha : PE X a ta) : PE X (.UnaryOp op a pos) (tUn r ta) := by
  intro pins s σ H Q I h
  exact UnaryOp_ (thn (ha pins s σ H _ I h) fun v s1 ⟨x, H1, I1, r1, q1⟩ => ho pins s1 σ H1 x v Q I1 r1 q1)
/-- a op= e at a name: the name's slot i -/
theorem augR {op : Operator} {r : R2} (ho : OpR X (inplaceOp op) r) {pins : List (Addr × Obj)} {s : Shared} {σ : St} {H : Hp} {x y : V} {v u : Value} {Q : VK} (I : Inv X pins σ H s)
    (rx : RelV x v) (ry : RelV y u) (q : r x y H Q) : wpAny (model X.prog X.w) X.A (inplaceOp op v u) (EP X pins σ Q) X.xe s := ho pins s σ H x y v u Q I rx ry q

/-! ### ints -/
theorem opI {f : Value → Value → Sem Value} {C : Int → Int → Prop} {g : Int → Int → Int}
    (rule : ∀ (i j : Int) (t u : Tok) (s : Shared) (Q : Value → Shared → Prop) (E : Value → Shared → Prop), C i j → Q (.int (g i j) s.toks) { s with toks := s.toks + 1 } → wpAny (model X.prog X.w) X.A (f (.int i t) (.int j u)) Q E s) :
    OpR X f (rI C fun i j => .int (g i j)) := by
  intro pins s σ H x y v u Q I rx ry h
  obtain ⟨i, j, rfl, rfl, hc, q⟩ := h
  obtain ⟨t, rfl⟩ := rx
  obtain ⟨t', rfl⟩ := ry
  exact rule i j t t' s _ _ hc ⟨.int (g i j), H, I.tok _, ⟨_, rfl⟩, q⟩
theorem opI0 {f : Value → Value → Sem Value} {g : Int → Int → Int}
    (rule : ∀ (i j : Int) (t u : Tok) (s : Shared) (Q : Value → Shared → Prop) (E : Value → Shared → Prop), Q (.int (g i j) s.toks) { s with toks := s.toks + 1 } → wpAny (model X.prog X.w) X.A (f (.int i t) (.int j u)) Q E s) :
    OpR X f (rI0 fun i j => .int (g i j)) := by
  intro pins s σ H x y v u Q I rx ry h
  obtain ⟨i, j, rfl, rfl, q⟩ := h
  obtain ⟨t, rfl⟩ := rx
  obtain ⟨t', rfl⟩ := ry
  exact rule i j t t' s _ _ ⟨.int (g i j), H, I.tok _, ⟨_, rfl⟩, q⟩
theorem opB0 {f : Value → Value → Sem Value} {g : Int → Int → Bool}
    (rule : ∀ (i j : Int) (t u : Tok) (s : Shared) (Q : Value → Shared → Prop) (E : Value → Shared → Prop), Q (.bool (g i j)) s → wpAny (model X.prog X.w) X.A (f (.int i t) (.int j u)) Q E s) :
    OpR X f (rI0 fun i j => .bl (g i j)) := by
  intro pins s σ H x y v u Q I rx ry h
  obtain ⟨i, j, rfl, rfl, q⟩ := h
  obtain ⟨t, rfl⟩ := rx
  obtain ⟨t', rfl⟩ := ry
  exact rule i j t t' s _ _ ⟨.bl (g i j), H, I, rfl, q⟩

def CDiv (i j : Int) : Prop := 0 < j ∧ j < 1073741824
def CDivN (i j : Int) : Prop := j ≠ 0 ∧ j.natAbs < 1073741824
def CPow (i j : Int) : Prop := 0 ≤ j ∧ j ≤ 1000000 ∧ i.natAbs < 2 ^ 64
def CMul (i j : Int) : Prop := (-(2 ^ 64) < i ∧ i < 2 ^ 64) ∨ (-(2 ^ 64) < j ∧ j < 2 ^ 64)
theorem CMul.ok {i j : Int} (h : CMul i j) : IntMulOk i j := by
  rcases h with ⟨h1, h2⟩ | ⟨h1, h2⟩
  · exact .of_left (intBits_le_64 h1 h2)
  · exact .of_right (intBits_le_64 h1 h2)
theorem two_pow_nn (k : Nat) : (0 : Int) ≤ 2 ^ k := by
  rw [two_pow_cast]
  exact Int.natCast_nonneg _

theorem op_add : OpR X (binaryOp .Add) (rI0 fun i j => .int (i + j)) := opI0 fun _ _ _ _ _ _ _ q => add_int q
theorem op_sub : OpR X (binaryOp .Sub) (rI0 fun i j => .int (i - j)) := opI0 fun _ _ _ _ _ _ _ q => sub_int q
theorem op_mul : OpR X (binaryOp .Mult) (rI CMul fun i j => .int (i * j)) := opI fun _ _ _ _ _ _ _ hc q => mul_int q hc.ok
/-- // by a positive divisor -/
theorem op_fdiv : OpR X (binaryOp .FloorDiv) (rI CDiv fun i j => .int (i / j)) := opI fun i j _ _ _ _ _ hc q => by
  have h1 : (0 : Int) < j := hc.1
  have h2 : j < 1073741824 := hc.2
  exact floordiv_int (by omega) (by rw [Int.fdiv_eq_ediv_of_nonneg i (by omega)]; exact q) (.inl (PyProof.noPylong_small (by omega)))
theorem op_fdivN : OpR X (binaryOp .FloorDiv) (rI CDivN fun i j => .int (i.fdiv j)) := opI fun _ _ _ _ _ _ _ hc q => floordiv_int hc.1 q (.inl (PyProof.noPylong_small hc.2))
/-- % by a positive divisor of any size -/
theorem op_mod : OpR X (binaryOp .Mod) (rI (fun _ j => 0 < j) fun i j => .int (i % j)) := opI fun i j _ _ _ _ _ hc q => by
  have h1 : (0 : Int) < j := hc
  exact mod_int' (by omega) (by rw [Int.fmod_eq_emod_of_nonneg i (by omega)]; exact q)
theorem op_modN : OpR X (binaryOp .Mod) (rI (fun _ j => j ≠ 0) fun i j => .int (i.fmod j)) := opI fun _ _ _ _ _ _ _ hc q => mod_int' hc q
theorem op_pow : OpR X (binaryOp .Pow) (rI CPow fun i j => .int (i ^ j.toNat)) := opI fun _ _ _ _ _ _ _ hc q => pow_int_small hc.1 hc.2.1 hc.2.2 q
theorem op_shl : OpR X (binaryOp .LShift) (rI CPow fun i j => .int (i * 2 ^ j.toNat)) := opI fun _ _ _ _ _ _ _ hc q => lshift_int_small hc.1 hc.2.1 hc.2.2 q
theorem op_shr : OpR X (binaryOp .RShift) (rI (fun _ j => 0 ≤ j) fun i j => .int (i / 2 ^ j.toNat)) := opI fun i j _ _ _ _ _ hc q =>
  rshift_int hc (by rw [Int.fdiv_eq_ediv_of_nonneg i (two_pow_nn _)]; exact q)
theorem op_and : OpR X (binaryOp .BitAnd) (rI0 fun i j => .int (Builtin.bitAnd i j)) := opI0 fun _ _ _ _ _ _ _ q => and_int q
theorem op_or : OpR X (binaryOp .BitOr) (rI0 fun i j => .int (Builtin.bitOr i j)) := opI0 fun _ _ _ _ _ _ _ q => or_int q
theorem op_xor : OpR X (binaryOp .BitXor) (rI0 fun i j => .int (Builtin.bitXor i j)) := opI0 fun _ _ _ _ _ _ _ q => xor_int q

theorem iop_add : OpR X (inplaceOp .Add) (rI0 fun i j => .int (i + j)) := opI0 fun _ _ _ _ _ _ _ q => iadd_int q
theorem iop_sub : OpR X (inplaceOp .Sub) (rI0 fun i j => .int (i - j)) := opI0 fun _ _ _ _ _ _ _ q => isub_int q
theorem iop_mul : OpR X (inplaceOp .Mult) (rI CMul fun i j => .int (i * j)) := opI fun _ _ _ _ _ _ _ hc q => imul_int q hc.ok
theorem iop_fdiv : OpR X (inplaceOp .FloorDiv) (rI CDiv fun i j => .int (i / j)) := opI fun i j _ _ _ _ _ hc q => by
  have h1 : (0 : Int) < j := hc.1
  have h2 : j < 1073741824 := hc.2
  exact ifloordiv_int (by omega) (by rw [Int.fdiv_eq_ediv_of_nonneg i (by omega)]; exact q) (.inl (PyProof.noPylong_small (by omega)))
theorem iop_mod : OpR X (inplaceOp .Mod) (rI (fun _ j => 0 < j) fun i j => .int (i % j)) := opI fun i j _ _ _ _ _ hc q => by
  have h1 : (0 : Int) < j := hc
  exact imod_int (by omega) (by rw [Int.fmod_eq_emod_of_nonneg i (by omega)]; exact q)
theorem iop_shl : OpR X (inplaceOp .LShift) (rI CPow fun i j => .int (i * 2 ^ j.toNat)) := opI fun _ _ _ _ _ _ _ hc q => ilshift_int_small hc.1 hc.2.1 hc.2.2 q
theorem iop_shr : OpR X (inplaceOp .RShift) (rI (fun _ j => 0 ≤ j) fun i j => .int (i / 2 ^ j.toNat)) := opI fun i j _ _ _ _ _ hc q =>
  irshift_int hc (by rw [Int.fdiv_eq_ediv_of_nonneg i (two_pow_nn _)]; exact q)
theorem iop_and : OpR X (inplaceOp .BitAnd) (rI0 fun i j => .int (Builtin.bitAnd i j)) := opI0 fun _ _ _ _ _ _ _ q => iand_int q
theorem iop_or : OpR X (inplaceOp .BitOr) (rI0 fun i j => .int (Builtin.bitOr i j)) := opI0 fun _ _ _ _ _ _ _ q => ior_int q
theorem iop_xor : OpR X (inplaceOp .BitXor) (rI0 fun i j => .int (Builtin.bitXor i j)) := opI0 fun _ _ _ _ _ _ _ q => ixor_int q

theorem unI {f : Value → Sem Value} {g : Int → Int}
    (rule : ∀ (i : Int) (t : Tok) (s : Shared) (Q : Value → Shared → Prop) (E : Value → Shared → Prop), Q (.int (g i) s.toks) { s with toks := s.toks + 1 } → wpAny (model X.prog X.w) X.A (f (.int i t)) Q E s) :
    UnR X f (rU fun i => .int (g i)) := by
  intro pins s σ H x v Q I rx h
  obtain ⟨i, rfl, q⟩ := h
  obtain ⟨t, rfl⟩ := rx
  exact rule i t s _ _ ⟨.int (g i), H, I.tok _, ⟨_, rfl⟩, q⟩
theorem un_neg : UnR X (unaryOp .USub) (rU fun i => .int (-i)) := unI fun _ _ _ _ _ q => neg_int q
theorem un_inv : UnR X (unaryOp .Invert) (rU fun i => .int (Builtin.bitNot i)) := unI fun _ _ _ _ _ q => invert_int q

/-! ### bools among ints: n += (a < b) -/
theorem op_add_ib : OpR X (binaryOp .Add) (fun x y H Q => ∃ i k, x = .int i ∧ y = .bl k ∧ Q (.int (i + b2i k)) H) := by
  intro pins s σ H x y v u Q I rx ry h
  obtain ⟨i, k, rfl, rfl, q⟩ := h
  obtain ⟨t, rfl⟩ := rx
  cases ry
  exact add_int_bool ⟨.int (i + b2i k), H, I.tok _, ⟨_, rfl⟩, q⟩
end

/-! ### comparisons -/
/-- the scalars that == tells apart as data does -/
def scal : V → V → Bool
  | .non, .non => true | .non, .int _ => true | .int _, .non => true | .non, .bl _ => true | .bl _, .non => true | .non, .str _ => true | .str _, .non => true
  | .int _, .int _ => true | .bl _, .bl _ => true | .str _, .str _ => true | .byt _, .byt _ => true
  | .int _, .str _ => true | .str _, .int _ => true | .bl _, .str _ => true | .str _, .bl _ => true
  | _, _ => false
def rEq : R2 := fun x y H Q => scal x y = true ∧ Q (.bl (decide (x = y))) H
def rNe : R2 := fun x y H Q => scal x y = true ∧ Q (.bl (!decide (x = y))) H

theorem dec_int {i j : Int} : decide (V.int i = V.int j) = (i == j) := by
  rw [Bool.eq_iff_iff]
  simp
theorem dec_bl {i j : Bool} : decide (V.bl i = V.bl j) = (i == j) := by
  rw [Bool.eq_iff_iff]
  simp
theorem dec_str {i j : Str} : decide (V.str i = V.str j) = (i == j) := by
  rw [Bool.eq_iff_iff]
  simp
theorem dec_byt {i j : Array UInt8} : decide (V.byt i = V.byt j) = (i.toList == j.toList) := by
  rw [Bool.eq_iff_iff]
  cases i
  cases j
  simp

section
variable {X : Cx} {a b c : Expr} {ta tb tc : TE} {pos : Pos}
theorem fin_bl {pins : List (Addr × Obj)} {σ : St} {H : Hp} {s : Shared} {Q : VK} {k k' : Bool} (I : Inv X pins σ H s) (q : Q (.bl k) H) (e : k = k') : EP X pins σ Q (.bool k') s := by
  subst e
  exact ⟨.bl k, H, I, rfl, q⟩
theorem op_eq : OpR X (compareOp .Eq) rEq := by
  intro pins s σ H x y v u Q I rx ry h
  obtain ⟨hs, q⟩ := h
  cases x with
  | non =>
    cases rx
    cases y with
    | non => cases ry; exact PySem.EqNone.eq_none_none (fin_bl I q (by simp))
    | bl j => cases ry; exact PySem.EqNone.eq_none_bool (fin_bl I q (by simp))
    | int j => obtain ⟨t', rfl⟩ := ry; exact PySem.EqNone.eq_none_int (fin_bl I q (by simp))
    | str j => obtain ⟨t', rfl⟩ := ry; exact PySem.EqNone.eq_none_str (fin_bl I q (by simp))
    | _ => exact absurd (show false = true from hs) Bool.false_ne_true
  | bl i =>
    cases rx
    cases y with
    | non => cases ry; exact PySem.EqNone.eq_bool_none (fin_bl I q (by simp))
    | bl j => cases ry; exact eq_bool (fin_bl I q dec_bl)
    | str j => obtain ⟨t', rfl⟩ := ry; exact PySem.EqMixed.eq_bool_str (fin_bl I q (by simp))
    | _ => exact absurd (show false = true from hs) Bool.false_ne_true
  | int i =>
    obtain ⟨t, rfl⟩ := rx
    cases y with
    | non => cases ry; exact PySem.EqNone.eq_int_none (fin_bl I q (by simp))
    | int j => obtain ⟨t', rfl⟩ := ry; exact eq_int (fin_bl I q dec_int)
    | str j => obtain ⟨t', rfl⟩ := ry; exact PySem.EqMixed.eq_int_str (fin_bl I q (by simp))
    | _ => exact absurd (show false = true from hs) Bool.false_ne_true
  | str i =>
    obtain ⟨t, rfl⟩ := rx
    cases y with
    | non => cases ry; exact PySem.EqNone.eq_str_none (fin_bl I q (by simp))
    | bl j => cases ry; exact PySem.EqMixed.eq_str_bool (fin_bl I q (by simp))
    | int j => obtain ⟨t', rfl⟩ := ry; exact PySem.EqMixed.eq_str_int (fin_bl I q (by simp))
    | str j => obtain ⟨t', rfl⟩ := ry; exact eq_str (fin_bl I q dec_str)
    | _ => exact absurd (show false = true from hs) Bool.false_ne_true
  | byt i =>
    obtain ⟨t, rfl⟩ := rx
    cases y with
    | byt j => obtain ⟨t', rfl⟩ := ry; exact PySem.W.eq_bytes (fin_bl I q dec_byt)
    | _ => exact absurd (show false = true from hs) Bool.false_ne_true
  | _ => cases y <;> exact absurd (show false = true from hs) Bool.false_ne_true
theorem op_ne : OpR X (compareOp .NotEq) rNe := by
  intro pins s σ H x y v u Q I rx ry h
  obtain ⟨hs, q⟩ := h
  cases x with
  | non =>
    cases rx
    cases y with
    | non => cases ry; exact PySem.EqNone.ne_none_none (fin_bl I q (by simp))
    | bl j => cases ry; exact PySem.EqNone.ne_none_bool (fin_bl I q (by simp))
    | int j => obtain ⟨t', rfl⟩ := ry; exact PySem.EqNone.ne_none_int (fin_bl I q (by simp))
    | str j => obtain ⟨t', rfl⟩ := ry; exact PySem.EqNone.ne_none_str (fin_bl I q (by simp))
    | _ => exact absurd (show false = true from hs) Bool.false_ne_true
  | bl i =>
    cases rx
    cases y with
    | non => cases ry; exact PySem.EqNone.ne_bool_none (fin_bl I q (by simp))
    | bl j => cases ry; exact ne_bool (fin_bl I q (congrArg not dec_bl))
    | str j => obtain ⟨t', rfl⟩ := ry; exact PySem.EqMixed.ne_bool_str (fin_bl I q (by simp))
    | _ => exact absurd (show false = true from hs) Bool.false_ne_true
  | int i =>
    obtain ⟨t, rfl⟩ := rx
    cases y with
    | non => cases ry; exact PySem.EqNone.ne_int_none (fin_bl I q (by simp))
    | int j => obtain ⟨t', rfl⟩ := ry; exact ne_int (fin_bl I q (congrArg not dec_int))
    | str j => obtain ⟨t', rfl⟩ := ry; exact PySem.EqMixed.ne_int_str (fin_bl I q (by simp))
    | _ => exact absurd (show false = true from hs) Bool.false_ne_true
  | str i =>
    obtain ⟨t, rfl⟩ := rx
    cases y with
    | non => cases ry; exact PySem.EqNone.ne_str_none (fin_bl I q (by simp))
    | bl j => cases ry; exact PySem.EqMixed.ne_str_bool (fin_bl I q (by simp))
    | int j => obtain ⟨t', rfl⟩ := ry; exact PySem.EqMixed.ne_str_int (fin_bl I q (by simp))
    | str j => obtain ⟨t', rfl⟩ := ry; exact ne_str (fin_bl I q (congrArg not dec_str))
    | _ => exact absurd (show false = true from hs) Bool.false_ne_true
  | byt i =>
    obtain ⟨t, rfl⟩ := rx
    cases y with
    | byt j => obtain ⟨t', rfl⟩ := ry; exact PySem.W.ne_bytes (fin_bl I q (congrArg not dec_byt))
    | _ => exact absurd (show false = true from hs) Bool.false_ne_true
  | _ => cases y <;> exact absurd (show false = true from hs) Bool.false_ne_true

theorem op_lt : OpR X (compareOp .Lt) (rI0 fun i j => .bl (decide (i < j))) := opB0 fun _ _ _ _ _ _ _ q => lt_int q
theorem op_le : OpR X (compareOp .LtE) (rI0 fun i j => .bl (decide (i ≤ j))) := opB0 fun _ _ _ _ _ _ _ q => le_int q
theorem op_gt : OpR X (compareOp .Gt) (rI0 fun i j => .bl (decide (j < i))) := opB0 fun _ _ _ _ _ _ _ q => gt_int q
theorem op_ge : OpR X (compareOp .GtE) (rI0 fun i j => .bl (decide (j ≤ i))) := opB0 fun _ _ _ _ _ _ _ q => ge_int q
theorem op_lt_str : OpR X (compareOp .Lt) (fun x y H Q => ∃ i j, x = .str i ∧ y = .str j ∧ Q (.bl (decide (i.cps.toList < j.cps.toList))) H) := by
  intro pins s σ H x y v u Q I rx ry h
  obtain ⟨i, j, rfl, rfl, q⟩ := h
  obtain ⟨t, rfl⟩ := rx
  obtain ⟨t', rfl⟩ := ry
  exact lt_str (fin_bl I q rfl)
/-- the one string within the other -/
theorem op_in_str : OpR X (compareOp .In) (fun x y H Q => ∃ i j, x = .str i ∧ y = .str j ∧ Q (.bl (!(Builtin.Str.occurrences j i 0 j.length 1).isEmpty)) H) := by
  intro pins s σ H x y v u Q I rx ry h
  obtain ⟨i, j, rfl, rfl, q⟩ := h
  obtain ⟨t, rfl⟩ := rx
  obtain ⟨t', rfl⟩ := ry
  exact in_str (fin_bl I q rfl)

/-- is None, is not None: the right side a value none -/
theorem op_isN : OpR X (compareOp .Is) (fun x y H Q => y = .non ∧ Q (.bl (decide (x = .non))) H) := by
  intro pins s σ H x y v u Q I rx ry h
  obtain ⟨rfl, q⟩ := h
  cases ry
  refine is_none_gen (fin_bl I q ?_)
  cases x <;> first
    | (cases rx; rfl)
    | (obtain ⟨t, rfl⟩ := rx; rfl)
theorem op_notN : OpR X (compareOp .IsNot) (fun x y H Q => y = .non ∧ Q (.bl (!decide (x = .non))) H) := by
  intro pins s σ H x y v u Q I rx ry h
  obtain ⟨rfl, q⟩ := h
  cases ry
  refine isnot_none_gen (fin_bl I q ?_)
  cases x <;> first
    | (cases rx; rfl)
    | (obtain ⟨t, rfl⟩ := rx; rfl)

theorem op_notin_str : OpR X (compareOp .NotIn) (fun x y H Q => ∃ i j, x = .str i ∧ y = .str j ∧ Q (.bl (!(!(Builtin.Str.occurrences j i 0 j.length 1).isEmpty))) H) := by
  intro pins s σ H x y v u Q I rx ry h
  obtain ⟨i, j, rfl, rfl, q⟩ := h
  obtain ⟨t, rfl⟩ := rx
  obtain ⟨t', rfl⟩ := ry
  exact notIn_str (fin_bl I q rfl)
/-- is, is not of two objects that are tracked lists or instances -/
def isObj : HO → Bool
  | .lst _ => true
  | .ins _ _ _ => true
  | _ => false
theorem obj_there {pins : List (Addr × Obj)} {s : Shared} {σ : St} {H : Hp} {a : Addr} {o : HO} (I : Inv X pins σ H s) (h : H a = some o) (p : isObj o = true) : ∃ ob, s.heap.get? a = some ob ∧ ob.cls ≠ .type "tuple" := by
  cases o with
  | lst xs =>
    obtain ⟨_, its, n, _, e⟩ : xs.length ≤ sizeLine ∧ ∃ (its : List Value) (n : Nat), Vals xs its ∧ s.heap.get? a = some { cls := .type "list", data := .seq its.toArray n } := I.hok a _ h
    exact ⟨_, e, (by show Value.type "list" ≠ .type "tuple"; decide +kernel)⟩
  | ins C dx fs =>
    have x := I.hok a _ h
    obtain ⟨_, _, _, e, _⟩ := x
    exact ⟨_, e, (by show Value.ref C ≠ .type "tuple"; exact fun z => by cases z)⟩
  | _ => exact absurd (show false = true from p) Bool.false_ne_true
theorem op_is_ref : OpR X (compareOp .Is) (fun x y H Q => ∃ a b oa ob, x = .ref a ∧ y = .ref b ∧ H a = some oa ∧ isObj oa = true ∧ H b = some ob ∧ isObj ob = true ∧ Q (.bl (decide (a = b))) H) := by
  intro pins s σ H x y v u Q I rx ry h
  obtain ⟨a, b, oa, ob, rfl, rfl, ha, pa, hb, pb, q⟩ := h
  cases rx
  cases ry
  obtain ⟨o1, e1, n1⟩ := obj_there I ha pa
  obtain ⟨o2, e2, _⟩ := obj_there I hb pb
  by_cases z : a = b
  · subst z
    exact wpAny_is_ref_self (fin_bl I q (by simp))
  · exact wpAny_is_ref_other z e1 e2 n1 (fin_bl I q (by simp [z]))
theorem op_isnot_ref : OpR X (compareOp .IsNot) (fun x y H Q => ∃ a b oa ob, x = .ref a ∧ y = .ref b ∧ H a = some oa ∧ isObj oa = true ∧ H b = some ob ∧ isObj ob = true ∧ Q (.bl (!decide (a = b))) H) := by
  intro pins s σ H x y v u Q I rx ry h
  obtain ⟨a, b, oa, ob, rfl, rfl, ha, pa, hb, pb, q⟩ := h
  cases rx
  cases ry
  obtain ⟨o1, e1, n1⟩ := obj_there I ha pa
  obtain ⟨o2, e2, _⟩ := obj_there I hb pb
  by_cases z : a = b
  · subst z
    exact wpAny_isNot_ref_self (fin_bl I q (by simp))
  · exact wpAny_isNot_ref_other z e1 e2 n1 (fin_bl I q (by simp [z]))

/-- two rules for one operation: by cases -/
theorem OpR.or {f : Value → Value → Sem Value} {r r' : R2} (h : OpR X f r) (h' : OpR X f r') : OpR X f (fun x y H Q => r x y H Q ∨ r' x y H Q) := by
  intro pins s σ H x y v u Q I rx ry q
  rcases q with q | q
  · exact h pins s σ H x y v u Q I rx ry q
  · exact h' pins s σ H x y v u Q I rx ry q

theorem nomark (b : Expr) {op : CmpOp} (h : op ≠ .In := by decide) (h2 : op ≠ .NotIn := by decide) : behindInMarks op b = false := by
  have e1 : (op == CmpOp.In) = false := by cases op <;> first | rfl | exact absurd rfl h
  have e2 : (op == CmpOp.NotIn) = false := by cases op <;> first | rfl | exact absurd rfl h2
  cases b <;> simp [behindInMarks, e1, e2]
/-- a comparison as a value; hm: nomark b, or (for in, not in) by with_unfolding_all rfl -/
theorem pe_cmpR {op : CmpOp} {r : R2} (ho : OpR X (compareOp op) r) (ha : PE X a ta) (hb : PE X b tb) (hm : behindInMarks op b = false) : PE X (.Compare a [op] [b] pos) (tOp r ta tb) := by
  intro pins s σ H Q I h
  exact wpAny_Compare1 (binT ha hb I h fun v u s2 x y H2 I2 rx ry q => ho pins s2 σ H2 x y v u Q I2 rx ry q) hm
/-- a reading of a value as a test -/
def tTest (t : TE) : TT := fun σ H Q => t σ H fun x H' => ∃ k, x = .bl k ∧ Q k H'
theorem pt_cmpR {op : CmpOp} {r : R2} (ho : OpR X (compareOp op) r) (ha : PE X a ta) (hb : PE X b tb) (hm : behindInMarks op b = false) : PT X (.Compare a [op] [b] pos) (tTest (tOp r ta tb)) := by
  intro pins s σ H Q I h
  refine wpAny_isTrue_Compare1 (thn (ha pins s σ H _ I h) fun v s1 ⟨x, H1, I1, r1, q1⟩ => thn (hb pins s1 σ H1 _ I1 q1) fun u s2 ⟨y, H2, I2, r2, q2⟩ =>
    thn (ho pins s2 σ H2 x y v u _ I2 r1 r2 q2) fun c s3 ⟨z, H3, I3, r3, k, e, q3⟩ => ?_) hm
  subst e
  cases r3
  exact wpAny_truthy_bool ⟨H3, I3, q3⟩
/-- a op1 b op2 c -/
def tChain (r r' : R2) (ta tb tc : TE) : TE := fun σ H Q => ta σ H fun x H1 => tb σ H1 fun y H2 => r x y H2 fun z H3 => ∃ k, z = .bl k ∧
  (if k = true then tc σ H3 fun w' H4 => r' y w' H4 Q else Q (.bl false) H3)
theorem pe_chain {op op' : CmpOp} {r r' : R2} (ho : OpR X (compareOp op) r) (ho' : OpR X (compareOp op') r') (ha : PE X a ta) (hb : PE X b tb) (hc : PE X c tc)
    (hm : lastMarks [op, op'] [b, c] = false := by with_unfolding_all rfl) : PE X (.Compare a [op, op'] [b, c] pos) (tChain r r' ta tb tc) := by
  intro pins s σ H Q I h
  refine Compare_chain (thn (ha pins s σ H _ I h) fun v s1 ⟨x, H1, I1, r1, q1⟩ => chain_link (thn (hb pins s1 σ H1 _ I1 q1) fun u s2 ⟨y, H2, I2, r2, q2⟩ =>
    thn (ho pins s2 σ H2 x y v u _ I2 r1 r2 q2) fun d s3 ⟨z, H3, I3, r3, k, e, q3⟩ => ?_)) hm
  subst e
  cases r3
  refine wpAny_truthy_bool ?_
  cases k with
  | false => exact ite_ff ⟨.bl false, H3, I3, rfl, q3⟩
  | true => exact ite_tt (chain_last (thn (hc pins s3 σ H3 _ I3 q3) fun w' s4 ⟨z', H4, I4, r4, q4⟩ => ho' pins s4 σ H4 y z' u w' Q I4 r2 r4 q4))
theorem pt_chain {op op' : CmpOp} {r r' : R2} (ho : OpR X (compareOp op) r) (ho' : OpR X (compareOp op') r') (ha : PE X a ta) (hb : PE X b tb) (hc : PE X c tc)
    (hm : lastMarks [op, op'] [b, c] = false := by with_unfolding_all rfl) : PT X (.Compare a [op, op'] [b, c] pos) (tTest (tChain r r' ta tb tc)) := by
  intro pins s σ H Q I h
  refine isTrue_chain (thn (ha pins s σ H _ I h) fun v s1 ⟨x, H1, I1, r1, q1⟩ => test_link (thn (hb pins s1 σ H1 _ I1 q1) fun u s2 ⟨y, H2, I2, r2, q2⟩ =>
    thn (ho pins s2 σ H2 x y v u _ I2 r1 r2 q2) fun d s3 ⟨z, H3, I3, r3, k, e, q3⟩ => ?_)) hm
  subst e
  cases r3
  refine wpAny_truthy_bool ?_
  cases k with
  | false =>
    obtain ⟨k', e', q'⟩ := q3
    cases e'
    exact ite_ff ⟨H3, I3, q'⟩
  | true =>
    refine ite_tt (test_last (thn (hc pins s3 σ H3 _ I3 q3) fun w' s4 ⟨z', H4, I4, r4, q4⟩ => thn (ho' pins s4 σ H4 y z' u w' _ I4 r2 r4 q4) fun d' s5 ⟨z2, H5, I5, r5, k2, e2, q5⟩ => ?_))
    subst e2
    cases r5
    exact wpAny_truthy_bool ⟨H5, I5, q5⟩

/-! ### truth -/
/-- a value's truth by the abstract heap -/
def TruV (K : PySem.W.Frag) (x : V) (H : Hp) (k : Bool) : Prop :=
  match x with
  | .non => k = false
  | .bl b => k = b
  | .int i => k = (i != 0)
  | .str y => y.length ≤ sizeLine ∧ k = ((y.length : Int) != 0)
  | .byt y => y.size ≤ sizeLine ∧ k = ((y.size : Int) != 0)
  | .ref p => (∃ xs, SqL K H p xs ∧ k = !xs.isEmpty) ∨ (∃ xs, SqT K H p xs ∧ k = !xs.isEmpty) ∨ ∃ kvs, H p = some (.dK kvs) ∧ k = !kvs.isEmpty
  | _ => False
theorem isEmpty_kv {κ : Type} {kvs : List (κ × V)} {vs : List (κ × Value)} (r : KV kvs vs) : (!vs.isEmpty) = !kvs.isEmpty := by
  cases r <;> rfl
theorem isEmpty_of {xs : List V} {its : List Value} (r : Vals xs its) : (!its.toArray.isEmpty) = !xs.isEmpty := by
  cases r <;> simp
theorem line63 : (sizeLine : Nat) < 2 ^ 63 := by rw [sizeLine_eq]; decide
theorem tru_ok : TruR X (fun x H Q => ∃ k, TruV X.K x H k ∧ Q k H) := by
  intro pins s σ H x v Q I rx h
  obtain ⟨k, e, q⟩ := h
  have hl := line63
  have hs : sizeLine = 16777216 := sizeLine_eq
  cases x with
  | non =>
    cases rx
    have e' : k = false := e
    subst e'
    exact truthy_none ⟨H, I, q⟩
  | bl b =>
    cases rx
    have e' : k = b := e
    subst e'
    exact wpAny_truthy_bool ⟨H, I, q⟩
  | int i =>
    obtain ⟨t, rfl⟩ := rx
    have e' : k = (i != 0) := e
    subst e'
    exact PySem.P.truthy_int ⟨H, I, q⟩
  | str y =>
    obtain ⟨t, rfl⟩ := rx
    obtain ⟨hy, e'⟩ : y.length ≤ sizeLine ∧ k = ((y.length : Int) != 0) := e
    subst e'
    exact PySem.P.truthy_str (by omega) ⟨H, I.tok _, q⟩
  | byt y =>
    obtain ⟨t, rfl⟩ := rx
    obtain ⟨hy, e'⟩ : y.size ≤ sizeLine ∧ k = ((y.size : Int) != 0) := e
    subst e'
    exact PySem.W.truthy_bytes (by omega) ⟨H, I.tok _, q⟩
  | ref p =>
    cases rx
    have e' : (∃ xs, SqL X.K H p xs ∧ k = !xs.isEmpty) ∨ (∃ xs, SqT X.K H p xs ∧ k = !xs.isEmpty) ∨ ∃ kvs, H p = some (.dK kvs) ∧ k = !kvs.isEmpty := e
    rcases e' with ⟨xs, hx, e'⟩ | ⟨xs, hx, e'⟩ | ⟨kvs, hx, e'⟩
    · subst e'
      obtain ⟨its, r, pl, hz⟩ := I.list hx
      have hlen := r.length
      exact wpAny_truthy_list pl.isList (by simp only [List.size_toArray]; omega) ⟨H, I.tok _, by rw [isEmpty_of r]; exact q⟩
    · subst e'
      obtain ⟨its, r, pl, hz⟩ := I.tuple hx
      have hlen := r.length
      exact truthy_tuple pl (by simp only [List.size_toArray]; omega) ⟨H, I.tok _, by rw [isEmpty_of r]; exact q⟩
    · subst e'
      obtain ⟨hz, hS, vs, r, m⟩ : kvs.length ≤ sizeLine ∧ (p == sysModules) = false ∧ ∃ vs, KV kvs vs ∧ s.heap.DictOf (mixKind X.prog X.w) p vs := I.hok p _ hx
      have hlen : kvs.length = vs.length := Paired.length r
      exact wpAny_truthy_dict hS m (by omega) ⟨H, I.tok _, by rw [isEmpty_kv r]; exact q⟩
  | _ => exact (show False from e).elim
/-- any expression whose test is its value's truth (a name, a call, a subscript, a field ..: he by fun _ => rfl) -/
theorem pt_truth (ha : PE X a ta) (he : ∀ whole, isTrue a X.env whole = (do let v ← whole; standAt a.pos; holding [v] (truthy v))) :
    PT X a (fun σ H Q => ta σ H fun x H' => ∃ k, TruV X.K x H' k ∧ Q k H') := by
  intro pins s σ H Q I h
  exact isTrue_plain (thn (ha pins s σ H _ I h) fun v s1 ⟨x, H1, I1, r1, q1⟩ => tru_ok pins s1 σ H1 x v Q I1 r1 q1) (he _)

/-! ### strs and bytes -/
theorem pe_byt {x : List UInt8} {k : Nat} : PE X (.Constant (.bytes x) k pos) (fun _ H Q => Q (.byt x.toArray) H) := fun _ _ _ H _ I h => PySem.W.Constant_bytes ⟨.byt x.toArray, H, I.tok _, ⟨_, rfl⟩, h⟩
theorem op_add_str : OpR X (binaryOp .Add) (fun x y H Q => ∃ i j, x = .str i ∧ y = .str j ∧ i.length + j.length ≤ sizeLine ∧ Q (.str (i ++ j)) H) := by
  intro pins s σ H x y v u Q I rx ry h
  obtain ⟨i, j, rfl, rfl, hz, q⟩ := h
  obtain ⟨t, rfl⟩ := rx
  obtain ⟨t', rfl⟩ := ry
  exact add_str (fun t' tk => ⟨.str (i ++ j), H, I.tok _, ⟨_, rfl⟩, q⟩) hz
theorem iop_add_str : OpR X (inplaceOp .Add) (fun x y H Q => ∃ i j, x = .str i ∧ y = .str j ∧ i.length + j.length ≤ sizeLine ∧ Q (.str (i ++ j)) H) := by
  intro pins s σ H x y v u Q I rx ry h
  obtain ⟨i, j, rfl, rfl, hz, q⟩ := h
  obtain ⟨t, rfl⟩ := rx
  obtain ⟨t', rfl⟩ := ry
  exact iadd_str (fun t' tk => ⟨.str (i ++ j), H, I.tok _, ⟨_, rfl⟩, q⟩) hz
theorem op_add_byt : OpR X (binaryOp .Add) (fun x y H Q => ∃ i j, x = .byt i ∧ y = .byt j ∧ i.size + j.size ≤ 16777216 ∧ Q (.byt (i ++ j)) H) := by
  intro pins s σ H x y v u Q I rx ry h
  obtain ⟨i, j, rfl, rfl, hz, q⟩ := h
  obtain ⟨t, rfl⟩ := rx
  obtain ⟨t', rfl⟩ := ry
  exact PySem.W.KBy.add_bytes hz (fun t' tk => ⟨.byt (i ++ j), H, I.tok _, ⟨_, rfl⟩, q⟩)

def PlainIxT (b : Expr) : Prop := ∀ o i, subscripted b false o i = operate [o, i] (getItem o i)
/-- s[i], 0 ≤ i < len -/
theorem pe_item_str (ha : PE X a ta) (hb : PE X b tb) (hs : PlainIxT b) :
    PE X (.Subscript a b pos) (tOp (fun x y H Q => ∃ z i c, x = .str z ∧ y = .int i ∧ 0 ≤ i ∧ i < 2 ^ 63 ∧ i < z.length ∧ z.cps[i.toNat]? = some c ∧ Q (.str ⟨#[c]⟩) H) ta tb) := by
  intro pins s σ H Q I h
  refine Subscript_ (binT ha hb I h fun v u s2 x y H2 I2 rx ry q => ?_)
  obtain ⟨z, i, c, rfl, rfl, h0, h63, h1, hc, q⟩ := q
  obtain ⟨t, rfl⟩ := rx
  obtain ⟨t', rfl⟩ := ry
  have e : seqIndex? i z.length = some i.toNat := PySem.StrLaws.seqIndex_nonneg h0 h1
  exact tail_any (typeIs_str s2 z t) slot_str_getitem.lookup (getItem_str (c := c) (by
    have e1 : decide (i < -(2 ^ 63 : Int)) = false := decide_eq_false (by omega)
    have e2 : decide (i ≥ 2 ^ 63) = false := decide_eq_false (by omega)
    rw [e1, e2] <;> rfl) (by rw [e]; exact hc) ⟨.str ⟨#[c]⟩, H2, I2.tok _, ⟨_, rfl⟩, q⟩) (hs _ _)
/-- b[i], 0 ≤ i < len -/
theorem pe_item_byt (ha : PE X a ta) (hb : PE X b tb) (hs : PlainIxT b) :
    PE X (.Subscript a b pos) (tOp (fun x y H Q => ∃ (z : List UInt8) (i : Int), x = .byt z.toArray ∧ y = .int i ∧ z.length ≤ sizeLine ∧ 0 ≤ i ∧ i < z.length ∧ Q (.int ((z.getD i.toNat 0).toNat : Nat)) H) ta tb) := by
  intro pins s σ H Q I h
  refine Subscript_ (binT ha hb I h fun v u s2 x y H2 I2 rx ry q => ?_)
  obtain ⟨z, i, rfl, rfl, hz, h0, h1, q⟩ := q
  obtain ⟨t, rfl⟩ := rx
  obtain ⟨t', rfl⟩ := ry
  have hl : sizeLine = 16777216 := sizeLine_eq
  exact tail_any (PySem.W.typeIs_bytes s2 z.toArray t) PySem.W.FB.slot_bytes_getitem.lookup (PySem.W.getItem_bytes (by omega) h0 h1 ⟨.int ((z.getD i.toNat 0).toNat : Nat), H2, I2.tok _, ⟨_, rfl⟩, q⟩) (hs _ _)

/-! ### scalar builtins, by CallR -/
theorem vals1 {x : V} {us : List Value} (r : Vals [x] us) : ∃ u, us = [u] ∧ RelV x u := by
  cases r with
  | cons r1 r2 => cases r2; exact ⟨_, rfl, r1⟩
theorem vals2 {x y : V} {us : List Value} (r : Vals [x, y] us) : ∃ u w', us = [u, w'] ∧ RelV x u ∧ RelV y w' := by
  cases r with
  | cons r1 r2 =>
    cases r2 with
    | cons r3 r4 => cases r4; exact ⟨_, _, rfl, r1, r3⟩
theorem call_abs : CallR X (.builtin "abs") (fun xs H Q => ∃ i, xs = [.int i] ∧ Q (.int (if i < 0 then -i else i)) H) := by
  intro pins s σ H xs us Q I r h
  obtain ⟨i, rfl, q⟩ := h
  obtain ⟨u, rfl, t, rfl⟩ := vals1 r
  exact call_abs_int fun u tk => ⟨.int (if i < 0 then -i else i), H, I.tok _, ⟨_, rfl⟩, q⟩
theorem call_max2 (hc : X.calm = true) : CallR X (.builtin "max") (fun xs H Q => ∃ i j, xs = [.int i, .int j] ∧ Q (.int (if j > i then j else i)) H) := by
  intro pins s σ H xs us Q I r h
  obtain ⟨i, j, rfl, q⟩ := h
  obtain ⟨u, w', rfl, ⟨t, rfl⟩, ⟨t', rfl⟩⟩ := vals2 r
  refine max_two_ints (I.ok.hd hc) fun h' tk k => ⟨_, H, I.kept k, ?_, q⟩
  by_cases hj : j > i
  · rw [if_pos hj, if_pos hj]; exact ⟨_, rfl⟩
  · rw [if_neg hj, if_neg hj]; exact ⟨_, rfl⟩
theorem call_min2 (hc : X.calm = true) : CallR X (.builtin "min") (fun xs H Q => ∃ i j, xs = [.int i, .int j] ∧ Q (.int (if j < i then j else i)) H) := by
  intro pins s σ H xs us Q I r h
  obtain ⟨i, j, rfl, q⟩ := h
  obtain ⟨u, w', rfl, ⟨t, rfl⟩, ⟨t', rfl⟩⟩ := vals2 r
  refine min_two_ints (I.ok.hd hc) fun h' tk k => ⟨_, H, I.kept k, ?_, q⟩
  by_cases hj : j < i
  · rw [if_pos hj, if_pos hj]; exact ⟨_, rfl⟩
  · rw [if_neg hj, if_neg hj]; exact ⟨_, rfl⟩
theorem call_int1 : CallR X (.type "int") (fun xs H Q => (∃ i, xs = [.int i] ∧ Q (.int i) H) ∨ ∃ k, xs = [.bl k] ∧ Q (.int (if k then 1 else 0)) H) := by
  intro pins s σ H xs us Q I r h
  rcases h with ⟨i, rfl, q⟩ | ⟨k, rfl, q⟩
  · obtain ⟨u, rfl, t, rfl⟩ := vals1 r
    exact call_int_int ⟨.int i, H, I, ⟨_, rfl⟩, q⟩
  · obtain ⟨u, rfl, r1⟩ := vals1 r
    cases r1
    exact call_int_bool ⟨.int (if k then 1 else 0), H, I.tok _, ⟨_, rfl⟩, q⟩
theorem call_bool1 : CallR X (.type "bool") (fun xs H Q => (∃ i, xs = [.int i] ∧ Q (.bl (i != 0)) H) ∨ ∃ k, xs = [.bl k] ∧ Q (.bl k) H) := by
  intro pins s σ H xs us Q I r h
  rcases h with ⟨i, rfl, q⟩ | ⟨k, rfl, q⟩
  · obtain ⟨u, rfl, t, rfl⟩ := vals1 r
    exact call_bool_int ⟨.bl (i != 0), H, I, rfl, q⟩
  · obtain ⟨u, rfl, r1⟩ := vals1 r
    cases r1
    exact call_bool_bool ⟨.bl k, H, I, rfl, q⟩
theorem call_str_int : CallR X (.type "str") (fun xs H Q => ∃ i, xs = [.int i] ∧ i.natAbs.log2 < 1920 ∧ Q (.str (toString i)) H) := by
  intro pins s σ H xs us Q I r h
  obtain ⟨i, rfl, hz, q⟩ := h
  obtain ⟨u, rfl, t, rfl⟩ := vals1 r
  exact PySem.P.str_of_int hz ⟨.str _, H, I.tok _, ⟨_, rfl⟩, q⟩
theorem call_ord : CallR X (.builtin "ord") (fun xs H Q => ∃ x, xs = [.str x] ∧ x.length = 1 ∧ Q (.int (x.cps.getD 0 0 : Nat)) H) := by
  intro pins s σ H xs us Q I r h
  obtain ⟨x, rfl, hz, q⟩ := h
  obtain ⟨u, rfl, t, rfl⟩ := vals1 r
  exact ord_of_one hz ⟨.int _, H, I.tok _, ⟨_, rfl⟩, q⟩
theorem call_chr : CallR X (.builtin "chr") (fun xs H Q => ∃ i, xs = [.int i] ∧ 0 ≤ i ∧ i ≤ 1114111 ∧ Q (.str ⟨#[i.toNat]⟩) H) := by
  intro pins s σ H xs us Q I r h
  obtain ⟨i, rfl, h0, h1, q⟩ := h
  obtain ⟨u, rfl, t, rfl⟩ := vals1 r
  exact chr_of_range h0 h1 ⟨.str _, H, I.tok _, ⟨_, rfl⟩, q⟩
/-- len of a str, a bytes, a list, a tuple -/
def LenV (K : PySem.W.Frag) (x : V) (H : Hp) (n : Nat) : Prop :=
  match x with
  | .str y => y.length ≤ sizeLine ∧ n = y.length
  | .byt y => y.size ≤ sizeLine ∧ n = y.size
  | .ref p => (∃ xs, SqL K H p xs ∧ n = xs.length) ∨ ∃ xs, SqT K H p xs ∧ n = xs.length
  | _ => False
theorem call_len : CallR X (.builtin "len") (fun xs H Q => ∃ x n, xs = [x] ∧ LenV X.K x H n ∧ Q (.int n) H) := by
  intro pins s σ H xs us Q I r h
  obtain ⟨x, n, rfl, e, q⟩ := h
  obtain ⟨u, rfl, rx⟩ := vals1 r
  have hl := line63
  have hs : sizeLine = 16777216 := sizeLine_eq
  cases x with
  | str y =>
    obtain ⟨t, rfl⟩ := rx
    obtain ⟨hy, e'⟩ : y.length ≤ sizeLine ∧ n = y.length := e
    subst e'
    exact len_str (by omega) ⟨.int _, H, I.tok _, ⟨_, rfl⟩, q⟩
  | byt y =>
    obtain ⟨t, rfl⟩ := rx
    obtain ⟨hy, e'⟩ : y.size ≤ sizeLine ∧ n = y.size := e
    subst e'
    exact PySem.W.len_bytes (by omega) ⟨.int _, H, I.tok _, ⟨_, rfl⟩, q⟩
  | ref p =>
    cases rx
    have e' : (∃ xs, SqL X.K H p xs ∧ n = xs.length) ∨ ∃ xs, SqT X.K H p xs ∧ n = xs.length := e
    rcases e' with ⟨xs, hx, e'⟩ | ⟨xs, hx, e'⟩
    · subst e'
      obtain ⟨its, r', pl, hz⟩ := I.list hx
      have hlen := r'.length
      exact Calls.call_len_list pl.isList (by simp only [List.size_toArray]; omega) ⟨.int xs.length, H, I.tok _, ⟨_, by simp only [List.size_toArray]; rw [hlen]⟩, q⟩
    · subst e'
      obtain ⟨its, r', pl, hz⟩ := I.tuple hx
      have hlen := r'.length
      exact len_tuple pl (by simp only [List.size_toArray]; omega) ⟨.int xs.length, H, I.tok _, ⟨_, by simp only [List.size_toArray]; rw [hlen]⟩, q⟩
  | _ => exact (show False from e).elim
/-- divmod: a new tuple -/
theorem call_divmod : CallR X (.builtin "divmod") (fun xs H Q => ∃ i j, xs = [.int i, .int j] ∧ CDiv i j ∧ ∀ p, H p = none → Q (.ref p) (upd H p (.tup [.int (i / j), .int (i % j)]))) := by
  intro pins s σ H xs us Q I r h
  obtain ⟨i, j, rfl, ⟨h1, h2⟩, q⟩ := h
  obtain ⟨u, w', rfl, ⟨t, rfl⟩, ⟨t', rfl⟩⟩ := vals2 r
  refine divmod_int (by omega) ?_ (.inl (PyProof.noPylong_small (by omega)))
  rw [Int.fdiv_eq_ediv_of_nonneg i (by omega), Int.fmod_eq_emod_of_nonneg i (by omega)]
  have hn : H s.heap.objs.size = none := I.hok.fresh (Nat.le_refl _)
  refine ⟨.ref s.heap.objs.size, _, ?_, rfl, q _ hn⟩
  refine I.laid (fun b o e => Heap.get?_push_of_some _ e) (Nat.le_refl _) ⟨by simp only [List.length_cons, List.length_nil]; rw [sizeLine_eq]; decide, [.int (i / j) s.toks, .int (i % j) (s.toks + 1)], .cons ⟨_, rfl⟩ (.cons ⟨_, rfl⟩ .nil), ?_⟩
  exact ⟨_, Heap.get?_push_size s.heap rfl, rfl, 0, rfl⟩
end
end L2

namespace L2
open PySem PySem.Spec PyProof.Rows

/-! ### an instance, its attributes a map -/
structure ObjM (h : Heap) (x dx C : Addr) (mA : Str → Option Value) : Prop where
  obj : h.get? x = some (PySem.W.instObj C dx)
  ns : h.Ns1 dx mA
  ne : dx ≠ x

theorem lookIn_ns {h : Heap} {dx : Addr} {mA : Str → Option Value} (n : h.Ns1 dx mA) : ∃ od, h.get? dx = some od ∧ ∀ name, PySem.W.lookIn name od = some (mA name) := by
  obtain ⟨o, es, ep, ho, hd, hk, _, hm⟩ := n
  refine ⟨o, ho, fun name => ?_⟩
  have e := hm name
  unfold nsFind findBy at e
  rw [← Array.find?_toList] at e
  unfold PySem.W.lookIn
  rw [hd]
  dsimp only
  split
  · rename_i y q
    rw [q] at e
    exact congrArg some e
  · rename_i q
    rw [q] at e
    have a : es.toList.any (·.refKey) = false := by
      rw [List.any_eq_false]
      intro y hy
      obtain ⟨z, t, hkey⟩ := hk y (Array.mem_toList_iff.mp hy)
      simp [DictEntry.refKey, hkey]
    have a' : ¬ es.toList.any (·.refKey) = true := by rw [a]; exact Bool.false_ne_true
    rw [if_neg a']
    exact congrArg some e

theorem ObjM.look {h : Heap} {x dx C : Addr} {mA : Str → Option Value} (I : ObjM h x dx C mA) : ∃ od, PySem.W.InstAt h x (PySem.W.instObj C dx) C (some od) ∧ ∀ name, PySem.W.lookIn name od = some (mA name) :=
  let ⟨od, ho, hl⟩ := lookIn_ns I.ns
  ⟨od, ⟨I.obj, rfl, rfl, ho⟩, hl⟩

section
variable {prog : Program} {w : World} {A : Around} {E : Value → Shared → Prop} {s : Shared} {K : PySem.W.Frag} {x dx C f : Addr} {mA : Str → Option Value} {name : Str} {v : Value}

theorem get_map {expr : Bool} {Q : Value → Shared → Prop} (X : K.In s.heap) (I : ObjM s.heap x dx C mA) (hg : PySem.W.plainGet K C name = true) (hh : PySem.W.hasDictIn K C = true)
    (ha : PySem.W.findIn K (.ref C) name = some none) (hv : mA name = some v) (hv' : PySem.W.handedIn v = true) (h : Q v { s with toks := s.toks + 1 }) :
    wpAny (model prog w) A (getAttr (.ref x) name expr) Q E s := by
  obtain ⟨od, J, hl⟩ := I.look
  exact PySem.W.get_value X J (PySem.W.plainGet_of hg).1 (PySem.W.findObj_own hh ha rfl (by rw [hl, hv])) hv' h

theorem get_const {expr : Bool} {a : Value} {Q : Value → Shared → Prop} (X : K.In s.heap) (I : ObjM s.heap x dx C mA) (hg : PySem.W.plainGet K C name = true) (hh : PySem.W.hasDictIn K C = true)
    (ha : PySem.W.findIn K (.ref C) name = some (some a)) (hn : PySem.W.specialIn K a "__get__" = some none) (hc : PySem.W.copiedNames.contains name = false) (hv : mA name = none) (hv' : PySem.W.handedIn a = true)
    (h : Q a { s with toks := s.toks + 1 }) : wpAny (model prog w) A (getAttr (.ref x) name expr) Q E s := by
  obtain ⟨od, J, hl⟩ := I.look
  exact PySem.W.get_value X J (PySem.W.plainGet_of hg).1 (PySem.W.findObj_cls hh ha hn hv' hc (by rw [hl, hv])) hv' h

theorem get_meth {pl : Sem Bool} {Q : Value × List Value → Shared → Prop} (X : K.In s.heap) (I : ObjM s.heap x dx C mA) (hg : PySem.W.plainGet K C name = true)
    (hf : PySem.W.findIn K (.ref C) name = some (some (.ref f))) (ht : PySem.W.isFn K (.ref f) = true) (hv : mA name = none) (h : Q (.ref f, [.ref x]) s) :
    wpAny (model prog w) A (getMethod (.ref x) name pl) Q E s := by
  obtain ⟨od, J, hl⟩ := I.look
  exact PySem.W.method_fn X J (PySem.W.plainGet_of hg).1 (PySem.W.plainGet_of hg).2 hf (beq_iff_eq.mp ht) (by show (PySem.W.lookIn name od).map (·.isSome) = some false; rw [hl, hv]; rfl) h

theorem set_map {ns : List Str} {Q : Unit → Shared → Prop} (X : K.In s.heap) (I : ObjM s.heap x dx C mA)
    (hs : PySem.W.findIn K (.ref C) "__setattr__" = some (some (.builtin "object.__setattr__"))) (hp : PySem.W.plainOver K C = true) (ht : PySem.W.takerIn K C name = some none) (hh : PySem.W.hasDictIn K C = true)
    (hw : PySem.Within mA ns) (hsz : ns.length ≤ sizeLine)
    (h : ∀ h', ObjM h' x dx C (fun y => if y = name then some v else mA y) → Heap.SameBut dx s.heap h' → Q () { s with heap := h', toks := s.toks + 2 }) :
    wpAny (model prog w) A (setAttr (.ref x) name v) Q E s := by
  obtain ⟨od, J, hl⟩ := I.look
  refine PySem.W.set_plain X J hs (PySem.W.osa_open (s := { s with toks := s.toks + 1 }) (r := none) X J hp ht fun b => ?_)
  obtain ⟨cd, hc, hd'⟩ := PySem.W.any_some hh
  have hx : s.heap.get? x = some ⟨.ref C, some dx, .plain, #[]⟩ := I.obj
  refine wpAny_bind (wpAny_pure (wpAny_bind (wpAny_bind (wpAny_loadPart hx (wpAny_bind (PySem.W.Looks.here (s := { s with toks := s.toks + 1 }) (PySem.W.looks_clsIn X hc) ?_))))))
  rw [hd']
  refine wpAny_pure (a := some dx) (wpAny_bind (wpAny_pure (wpAny_bind ?_)))
  refine wpAny_nsSet1 (s := { s with toks := s.toks + 1 }) I.ns fun h' hn2 hs2 => ?_
  obtain ⟨oD, esD, epD, hoD, hdD, hcD⟩ := hn2.count (PySem.Within.cons name v hw)
  refine wpAny_bind (wpAny_lookBehind hoD (by rw [hdD]; exact pastItsLine_dict (Nat.le_trans hcD (by rw [List.length_cons]; omega))) ?_)
  exact wpAny_pure (h _ ⟨(hs2.2 _ (Ne.symm I.ne)).trans I.obj, hn2, I.ne⟩ hs2)

/-- C(..): the dict at the heap's end, the instance behind it; then its __init__ -/
theorem make_map {R : Result → Shared → Prop} {vs : List Value} {kw : List (Str × Value)} (X : K.In s.heap) (hm : PySem.W.makesIn K C = true)
    (hi : PySem.W.findIn K (.ref C) "__init__" = some (some (.ref f))) (hf : PySem.W.typeIn K (.ref f) = some (.type "function"))
    (h : codeAny (model prog w) (A.under (.builtin "type.__call__" ⟨.ref C :: vs, kw⟩)) (.call (.ref f) ⟨.ref (s.heap.objs.size + 1) :: vs, kw⟩) (PySem.W.InitBack (s.heap.objs.size + 1) R)
      { s with heap := (s.heap.push PySem.W.emptyDict).push (PySem.W.instObj C s.heap.objs.size) }) :
    codeAny (model prog w) A (.call (.ref C) ⟨vs, kw⟩) R s := by
  obtain ⟨hh, g, d, t, os⟩ := s
  exact PySem.W.make_core (PySem.W.makes_of X hm) (PySem.W.looks_findIn X hi) (fun self => PySem.W.bind_fn X self hf) (.inl rfl) h
/-- C() where there is no __init__ but object's -/
theorem make_map0 {R : Result → Shared → Prop} (X : K.In s.heap) (hm : PySem.W.makesIn K C = true)
    (hi : PySem.W.findIn K (.ref C) "__init__" = some (some (.builtin "object.__init__")))
    (hb : ∀ self, PySem.W.Looks (model prog w) s.heap (bindSpecial (.builtin "object.__init__") self) (.builtin "object.__init__", [self]))
    (h : codeAny (model prog w) (A.under (.builtin "type.__call__" ⟨[.ref C], []⟩)) (.call (.builtin "object.__init__") ⟨[.ref (s.heap.objs.size + 1)], []⟩) (PySem.W.InitBack (s.heap.objs.size + 1) R)
      { s with heap := (s.heap.push PySem.W.emptyDict).push (PySem.W.instObj C s.heap.objs.size) }) :
    codeAny (model prog w) A (.call (.ref C) ⟨[], []⟩) R s := by
  obtain ⟨hh, g, d, t, os⟩ := s
  exact PySem.W.make_core (PySem.W.makes_of X hm) (PySem.W.looks_findIn X hi) hb (.inr ⟨rfl, rfl⟩) h
end

/-! ### the attributes as a list of pairs -/
def putF (f : Str) (v : V) : List (Str × V) → List (Str × V)
  | [] => [(f, v)]
  | (g, x) :: r => if g = f then (g, v) :: r else (g, x) :: putF f v r
theorem lookup_putF (f g : Str) (v : V) : ∀ fs : List (Str × V), (putF f v fs).lookup g = if g = f then some v else fs.lookup g
  | [] => by
    show List.lookup g [(f, v)] = _
    by_cases h : g = f
    · have hb : (g == f) = true := beq_iff_eq.mpr h
      simp only [List.lookup, hb, if_pos h]
    · have hb : (g == f) = false := beq_eq_false_iff_ne.mpr h
      simp only [List.lookup, hb, if_neg h]
  | (k, x) :: r => by
    have ih := lookup_putF f g v r
    rw [show putF f v ((k, x) :: r) = (if k = f then (k, v) :: r else (k, x) :: putF f v r) from rfl]
    by_cases hk : k = f
    · rw [if_pos hk]
      by_cases h : g = k
      · have hb : (g == k) = true := beq_iff_eq.mpr h
        simp only [List.lookup, hb, if_pos (h.trans hk)]
      · have hb : (g == k) = false := beq_eq_false_iff_ne.mpr h
        simp only [List.lookup, hb, if_neg (fun e : g = f => h (e.trans hk.symm))]
    · rw [if_neg hk]
      by_cases h : g = k
      · have hb : (g == k) = true := beq_iff_eq.mpr h
        simp only [List.lookup, hb, if_neg (fun e : g = f => hk (h.symm.trans e))]
      · have hb : (g == k) = false := beq_eq_false_iff_ne.mpr h
        simp only [List.lookup, hb]
        exact ih
theorem keys_putF (f : Str) (v : V) : ∀ fs : List (Str × V), f ∈ (putF f v fs).map (·.1) ∧ ∀ g, g ∈ fs.map (·.1) → g ∈ (putF f v fs).map (·.1)
  | [] => ⟨by simp [putF], fun g h => by simp at h⟩
  | (k, x) :: r => by
    obtain ⟨i1, i2⟩ := keys_putF f v r
    rw [show putF f v ((k, x) :: r) = (if k = f then (k, v) :: r else (k, x) :: putF f v r) from rfl]
    by_cases hk : k = f
    · rw [if_pos hk]
      subst hk
      exact ⟨by simp, fun g h => by simpa using h⟩
    · rw [if_neg hk]
      refine ⟨?_, fun g h => ?_⟩
      · rw [List.map_cons]
        exact List.mem_cons_of_mem _ i1
      · rw [List.map_cons] at h ⊢
        rcases List.mem_cons.mp h with e | e
        · exact List.mem_cons.mpr (.inl e)
        · exact List.mem_cons_of_mem _ (i2 g e)
theorem length_putF (f : Str) (v : V) : ∀ fs : List (Str × V), (putF f v fs).length ≤ fs.length + 1
  | [] => by simp [putF]
  | (k, x) :: r => by
    have ih := length_putF f v r
    rw [show putF f v ((k, x) :: r) = (if k = f then (k, v) :: r else (k, x) :: putF f v r) from rfl]
    by_cases hk : k = f
    · rw [if_pos hk, List.length_cons, List.length_cons]; omega
    · rw [if_neg hk, List.length_cons, List.length_cons]; omega

theorem RelO.some_of {v : V} {o : Option Value} (r : RelO (some v) o) : ∃ u, o = some u ∧ RelV v u := by
  cases o with
  | none => exact (show False from r).elim
  | some u => exact ⟨u, rfl, r⟩
theorem RelO.none_of {o : Option Value} (r : RelO none o) : o = none := by
  cases o with
  | none => rfl
  | some u => exact (show False from r).elim
theorem handed_of {v : V} {u : Value} (r : RelV v u) : PySem.W.handedIn u = true := by
  cases v with
  | non => cases (show u = Value.none from r); rfl
  | bl b => cases (show u = Value.bool b from r); rfl
  | int i => obtain ⟨t, e⟩ := (show ∃ t, u = Value.int i t from r); cases e; rfl
  | str x => obtain ⟨t, e⟩ := (show ∃ t, u = Value.str x t from r); cases e; rfl
  | byt b => obtain ⟨t, e⟩ := (show ∃ t, u = Value.bytes b t from r); cases e; rfl
  | flt b => obtain ⟨t, e⟩ := (show ∃ t, u = Value.float b t from r); cases e; rfl
  | ref a => cases (show u = Value.ref a from r); rfl
  | ty n => cases (show u = Value.type n from r); rfl

section
variable {P : Program} {w : World} {H H' : Hp} {h h' : Heap} {a C dx : Addr} {fs fs' : List (Str × V)}
theorem ins_get (hok : HOk P w H h) (e : H a = some (.ins C dx fs)) : ∃ mA, ObjM h a dx C mA ∧ (∀ f, RelO (fs.lookup f) (mA f)) ∧ PySem.Within mA (fs.map (·.1)) ∧ fs.length ≤ 1000 ∧ H dx = some (.own a) := by
  obtain ⟨d, z, ne, ob, mA, n, r, q⟩ := (show ObjOk P w H h a (.ins C dx fs) from hok a _ e)
  exact ⟨mA, ⟨ob, n, ne⟩, r, q, z, d⟩
end

/-! ### what of the text a class must have -/
structure Cls (K : PySem.W.Frag) (C : Addr) : Prop where
  pg : PySem.W.plainGet K C Str.empty = true
  hd : PySem.W.hasDictIn K C = true
  po : PySem.W.plainOver K C = true
  sa : PySem.W.findIn K (.ref C) "__setattr__" = some (some (.builtin "object.__setattr__"))
theorem Cls.get {K : PySem.W.Frag} {C : Addr} (c : Cls K C) (f : Str) : PySem.W.plainGet K C f = true := c.pg
/-- no class of it has the name -/
def NoAttr (K : PySem.W.Frag) (C : Addr) (f : Str) : Prop := PySem.W.findIn K (.ref C) f = some none
theorem NoAttr.taker {K : PySem.W.Frag} {C : Addr} {f : Str} (n : NoAttr K C f) : PySem.W.takerIn K C f = some none := by
  unfold PySem.W.takerIn
  rw [show PySem.W.findIn K (.ref C) f = some none from n]
  rfl
/-- a constant of the class -/
structure Con (K : PySem.W.Frag) (C : Addr) (f : Str) (v : V) (u : Value) : Prop where
  at_ : PySem.W.findIn K (.ref C) f = some (some u)
  rel : RelV v u
  get : PySem.W.specialIn K u "__get__" = some none
  cp : PySem.W.copiedNames.contains f = false
/-- a method: a plain def of the class or of one above it -/
structure Meth (K : PySem.W.Frag) (C : Addr) (m : Str) (f : Addr) : Prop where
  at_ : PySem.W.findIn K (.ref C) m = some (some (.ref f))
  fn : PySem.W.isFn K (.ref f) = true
  kp : PySem.W.keepIn K (.ref f) = true

section
variable {X : Cx} {pins : List (Addr × Obj)} {σ : St} {H : Hp} {s : Shared} {a C dx : Addr} {fs : List (Str × V)} {f : Str} {v : V} {A : Around} {E : Value → Shared → Prop}

theorem getattr_ok {b : Bool} {Q : Value → Shared → Prop} (I : Inv X pins σ H s) (e : H a = some (.ins C dx fs)) (c : Cls X.K C) (n : NoAttr X.K C f) (l : fs.lookup f = some v)
    (h : ∀ u s', Inv X pins σ H s' → RelV v u → Q u s') : wpAny (model X.prog X.w) A (getAttr (.ref a) f b) Q E s := by
  obtain ⟨mA, O, r, _, _, _⟩ := ins_get I.hok e
  obtain ⟨u, hu, ru⟩ := RelO.some_of (v := v) (o := mA f) (by rw [← l]; exact r f)
  exact get_map I.kIn O (c.get f) c.hd n hu (handed_of ru) (h u _ (I.tok _) ru)

theorem getcon_ok {b : Bool} {u : Value} {Q : Value → Shared → Prop} (I : Inv X pins σ H s) (e : H a = some (.ins C dx fs)) (c : Cls X.K C) (k : Con X.K C f v u) (l : fs.lookup f = none)
    (h : ∀ s', Inv X pins σ H s' → Q u s') : wpAny (model X.prog X.w) A (getAttr (.ref a) f b) Q E s := by
  obtain ⟨mA, O, r, _, _, _⟩ := ins_get I.hok e
  have hn : mA f = none := RelO.none_of (by rw [← l]; exact r f)
  exact get_const I.kIn O (c.get f) c.hd k.at_ k.get k.cp hn (handed_of k.rel) (h _ (I.tok _))

theorem getmeth_ok {m : Str} {g : Addr} {pl : Sem Bool} {Q : Value × List Value → Shared → Prop} (I : Inv X pins σ H s) (e : H a = some (.ins C dx fs)) (c : Cls X.K C) (k : Meth X.K C m g) (l : fs.lookup m = none)
    (h : Q (.ref g, [.ref a]) s) : wpAny (model X.prog X.w) A (getMethod (.ref a) m pl) Q E s := by
  obtain ⟨mA, O, r, _, _, _⟩ := ins_get I.hok e
  have hn : mA m = none := RelO.none_of (by rw [← l]; exact r m)
  exact get_meth I.kIn O (c.get m) k.at_ k.fn hn h

theorem setattr_ok {y : V} {u : Value} {Q : Unit → Shared → Prop} (I : Inv X pins σ H s) (e : H a = some (.ins C dx fs)) (c : Cls X.K C) (n : NoAttr X.K C f) (hl : fs.length < 1000) (ry : RelV y u)
    (h : ∀ s', Inv X pins σ (upd H a (.ins C dx (putF f y fs))) s' → Q () s') : wpAny (model X.prog X.w) A (setAttr (.ref a) f u) Q E s := by
  obtain ⟨mA, O, r, wi, _, ho⟩ := ins_get I.hok e
  have hz : (fs.map (·.1)).length ≤ sizeLine := by rw [List.length_map, sizeLine_eq]; omega
  refine set_map I.kIn O c.sa c.po n.taker c.hd wi hz fun h' O' sb => h _ ?_
  have hd : ∃ o, h'.get? dx = some o := let ⟨o, _, _, e', _⟩ := O'.ns; ⟨o, e'⟩
  refine I.write (x := a) (e := dx) (by rw [e]; exact True.intro) (.inr ho) (fun b q hb z => (sb.2 b hb).trans z) hd ?_
  refine ⟨by rw [upd_ne O.ne]; exact ho, ?_, O.ne, O'.obj, _, O'.ns, fun g => ?_, fun g hg => ?_⟩
  · have := length_putF f y fs; omega
  · show RelO ((putF f y fs).lookup g) (if g = f then some u else mA g)
    rw [lookup_putF]
    by_cases q : g = f
    · rw [if_pos q, if_pos q]; exact ry
    · rw [if_neg q, if_neg q]; exact r g
  · by_cases q : g = f
    · rw [q]; exact (keys_putF f y fs).1
    · refine (keys_putF f y fs).2 g (wi g fun z => hg ?_)
      show (if g = f then some u else mA g) = none
      rw [if_neg q]; exact z

/-- a new instance, tracked, without attributes -/
theorem Inv.made (I : Inv X pins σ H s) : Inv X pins σ (upd (upd H s.heap.objs.size (.own (s.heap.objs.size + 1))) (s.heap.objs.size + 1) (.ins C s.heap.objs.size []))
    { s with heap := (s.heap.push PySem.W.emptyDict).push (PySem.W.instObj C s.heap.objs.size) } := by
  have e1 : (s.heap.push PySem.W.emptyDict).get? s.heap.objs.size = some PySem.W.emptyDict := Heap.get?_push_size s.heap rfl
  have e2 : ((s.heap.push PySem.W.emptyDict).push (PySem.W.instObj C s.heap.objs.size)).get? (s.heap.objs.size + 1) = some (PySem.W.instObj C s.heap.objs.size) := by
    have := Heap.get?_push_size (s.heap.push PySem.W.emptyDict) (o := PySem.W.instObj C s.heap.objs.size) rfl
    rwa [Heap.size_push] at this
  have e3 : (s.heap.push PySem.W.emptyDict).Ns s.heap.objs.size (fun _ => none) := ⟨PySem.W.emptyDict, #[], _, e1, rfl, (fun e he => absurd he (by simp)), fun _ => rfl⟩
  have I1 := I.laid (a := s.heap.objs.size) (o := .own (s.heap.objs.size + 1)) (h' := s.heap.push PySem.W.emptyDict) (t' := s.toks) (fun b u q => Heap.get?_push_of_some _ q) (Nat.le_refl _) ⟨_, e1⟩
  refine I1.laid (a := s.heap.objs.size + 1) (o := .ins C s.heap.objs.size []) (t' := s.toks) (fun b u q => Heap.get?_push_of_some _ q) (Nat.le_of_eq (Heap.size_push _ _)) ?_
  have ne : s.heap.objs.size ≠ s.heap.objs.size + 1 := Nat.ne_of_lt (Nat.lt_succ_self _)
  refine ⟨by rw [upd_ne ne, upd_same], Nat.zero_le _, ne, e2, fun _ => none, (Heap.Ns1.of_empty e3).at fun o q => Heap.get?_push_of_some _ q, fun _ => True.intro, fun y hy => absurd rfl hy⟩

/-- e.f where nothing but the object is asked: through attributeBase (super) and the last hold -/
theorem attr_of {prog : Program} {w : World} {env : Env} {e : Expr} {f : Str} {pos : Pos} {s : Shared} {Q : Value → Shared → Prop} (hb : attributeBase e f env (eval e env) = eval e env)
    (h : wpAny (model prog w) A (eval e env) (fun o s₁ => wpAny (model prog w) A (getAttr o f true) Q E s₁) E s) : wpAny (model prog w) A (eval (.Attribute e f pos) env) Q E s :=
  Attribute_any_ h (by rw [arm_eval_Attribute, hb])
end

/-! ### readings and rules -/
/-- e.f, an attribute of the instance -/
def tFld (K : PySem.W.Frag) (ta : TE) (f : Str) : TE := fun σ H Q => ta σ H fun x H1 => ∃ a C dx fs v, x = .ref a ∧ H1 a = some (.ins C dx fs) ∧ Cls K C ∧ NoAttr K C f ∧ fs.lookup f = some v ∧ Q v H1
/-- e.f, a constant of the class -/
def tCon (K : PySem.W.Frag) (ta : TE) (f : Str) : TE := fun σ H Q => ta σ H fun x H1 => ∃ a C dx fs v u, x = .ref a ∧ H1 a = some (.ins C dx fs) ∧ Cls K C ∧ Con K C f v u ∧ fs.lookup f = none ∧ Q v H1
/-- e.f = value -/
def sFld (K : PySem.W.Frag) (ta tv : TE) (f : Str) : TS := fun D σ H => tv σ H fun y H1 => ta σ H1 fun x H2 => ∃ a C dx fs, x = .ref a ∧ H2 a = some (.ins C dx fs) ∧ Cls K C ∧ NoAttr K C f ∧ fs.length < 1000 ∧
  D.nx σ (upd H2 a (.ins C dx (putF f y fs)))
/-- an augmented operator on two values -/
def InOp (X : Cx) (op : Operator) (rd : V → V → Hp → VK → Prop) : Prop :=
  ∀ (pins : List (Addr × Obj)) (s : Shared) (σ : St) (H : Hp) (x y : V) (u v : Value) (Q : VK), Inv X pins σ H s → RelV x u → RelV y v → rd x y H Q → wpAny (model X.prog X.w) X.A (inplaceOp op u v) (EP X pins σ Q) X.xe s
/-- e.f op= value -/
def sFldAug (K : PySem.W.Frag) (ta tv : TE) (rd : V → V → Hp → VK → Prop) (f : Str) : TS := fun D σ H => ta σ H fun x H1 => ∃ a C dx fs v, x = .ref a ∧ H1 a = some (.ins C dx fs) ∧ Cls K C ∧ NoAttr K C f ∧ fs.lookup f = some v ∧
  tv σ H1 fun y H2 => rd v y H2 fun z H3 => ∃ dx' fs', H3 a = some (.ins C dx' fs') ∧ fs'.length < 1000 ∧ D.nx σ (upd H3 a (.ins C dx' (putF f z fs')))

section
variable {X : Cx} {o e value : Expr} {f : Str} {pos pos' tpos : Pos} {ta tv : TE}
theorem pe_fld (he : PE X e ta) (hb : attributeBase e f X.env (eval e X.env) = eval e X.env) : PE X (.Attribute e f pos) (tFld X.K ta f) := by
  intro pins s σ H Q I h
  refine attr_of hb (thn (he pins s σ H _ I h) fun u s1 ⟨x, H1, I1, rx, a, C, dx, fs, v, ex, ea, c, n, l, q⟩ => ?_)
  subst ex
  obtain rfl : u = Value.ref a := rx
  exact getattr_ok I1 ea c n l fun u' s2 I2 ru => ⟨v, H1, I2, ru, q⟩
theorem pe_con (he : PE X e ta) (hb : attributeBase e f X.env (eval e X.env) = eval e X.env) : PE X (.Attribute e f pos) (tCon X.K ta f) := by
  intro pins s σ H Q I h
  refine attr_of hb (thn (he pins s σ H _ I h) fun u s1 ⟨x, H1, I1, rx, a, C, dx, fs, v, u0, ex, ea, c, k, l, q⟩ => ?_)
  subst ex
  obtain rfl : u = Value.ref a := rx
  exact getcon_ok I1 ea c k l fun s2 I2 => ⟨v, H1, I2, k.rel, q⟩
theorem ps_fld (ha : PE X o ta) (hv : PE X value tv) (hs : swapsWith value (some (.Attribute o f pos')) pos.line X.env = pure false) : PS X (.Assign [.Attribute o f pos'] value pos) (sFld X.K ta tv f) := by
  intro pins s σ H D I h
  refine plainObj_wpAny_Assign_Attribute (thn (hv pins s σ H _ I h) fun u s1 ⟨y, H1, I1, ry, q⟩ => thn (ha pins s1 σ H1 _ I1 q) fun ov s2 ⟨x, H2, I2, rx, a, C, dx, fs, ex, ea, c, n, l, q2⟩ => ?_) hs
  subst ex
  obtain rfl : ov = Value.ref a := rx
  exact setattr_ok I2 ea c n l ry fun s3 I3 => ⟨σ, _, I3, q2⟩
theorem ps_fldaug {op : Operator} {rd : V → V → Hp → VK → Prop} (ha : PE X o ta) (hv : PE X value tv) (hop : InOp X op rd) : PS X (.AugAssign (.Attribute o f tpos) op value pos) (sFldAug X.K ta tv rd f) := by
  intro pins s σ H D I h
  refine wpAny_AugAssign_AttributeAny (thn (ha pins s σ H _ I h) fun ov s1 ⟨x, H1, I1, rx, a, C, dx, fs, v, ex, ea, c, n, l, q⟩ => ?_)
  subst ex
  obtain rfl : ov = Value.ref a := rx
  refine getattr_ok I1 ea c n l fun u s2 I2 ru => thn (hv pins s2 σ H1 _ I2 q) fun w3 s3 ⟨y, H2, I3, ry, q3⟩ => thn (hop pins s3 σ H2 v y u w3 _ I3 ru ry q3) fun w4 s4 ⟨z, H3, I4, rz, dx', fs', ea', l', q4⟩ => ?_
  exact setattr_ok I4 ea' c n l' rz fun s5 I5 => ⟨σ, _, I5, q4⟩
def rAdd : V → V → Hp → VK → Prop := fun x y H Q => ∃ i j, x = .int i ∧ y = .int j ∧ Q (.int (i + j)) H
def rSub : V → V → Hp → VK → Prop := fun x y H Q => ∃ i j, x = .int i ∧ y = .int j ∧ Q (.int (i - j)) H
theorem in_add : InOp X .Add rAdd := by
  rintro pins s σ H x y u v Q I rx ry ⟨i, j, rfl, rfl, q⟩
  obtain ⟨t, rfl⟩ := (show ∃ t, u = Value.int i t from rx)
  obtain ⟨t', rfl⟩ := (show ∃ t', v = Value.int j t' from ry)
  exact PyProof.Rows.iadd_int ⟨.int (i + j), H, I.tok _, ⟨_, rfl⟩, q⟩
theorem in_sub : InOp X .Sub rSub := by
  rintro pins s σ H x y u v Q I rx ry ⟨i, j, rfl, rfl, q⟩
  obtain ⟨t, rfl⟩ := (show ∃ t, u = Value.int i t from rx)
  obtain ⟨t', rfl⟩ := (show ∃ t', v = Value.int j t' from ry)
  exact PyProof.Rows.isub_int ⟨.int (i - j), H, I.tok _, ⟨_, rfl⟩, q⟩

/-- what is between an instance and its method: the tree of a method call -/
theorem methcall_of {pl : Sem Bool} {m : Str} {apos : Pos} {args : List Expr} {pins : List (Addr × Obj)} {s : Shared} {σ : St} {H : Hp} {Q : Value → Shared → Prop} {te : TE} (he : PE X e te) (I : Inv X pins σ H s)
    (h : te σ H fun x H1 => ∃ a C dx fs g, x = .ref a ∧ H1 a = some (.ins C dx fs) ∧ Cls X.K C ∧ Meth X.K C m g ∧ fs.lookup m = none ∧
      ∀ s1, Inv X pins σ H1 s1 → wpAny (model X.prog X.w) X.A (callWith pos (.ref g) [.ref a] (backTo pos (starEach args X.env)) (backToKw pos (keywordEach [] X.env))) Q X.xe s1)
    (ht : eval (.Call (.Attribute e m apos) args [] pos) X.env = (do
      let ov ← eval e X.env
      standAt apos.atName
      let (f, first) ← holding [ov] (getMethod ov m pl)
      callWith pos f first (backTo pos (starEach args X.env)) (backToKw pos (keywordEach [] X.env)))) :
    wpAny (model X.prog X.w) X.A (eval (.Call (.Attribute e m apos) args [] pos) X.env) Q X.xe s := by
  refine PySem.W.methodCall_KW (pl := pl) (thn (he pins s σ H _ I h) fun u s1 ⟨x, H1, I1, rx, a, C, dx, fs, g, ex, ea, c, k, l, q⟩ => ?_) ht
  subst ex
  obtain rfl : u = Value.ref a := rx
  exact getmeth_ok I1 ea c k l (q s1 I1)
end

/-! ### isinstance -/
section
variable {X : Cx} {pins : List (Addr × Obj)} {σ : St} {H : Hp} {s : Shared} {A : Around} {E : Value → Shared → Prop} {Q : Value → Shared → Prop} {c : Value} {b : Bool}
/-- the type of a value, as the fragment's deciders take it; for an instance its class -/
inductive TyOf (K : PySem.W.Frag) (H : Hp) : V → Value → Prop where
  | non : TyOf K H .non (.type "NoneType")
  | bl (x : Bool) : TyOf K H (.bl x) (.type "bool")
  | int (i : Int) : TyOf K H (.int i) (.type "int")
  | str (x : Str) : TyOf K H (.str x) (.type "str")
  | flt (x : UInt64) : TyOf K H (.flt x) (.type "float")
  | lst {a : Addr} {xs : List V} (e : H a = some (.lst xs)) : TyOf K H (.ref a) (.type "list")
  | frz {a : Addr} {o : Obj} {xs : List V} (e : H a = some (.frz o (.lst xs))) : TyOf K H (.ref a) (.type "list")
  | tup {a : Addr} {xs : List V} (e : H a = some (.tup xs)) : TyOf K H (.ref a) (.type "tuple")
  | dK {a : Addr} {kvs : List (Key × V)} (e : H a = some (.dK kvs)) : TyOf K H (.ref a) (.type "dict")
  | dT {a : Addr} {kvs : List (List Key × V)} (e : H a = some (.dT kvs)) : TyOf K H (.ref a) (.type "dict")
  | ins {a C dx : Addr} {fs : List (Str × V)} (e : H a = some (.ins C dx fs)) (cl : Cls K C) (ha : PySem.W.findIn K (.ref C) "__class__" = some (some (.builtin "object.__class__")))
      (hn : PySem.W.specialIn K (.builtin "object.__class__") "__get__" = some (some (.builtin "getset_descriptor.__get__"))) (htk : PySem.W.takesIn K (.builtin "object.__class__") = some true)
      (hm : PySem.W.mroIn K C (.type "object") = some true) : TyOf K H (.ref a) (.ref C)
/-- isinstance(x, c) for one class c, a built-in or an own one: kitOne's answer -/
theorem isinst_ok {x : V} {u t : Value} (I : Inv X pins σ H s) (rx : RelV x u) (ty : TyOf X.K H x t) (e : PySem.W.kitOne X.K t c = some b) (h : ∀ tk, Q (.bool b) { s with toks := tk }) :
    wpAny (model X.prog X.w) A (call (.builtin "isinstance") [u, c]) Q E s := by
  cases ty with
  | non => cases (show u = Value.none from rx); exact PySem.W.kia_one PySem.W.kitx_none I.kIn True.intro e (fun z => nomatch z) h
  | bl y => cases (show u = Value.bool y from rx); exact PySem.W.kia_one PySem.W.kitx_bool I.kIn True.intro e (fun z => nomatch z) h
  | int i => obtain ⟨t, q⟩ := (show ∃ t, u = Value.int i t from rx); cases q; exact PySem.W.kia_one PySem.W.kitx_int I.kIn True.intro e (fun z => nomatch z) h
  | str y => obtain ⟨t, q⟩ := (show ∃ t, u = Value.str y t from rx); cases q; exact PySem.W.kia_one PySem.W.kitx_str I.kIn True.intro e (fun z => nomatch z) h
  | flt y => obtain ⟨t, q⟩ := (show ∃ t, u = Value.float y t from rx); cases q; exact PySem.W.kia_one PySem.W.kitx_float I.kIn True.intro e (fun z => nomatch z) h
  | @lst a xs ea =>
    cases (show u = Value.ref a from rx)
    obtain ⟨_, _, n, _, h1⟩ := (show ObjOk X.prog X.w H s.heap a (.lst xs) from I.hok a _ ea)
    exact PySem.W.kia_one PySem.W.kitx_list I.kIn ⟨_, h1, rfl⟩ e (fun z => nomatch z) h
  | @frz a ob xs ea =>
    cases (show u = Value.ref a from rx)
    obtain ⟨_, _, _, n, _, h1⟩ := (show ObjOk X.prog X.w H s.heap a (.frz ob (.lst xs)) from I.hok a _ ea)
    exact PySem.W.kia_one PySem.W.kitx_list I.kIn ⟨_, h1, rfl⟩ e (fun z => nomatch z) h
  | @tup a xs ea =>
    cases (show u = Value.ref a from rx)
    obtain ⟨_, _, _, p⟩ := (show ObjOk X.prog X.w H s.heap a (.tup xs) from I.hok a _ ea)
    obtain ⟨o, h1, h2, _⟩ := p
    exact PySem.W.kia_one PySem.W.kitx_tuple I.kIn ⟨o, h1, h2⟩ e (fun z => nomatch z) h
  | @dK a kvs ea =>
    cases (show u = Value.ref a from rx)
    obtain ⟨_, _, vs, _, p⟩ := (show ObjOk X.prog X.w H s.heap a (.dK kvs) from I.hok a _ ea)
    obtain ⟨o, es, ep, h1, h2, _⟩ := p
    exact PySem.W.kia_one PySem.W.kitx_dict I.kIn ⟨o, h1, h2.1⟩ e (fun z => nomatch z) h
  | @dT a kvs ea =>
    cases (show u = Value.ref a from rx)
    obtain ⟨_, _, xs, _, o, es, ep, h1, h2, _⟩ := (show ObjOk X.prog X.w H s.heap a (.dT kvs) from I.hok a _ ea)
    exact PySem.W.kia_one PySem.W.kitx_dict I.kIn ⟨o, h1, h2.1⟩ e (fun z => nomatch z) h
  | @ins a C dx fs ea cl ha hn htk hm =>
    cases (show u = Value.ref a from rx)
    obtain ⟨mA, O, _⟩ := ins_get I.hok ea
    obtain ⟨od, J, _⟩ := O.look
    exact PySem.W.kia_one (PySem.W.kitx_own (cl.get _) cl.hd ha hn htk hm) I.kIn J e (fun z => nomatch z) h
end
end L2

namespace L2
open PySem PySem.Spec PyProof.Rows

/-! ### room -/
structure Room (k : Nat) (A : Around) : Prop where
  hd : A.handled = none
  dp : A.depth + 3 * k + 5 < recursionLimit
  un : A.units + 16 * k + 200 < cLine
theorem Room.mono {j k : Nat} {A : Around} (r : Room k A) (h : j ≤ k) : Room j A := ⟨r.hd, by have := r.dp; omega, by have := r.un; omega⟩
theorem Room.deeper {k : Nat} {A : Around} (r : Room (k + 1) A) (env : Env) : Room k (A.deeper env) :=
  ⟨r.hd, by have := r.dp; show A.depth + 1 + 3 * k + 5 < _; omega, by have := r.un; show A.units + 3 + 16 * k + 200 < _; omega⟩
theorem Room.in1 {k : Nat} {A : Around} (r : Room (k + 1) A) : Room k A.in1 :=
  ⟨r.hd, by have := r.dp; show A.depth + 3 * k + 5 < _; omega, by have := r.un; show A.units + 1 + 16 * k + 200 < _; omega⟩
theorem make_depth {A : Around} {C : Addr} {us : List Value} {kw : List (Str × Value)} : (A.under (.builtin "type.__call__" ⟨.ref C :: us, kw⟩)).depth = A.depth + 1 := by
  first | rfl | simp [Around.under, Code.weight, Code.isCreation, Code.isGuard, Code.isCaller, Code.frames, Code.isFrame, guardIds]
theorem make_units {A : Around} {C : Addr} {us : List Value} {kw : List (Str × Value)} : (A.under (.builtin "type.__call__" ⟨.ref C :: us, kw⟩)).units = A.units + 1 := by
  first | rfl | simp [Around.under, Code.cUnits, Code.frames, Code.isFrame]
theorem Room.make {k : Nat} {A : Around} (r : Room (k + 1) A) (C : Addr) (us : List Value) (kw : List (Str × Value)) : Room k (A.under (.builtin "type.__call__" ⟨.ref C :: us, kw⟩)) :=
  ⟨r.hd, by have := r.dp; rw [make_depth]; omega, by have := r.un; rw [make_units]; omega⟩
theorem Room.depth {k : Nat} {A : Around} (r : Room k A) : A.depth < recursionLimit := by have := r.dp; omega
theorem Room.units {k : Nat} {A : Around} (r : Room k A) : A.units + 64 < cLine := by have := r.un; omega
theorem Room.units0 {k : Nat} {A : Around} (r : Room k A) : A.units < cLine := by have := r.un; omega

/-! ### argument lists and displays -/
def tNil : TA := fun _ H Q => Q [] H
def tCons (ta : TE) (tr : TA) : TA := fun σ H Q => ta σ H fun x H1 => tr σ H1 fun xs H2 => Q (x :: xs) H2
section
variable {X : Cx} {e : Expr} {es : List Expr} {te : TE} {t : TA} {pos : Pos}
theorem pa_nil : PA X [] tNil := fun _ _ _ _ H Q I h => Calls.spliced_nil ⟨[], H, I, .nil, h⟩
theorem pa_cons (ha : PE X e te) (hr : PA X es t) (hs : starEach (e :: es) X.env = (false, eval e X.env) :: starEach es X.env := by rfl) : PA X (e :: es) (tCons te t) := by
  intro pos pins s σ H Q I h
  rw [hs]
  show wpAny _ _ (spliced ((false, eval e X.env) :: backTo pos (starEach es X.env))) _ _ s
  refine Calls.spliced_cons (thn (ha pins s σ H _ I h) fun u s1 ⟨x, H1, I1, r1, q1⟩ => ?_)
  exact thn (hr pos pins s1 σ H1 _ I1 q1) fun us s2 ⟨xs, H2, I2, r2, q2⟩ => ⟨x :: xs, H2, I2, .cons r1 r2, q2⟩

/-- a tuple, a list of written items -/
def tTup (t : TA) : TE := fun σ H Q => t σ H fun xs H1 => xs.length ≤ sizeLine ∧ ∀ p, H1 p = none → Q (.ref p) (upd H1 p (.tup xs))
def tLst (t : TA) : TE := fun σ H Q => t σ H fun xs H1 => xs.length ≤ sizeLine ∧ ∀ p, H1 p = none → Q (.ref p) (upd H1 p (.lst xs))
theorem pe_tup {x1} (h : PA X es t) : PE X (.Tuple es x1 pos) (tTup t) := by
  intro pins s σ H Q I hq
  refine wpAny_Tuple_spliced (thn (h pos pins s σ H _ I hq) fun us s1 ⟨xs, H1, I1, r, z, q⟩ => ⟨by rw [← r.length]; exact z, ?_⟩)
  have hf : H1 s1.heap.objs.size = none := I1.hok.fresh (Nat.le_refl _)
  refine ⟨.ref s1.heap.objs.size, upd H1 s1.heap.objs.size (.tup xs), I1.laid (t' := s1.toks) (fun b u e => Heap.get?_push_of_some _ e) (Nat.le_refl _) ?_, rfl, q _ hf⟩
  exact ⟨z, us, r, ⟨_, Heap.get?_push_size _ rfl, rfl, _, rfl⟩⟩
theorem pe_lst (h : PA X es t) : PE X (.List es pos) (tLst t) := by
  intro pins s σ H Q I hq
  refine wpAny_List_spliced (thn (h pos pins s σ H _ I hq) fun us s1 ⟨xs, H1, I1, r, z, q⟩ => ⟨by rw [← r.length]; exact z, ?_⟩)
  have hf : H1 s1.heap.objs.size = none := I1.hok.fresh (Nat.le_refl _)
  refine ⟨.ref s1.heap.objs.size, upd H1 s1.heap.objs.size (.lst xs), I1.laid (t' := s1.toks) (fun b u e => Heap.get?_push_of_some _ e) (Nat.le_refl _) ?_, rfl, q _ hf⟩
  exact ⟨z, us, 0, r, Heap.get?_push_size _ rfl⟩
end

/-! ### what a def promises -/
/-- a def's promise: the bound arguments in the parameters' order, the heap, the wanted end, the wanted exception -/
abbrev Sp := List V → Hp → VK → XK → Prop
/-- how an exception lies behind a call (file 08 gives it): the callers' frames, abstract heap and state ahead of the call, the wish, the exception, the state -/
abbrev CXT := List Env → Hp → Shared → XK → Value → Shared → Prop

/-- the state at a call -/
structure Env0 (P : Program) (w : World) (K : PySem.W.Frag) (mg : Str → Option Value) (base : Heap) (A : Around) (outer : List Env) (s : Shared) (H : Hp) : Prop where
  frames : A.frames = some outer
  mod : Mod K mg base
  bs : ∀ b o, base.get? b = some o → s.heap.get? b = some o ∧ H b = none
  bsz : base.objs.size ≤ s.heap.objs.size
  funs : s.heap.FunFrames base outer
  frf : ∀ b ∈ frs outer, H b = none
  hok : HOk P w H s.heap
  bare : AllBare s.gens
/-- a call's end -/
def CE (outer : List Env) (P : Program) (w : World) (H : Hp) (s : Shared) (Q : VK) (u : Value) (s' : Shared) : Prop :=
  ∃ v H', s'.os = s.os ∧ AllBare s'.gens ∧ Un (frs outer) [] H H' s.heap s'.heap ∧ HOk P w H' s'.heap ∧ RelV v u ∧ Q v H'
def CR (CX : CXT) (outer : List Env) (P : Program) (w : World) (H : Hp) (s : Shared) (Q : VK) (E : XK) (r : Result) (s' : Shared) : Prop :=
  match r with
  | .ok (.ret u) => CE outer P w H s Q u s'
  | .ok _ => False
  | .error e => CX outer H s E e s'
structure FnOk (P : Program) (w : World) (K : PySem.W.Frag) (mg : Str → Option Value) (base : Heap) (CX : CXT) (k : Nat) (f : Addr) (fd : FuncData) (ps : List Str) (sp : Sp) : Prop where
  len : ∀ vs H Q E, sp vs H Q E → vs.length = ps.length
  run : ∀ (A : Around) (outer : List Env) (s : Shared) (H : Hp) (args : Args) (us : List Value) (vs : List V) (Q : VK) (E : XK), Room k A → Env0 P w K mg base A outer s H → BindsTo s fd args (ps.zip us) → Vals vs us → sp vs H Q E →
    codeAny (model P w) A (.call (.ref f) args) (CR CX outer P w H s Q E) s
theorem FnOk.mono {P : Program} {w : World} {K : PySem.W.Frag} {mg : Str → Option Value} {base : Heap} {CX : CXT} {j k : Nat} {f : Addr} {fd : FuncData} {ps : List Str} {sp : Sp} (F : FnOk P w K mg base CX j f fd ps sp) (h : j ≤ k) :
    FnOk P w K mg base CX k f fd ps sp := ⟨F.len, fun A outer s H args us vs Q E hr => F.run A outer s H args us vs Q E (hr.mono h)⟩
/-- a weaker promise -/
theorem FnOk.imp {P : Program} {w : World} {K : PySem.W.Frag} {mg : Str → Option Value} {base : Heap} {CX : CXT} {k : Nat} {f : Addr} {fd : FuncData} {ps : List Str} {sp sp' : Sp} (F : FnOk P w K mg base CX k f fd ps sp)
    (h : ∀ vs H Q E, sp' vs H Q E → sp vs H Q E) : FnOk P w K mg base CX k f fd ps sp' :=
  ⟨fun vs H Q E q => F.len vs H Q E (h _ _ _ _ q), fun A outer s H args us vs Q E hr he hb hv hs => F.run A outer s H args us vs Q E hr he hb hv (h _ _ _ _ hs)⟩

theorem Env0.make {P : Program} {w : World} {K : PySem.W.Frag} {mg : Str → Option Value} {base : Heap} {A : Around} {outer : List Env} {s : Shared} {H : Hp} (e : Env0 P w K mg base A outer s H) (C : Addr) (us : List Value) (kw : List (Str × Value)) :
    Env0 P w K mg base (A.under (.builtin "type.__call__" ⟨.ref C :: us, kw⟩)) outer s H := ⟨by first | exact e.frames | (simpa [Around.under, Code.envs, Code.isFrame, pushEnvs] using e.frames), e.mod, e.bs, e.bsz, e.funs, e.frf, e.hok, e.bare⟩
theorem Env0.in1 {P : Program} {w : World} {K : PySem.W.Frag} {mg : Str → Option Value} {base : Heap} {A : Around} {outer : List Env} {s : Shared} {H : Hp} (e : Env0 P w K mg base A outer s H) :
    Env0 P w K mg base A.in1 outer s H := ⟨e.frames, e.mod, e.bs, e.bsz, e.funs, e.frf, e.hok, e.bare⟩

section
variable {X : Cx} {pins : List (Addr × Obj)} {σ : St} {H : Hp} {s s' : Shared}
/-- from a body: what a callee wants -/
theorem Inv.env0 (I : Inv X pins σ H s) : Env0 X.prog X.w X.K X.mg X.base X.A X.stack s H :=
  ⟨I.ok.frames, I.ok.mod, I.bs, Nat.le_trans I.ok.bsz I.sz, I.stack, I.stkFree, I.hok, I.bare⟩
/-- behind a call -/
theorem Inv.after {Q : VK} {u : Value} (I : Inv X pins σ H s) (h : CE X.stack X.prog X.w H s Q u s') : EP X pins σ Q u s' := by
  obtain ⟨v, H', os, bare, un, hok, r, q⟩ := h
  obtain ⟨hh, g, d, t, os'⟩ := s'
  obtain rfl : os' = s.os := os
  exact ⟨v, H', I.call (h' := hh) (g' := g) (d' := d) (t' := t) (ch := []) un hok bare (fun b z => absurd z (by simp)), r, q⟩
end

/-! ### calls -/
/-- f(..): the written arguments, then the defaults dvs; E: what is wanted of an exception -/
def tCall (sp : Sp) (dvs : List V) (E : XK) (t : TA) : TE := fun σ H Q => t σ H fun vs H1 => sp (vs ++ dvs) H1 Q E
/-- o.m(..) of an instance of the class at C -/
def tMeth (C : Addr) (m : Str) (sp : Sp) (dvs : List V) (E : XK) (ta : TE) (t : TA) : TE := fun σ H Q => ta σ H fun x H1 => ∃ a dx fs, x = .ref a ∧ H1 a = some (.ins C dx fs) ∧ fs.lookup m = none ∧
  t σ H1 fun vs H2 => sp (x :: (vs ++ dvs)) H2 Q E
/-- C(..): a new instance and its dict, then __init__ -/
def tMake (C : Addr) (sp : Sp) (dvs : List V) (E : XK) (t : TA) : TE := fun σ H Q => t σ H fun vs H1 => ∀ x dx, H1 x = none → H1 dx = none → dx ≠ x →
  sp (.ref x :: (vs ++ dvs)) (upd (upd H1 dx (.own x)) x (.ins C dx [])) (fun v H2 => v = .non ∧ Q (.ref x) H2) E

/-- how the parameters are bound: us the positional arguments, kw the keywords' values by name, ds the defaults that fill up -/
def Binds (K : PySem.W.Frag) (fd : FuncData) (ps : List Str) (ds : List Value) : Prop :=
  ∀ (s : Shared) (us : List Value), K.In s.heap → (us ++ ds).length = ps.length → BindsTo s fd ⟨us, []⟩ (ps.zip (us ++ ds))
/-- every parameter is given -/
theorem Binds.all {K : PySem.W.Frag} {fd : FuncData} {ps : List Str} (h : ∀ us : List Value, us.length = ps.length → bindArgs fd ⟨us, []⟩ = pure (ps.zip us)) : Binds K fd ps [] := fun s us _ hl => by
  rw [List.append_nil] at hl ⊢
  exact .of_eq (h us hl)

/-- an exception of a callee reaches what this body wants of exceptions -/
def Passes (CX : CXT) (X : Cx) (E : XK) : Prop := ∀ (pins : List (Addr × Obj)) (σ : St) (H : Hp) (s : Shared) (e : Value) (s' : Shared), Inv X pins σ H s → CX X.stack H s E e s' → X.xe e s'

section
variable {X : Cx} {CX : CXT} {k : Nat} {f C : Addr} {fd : FuncData} {ps : List Str} {sp : Sp} {dvs : List V} {ds : List Value} {E : XK} {x m : Str} {p pos apos : Pos} {e o : Expr} {es : List Expr} {ta : TE} {t : TA}

/-- the callee runs -/
theorem run_fn {pins : List (Addr × Obj)} {σ : St} {H : Hp} {s : Shared} {Q : VK} {us : List Value} {vs : List V} (F : FnOk X.prog X.w X.K X.mg X.base CX k f fd ps sp) (hr : Room k X.A) (hb : Binds X.K fd ps ds) (hd : Vals dvs ds) (hx : Passes CX X E)
    (I : Inv X pins σ H s) (r : Vals vs us) (h : sp (vs ++ dvs) H Q E) : wpAny (model X.prog X.w) X.A (call (.ref f) us) (EP X pins σ Q) X.xe s := by
  have r2 : Vals (vs ++ dvs) (us ++ ds) := r.append hd
  have hl : (us ++ ds).length = ps.length := by rw [← r2.length]; exact F.len _ _ _ _ h
  refine wpAny_call (codeAny_mono (F.run X.A X.stack s H ⟨us, []⟩ (us ++ ds) (vs ++ dvs) Q E hr I.env0 (hb s us I.kIn hl) r2 h) fun r s' hq => ?_)
  cases r with
  | error e => exact hx pins σ H s e s' I hq
  | ok fl =>
    cases fl with
    | ret u => exact I.after hq
    | next => exact False.elim hq
    | brk => exact False.elim hq
    | cont => exact False.elim hq

theorem pe_call (F : FnOk X.prog X.w X.K X.mg X.base CX k f fd ps sp) (hr : Room k X.A) (hg : Gl X x) (hm : X.mg x = some (.ref f)) (hk : PySem.W.keepIn X.K (.ref f) = true) (hb : Binds X.K fd ps ds) (hd : Vals dvs ds) (hx : Passes CX X E)
    (ha : PA X (e :: es) t) (hdb : (x == ("__debug__" : Str)) = false := by decide) (he : starEach (e :: es) X.env = (false, eval e X.env) :: starEach es X.env := by rfl) (hpl : (backTo pos (starEach es X.env)).any (·.1) = false := by rfl) :
    PE X (.Call (.Name x p) (e :: es) [] pos) (tCall sp dvs E t) := by
  intro pins s σ H Q I h
  refine wpAny_Call_Name_kw (ld_glob I hg hm ?_ hdb)
  refine PySem.W.callWith_K (h₀ := X.base) I.ok.mod.kin hk (thn (ha pos pins s σ H _ I h) fun us s1 ⟨vs, H1, I1, r, q⟩ => ⟨I1.kIn, ?_⟩) he hpl
  exact run_fn F hr hb hd hx I1 r q
theorem pe_call0 (F : FnOk X.prog X.w X.K X.mg X.base CX k f fd ps sp) (hr : Room k X.A) (hg : Gl X x) (hm : X.mg x = some (.ref f)) (hk : PySem.W.keepIn X.K (.ref f) = true) (hb : Binds X.K fd ps ds) (hd : Vals dvs ds) (hx : Passes CX X E)
    (hdb : (x == ("__debug__" : Str)) = false := by decide) : PE X (.Call (.Name x p) [] [] pos) (tCall sp dvs E tNil) := by
  intro pins s σ H Q I h
  refine wpAny_Call_Name_kw (ld_glob I hg hm ?_ hdb)
  exact PySem.W.callWith_K0 I.kIn hk (run_fn (us := []) F hr hb hd hx I .nil h)

/-- o.m(e, ..) -/
theorem pe_meth {pl : Sem Bool} (he : PE X o ta) (c : Cls X.K C) (hm : Meth X.K C m f) (F : FnOk X.prog X.w X.K X.mg X.base CX k f fd ps sp) (hr : Room k X.A) (hb : Binds X.K fd ps ds) (hd : Vals dvs ds) (hx : Passes CX X E) (ha : PA X (e :: es) t)
    (hst : starEach (e :: es) X.env = (false, eval e X.env) :: starEach es X.env := by rfl) (hpl : (backTo pos (starEach es X.env)).any (·.1) = false := by rfl)
    (ht : eval (.Call (.Attribute o m apos) (e :: es) [] pos) X.env = (do
      let ov ← eval o X.env
      standAt apos.atName
      let (f, first) ← holding [ov] (getMethod ov m pl)
      callWith pos f first (backTo pos (starEach (e :: es) X.env)) (backToKw pos (keywordEach [] X.env))) := by rfl) :
    PE X (.Call (.Attribute o m apos) (e :: es) [] pos) (tMeth C m sp dvs E ta t) := by
  intro pins s σ H Q I h
  refine PySem.W.methodCall_KW (pl := pl) (thn (he pins s σ H _ I h) fun u s1 ⟨x, H1, I1, rx, a, dx, fs, ex, ea, l, q⟩ => ?_) ht
  subst ex
  obtain rfl : u = Value.ref a := rx
  refine getmeth_ok I1 ea c hm l ?_
  refine PySem.W.callWith_K (first := [.ref a]) (h₀ := X.base) I.ok.mod.kin hm.kp (thn (ha pos pins s1 σ H1 _ I1 q) fun us s2 ⟨vs, H2, I2, r, q2⟩ => ⟨I2.kIn, ?_⟩) hst hpl
  exact run_fn (us := .ref a :: us) (vs := .ref a :: vs) F hr hb hd hx I2 (.cons rfl r) q2
/-- o.m() -/
theorem pe_meth0 {pl : Sem Bool} (he : PE X o ta) (c : Cls X.K C) (hm : Meth X.K C m f) (F : FnOk X.prog X.w X.K X.mg X.base CX k f fd ps sp) (hr : Room k X.A) (hb : Binds X.K fd ps ds) (hd : Vals dvs ds) (hx : Passes CX X E)
    (ht : eval (.Call (.Attribute o m apos) [] [] pos) X.env = (do
      let ov ← eval o X.env
      standAt apos.atName
      let (f, first) ← holding [ov] (getMethod ov m pl)
      callWith pos f first (backTo pos (starEach [] X.env)) (backToKw pos (keywordEach [] X.env))) := by rfl) :
    PE X (.Call (.Attribute o m apos) [] [] pos) (tMeth C m sp dvs E ta tNil) := by
  intro pins s σ H Q I h
  refine PySem.W.methodCall_KW (pl := pl) (thn (he pins s σ H _ I h) fun u s1 ⟨x, H1, I1, rx, a, dx, fs, ex, ea, l, q⟩ => ?_) ht
  subst ex
  obtain rfl : u = Value.ref a := rx
  refine getmeth_ok I1 ea c hm l ?_
  exact PySem.W.callWith_K0 (first := [.ref a]) I1.kIn hm.kp (run_fn (us := [.ref a]) (vs := [.ref a]) F hr hb hd hx I1 (.cons rfl .nil) q)

/-- what a class must have to be made -/
structure Mk (K : PySem.W.Frag) (C f : Addr) : Prop where
  makes : PySem.W.makesIn K C = true
  init : PySem.W.findIn K (.ref C) "__init__" = some (some (.ref f))
  fn : PySem.W.isFn K (.ref f) = true
  kp : PySem.W.keepIn K (.ref C) = true

theorem run_make {pins : List (Addr × Obj)} {σ : St} {H : Hp} {s : Shared} {Q : VK} {us : List Value} {vs : List V} (M : Mk X.K C f) (F : FnOk X.prog X.w X.K X.mg X.base CX k f fd ps sp) (hr : Room (k + 1) X.A) (hb : Binds X.K fd ps ds) (hd : Vals dvs ds)
    (hx : Passes CX X E) (I : Inv X pins σ H s) (r : Vals vs us)
    (h : ∀ x dx, H x = none → H dx = none → dx ≠ x → sp (.ref x :: (vs ++ dvs)) (upd (upd H dx (.own x)) x (.ins C dx [])) (fun v H2 => v = .non ∧ Q (.ref x) H2) E) :
    wpAny (model X.prog X.w) X.A (call (.ref C) us) (EP X pins σ Q) X.xe s := by
  have hq := h (s.heap.objs.size + 1) s.heap.objs.size (I.hok.fresh (Nat.le_succ _)) (I.hok.fresh (Nat.le_refl _)) (Nat.ne_of_lt (Nat.lt_succ_self _))
  have I2 := Inv.made (C := C) I
  have r2 : Vals (V.ref (s.heap.objs.size + 1) :: (vs ++ dvs)) (Value.ref (s.heap.objs.size + 1) :: (us ++ ds)) := .cons rfl (r.append hd)
  have hl : (Value.ref (s.heap.objs.size + 1) :: us ++ ds).length = ps.length := by
    have e := r2.length
    rw [F.len _ _ _ _ hq] at e
    exact e.symm
  refine wpAny_call (make_map (f := f) I.kIn M.makes M.init (beq_iff_eq.mp M.fn) (codeAny_mono (F.run _ X.stack _ _ ⟨Value.ref (s.heap.objs.size + 1) :: us, []⟩ (Value.ref (s.heap.objs.size + 1) :: (us ++ ds)) _ _ E (hr.make C us [])
    (I2.env0.make C us []) (hb _ (Value.ref (s.heap.objs.size + 1) :: us) I2.kIn hl) r2 hq) fun r s' hq' => ?_))
  cases r with
  | error e => exact hx pins σ _ _ e s' I2 hq'
  | ok fl =>
    cases fl with
    | ret u =>
      obtain ⟨v, H', I3, rv, ev, q3⟩ := I2.after hq'
      subst ev
      exact ⟨rv, ⟨V.ref (s.heap.objs.size + 1), H', I3, rfl, q3⟩⟩
    | next => exact False.elim hq'
    | brk => exact False.elim hq'
    | cont => exact False.elim hq'
theorem pe_make (M : Mk X.K C f) (F : FnOk X.prog X.w X.K X.mg X.base CX k f fd ps sp) (hr : Room (k + 1) X.A) (hg : Gl X x) (hm : X.mg x = some (.ref C)) (hb : Binds X.K fd ps ds) (hd : Vals dvs ds) (hx : Passes CX X E)
    (ha : PA X (e :: es) t) (hdb : (x == ("__debug__" : Str)) = false := by decide) (he : starEach (e :: es) X.env = (false, eval e X.env) :: starEach es X.env := by rfl) (hpl : (backTo pos (starEach es X.env)).any (·.1) = false := by rfl) :
    PE X (.Call (.Name x p) (e :: es) [] pos) (tMake C sp dvs E t) := by
  intro pins s σ H Q I h
  refine wpAny_Call_Name_kw (ld_glob I hg hm ?_ hdb)
  refine PySem.W.callWith_K (h₀ := X.base) I.ok.mod.kin M.kp (thn (ha pos pins s σ H _ I h) fun us s1 ⟨vs, H1, I1, r, q⟩ => ⟨I1.kIn, ?_⟩) he hpl
  exact run_make M F hr hb hd hx I1 r q
theorem pe_make0 (M : Mk X.K C f) (F : FnOk X.prog X.w X.K X.mg X.base CX k f fd ps sp) (hr : Room (k + 1) X.A) (hg : Gl X x) (hm : X.mg x = some (.ref C)) (hb : Binds X.K fd ps ds) (hd : Vals dvs ds) (hx : Passes CX X E)
    (hdb : (x == ("__debug__" : Str)) = false := by decide) : PE X (.Call (.Name x p) [] [] pos) (tMake C sp dvs E tNil) := by
  intro pins s σ H Q I h
  refine wpAny_Call_Name_kw (ld_glob I hg hm ?_ hdb)
  exact PySem.W.callWith_K0 I.kIn M.kp (run_make (us := []) M F hr hb hd hx I .nil h)
end

/-! ### keywords -/
/-- the values of the keywords, from the left -/
def PK (X : Cx) (kws : List Keyword) (t : TA) : Prop :=
  ∀ (pos : Pos) (pins : List (Addr × Obj)) (s : Shared) (σ : St) (H : Hp) (Q : List V → Hp → Prop), Inv X pins σ H s → t σ H Q → wpAny (model X.prog X.w) X.A (evalAll ((backToKw pos (keywordEach kws X.env)).map (·.2))) (AP X pins σ Q) X.xe s
section
variable {X : Cx} {CX : CXT} {k : Nat} {f C : Addr} {fd : FuncData} {ps ks : List Str} {sp : Sp} {E : XK} {x m : Str} {p pos apos kpos : Pos} {e o : Expr} {es : List Expr} {kws : List Keyword} {te ta : TE} {t tk : TA} {nm : Option Str}
theorem pk_nil : PK X [] tNil := fun _ _ _ _ H Q I h => wpAny_evalAll_nil ⟨[], H, I, .nil, h⟩
theorem pk_cons (ha : PE X e te) (hr : PK X kws t) : PK X (⟨nm, e, kpos⟩ :: kws) (tCons te t) := by
  intro pos pins s σ H Q I h
  show wpAny _ _ (evalAll ((do let v ← eval e X.env; standAt pos; pure v) :: (backToKw pos (keywordEach kws X.env)).map (·.2))) _ _ s
  refine wpAny_evalAll_cons (wpAny_bind (thn (ha pins s σ H _ I h) fun u s1 ⟨x, H1, I1, r1, q1⟩ => wpAny_bind (wpAny_standAt (wpAny_pure ?_))))
  exact thn (hr pos pins s1 σ H1 _ I1 q1) fun us s2 ⟨xs, H2, I2, r2, q2⟩ => ⟨x :: xs, H2, I2, .cons r1 r2, q2⟩

/-- how a call with keywords binds: g puts the positional values us and the keywords' values ws (names ks) in the parameters' order, defaults among them -/
structure KBinds (K : PySem.W.Frag) (fd : FuncData) (ps ks : List Str) (g : List Value → List Value → List Value) (gV : List V → List V → List V) : Prop where
  to : ∀ (s : Shared) (us ws : List Value), K.In s.heap → (g us ws).length = ps.length → BindsTo s fd ⟨us, ks.zip ws⟩ (ps.zip (g us ws))
  rel : ∀ {vs : List V} {us : List Value} {zs : List V} {ws : List Value}, Vals vs us → Vals zs ws → Vals (gV vs zs) (g us ws)
def tCallK (sp : Sp) (gV : List V → List V → List V) (E : XK) (t tk : TA) : TE := fun σ H Q => t σ H fun vs H1 => tk σ H1 fun zs H2 => sp (gV vs zs) H2 Q E
variable {g : List Value → List Value → List Value} {gV : List V → List V → List V}
theorem run_fnk {pins : List (Addr × Obj)} {σ : St} {H : Hp} {s : Shared} {Q : VK} {us ws : List Value} {vs zs : List V} (F : FnOk X.prog X.w X.K X.mg X.base CX k f fd ps sp) (hr : Room k X.A) (hb : KBinds X.K fd ps ks g gV) (hx : Passes CX X E)
    (I : Inv X pins σ H s) (r : Vals vs us) (rz : Vals zs ws) (h : sp (gV vs zs) H Q E) : wpAny (model X.prog X.w) X.A (call (.ref f) us (ks.zip ws)) (EP X pins σ Q) X.xe s := by
  have r2 := hb.rel r rz
  have hl : (g us ws).length = ps.length := by rw [← r2.length]; exact F.len _ _ _ _ h
  refine wpAny_call (codeAny_mono (F.run X.A X.stack s H ⟨us, ks.zip ws⟩ (g us ws) (gV vs zs) Q E hr I.env0 (hb.to s us ws I.kIn hl) r2 h) fun r s' hq => ?_)
  cases r with
  | error e => exact hx pins σ H s e s' I hq
  | ok fl =>
    cases fl with
    | ret u => exact I.after hq
    | next => exact False.elim hq
    | brk => exact False.elim hq
    | cont => exact False.elim hq
/-- f(e, .., k = v, ..) -/
theorem pe_callK (F : FnOk X.prog X.w X.K X.mg X.base CX k f fd ps sp) (hr : Room k X.A) (hg : Gl X x) (hm : X.mg x = some (.ref f)) (hk : PySem.W.keepIn X.K (.ref f) = true) (hb : KBinds X.K fd ps ks g gV) (hx : Passes CX X E)
    (ha : PA X (e :: es) t) (hkw : PK X kws tk) (hall : (backToKw pos (keywordEach kws X.env)).all (·.1.isSome) = true := by rfl) (hks : (backToKw pos (keywordEach kws X.env)).filterMap (·.1) = ks := by rfl)
    (hdb : (x == ("__debug__" : Str)) = false := by decide) (he : starEach (e :: es) X.env = (false, eval e X.env) :: starEach es X.env := by rfl)
    (hpl : ((backTo pos (starEach (e :: es) X.env)).any (·.1) || (backToKw pos (keywordEach kws X.env)).any (·.1.isNone)) = false := by rfl) :
    PE X (.Call (.Name x p) (e :: es) kws pos) (tCallK sp gV E t tk) := by
  intro pins s σ H Q I h
  refine wpAny_Call_Name_kw (ld_glob I hg hm ?_ hdb)
  refine PySem.W.callWith_KW (h₀ := X.base) I.ok.mod.kin hk hall (thn (ha pos pins s σ H _ I h) fun us s1 ⟨vs, H1, I1, r, q⟩ => ?_) hpl he
  refine thn (hkw pos pins s1 σ H1 _ I1 q) fun ws s2 ⟨zs, H2, I2, rz, q2⟩ => ⟨I2.kIn, ?_⟩
  rw [hks]
  exact run_fnk F hr hb hx I2 r rz q2
end

/-! ### a def's body keeps its promise -/
/-- names: the parameters first -/
structure FnScope (N P : List Str) (sc : Scope) : Prop where
  kind : sc.kind = .function
  co : sc.isCoroutine = false
  gen : sc.isGenerator = false
  nd : N.Nodup
  pre : N.take P.length = P
  par : ∀ x ∈ P, sc.names.lookup x = some .local ∨ sc.names.lookup x = some .cell
  nofree : ∀ y ∈ sc.names, y.2 ≠ .free

theorem bindL_out {kindOf : Str → Option NameKind} {x : Str} : ∀ {binds : List (Str × Value)} {m : Str → Option Value}, (∀ v, (x, v) ∉ binds) → bindL kindOf binds m x = m x
  | [], _, _ => rfl
  | (n, v) :: r, m, h => by
    unfold bindL
    rw [bindL_out fun w hw => h w (List.mem_cons_of_mem _ hw)]
    split
    · have : x ≠ n := by rintro rfl; exact h v List.mem_cons_self
      simp [this]
    · rfl
theorem bindC_out {kindOf : Str → Option NameKind} {x : Str} : ∀ {binds : List (Str × Value)} {m : Str → Option Value}, (∀ v, (x, v) ∉ binds) → bindC kindOf binds m x = m x
  | [], _, _ => rfl
  | (n, v) :: r, m, h => by
    unfold bindC
    rw [bindC_out fun w hw => h w (List.mem_cons_of_mem _ hw)]
    split
    · rfl
    · have : x ≠ n := by rintro rfl; exact h v List.mem_cons_self
      simp [this]
theorem bindL_get {kindOf : Str → Option NameKind} {x : Str} {v : Value} : ∀ {P : List Str} {vs : List Value} {i : Nat} {m : Str → Option Value}, P.Nodup → P[i]? = some x → vs[i]? = some v → kindOf x = some .local →
    bindL kindOf (P.zip vs) m x = some v
  | [], _, _, _, _, h, _, _ => by simp at h
  | _ :: _, [], _, _, _, _, h, _ => by simp at h
  | p :: P, w :: vs, 0, m, nd, h1, h2, hk => by
    simp at h1 h2; subst h1; subst h2
    show bindL kindOf ((p, w) :: P.zip vs) m p = _
    unfold bindL
    rw [bindL_out fun v hv => (List.nodup_cons.mp nd).1 (List.of_mem_zip hv).1, if_pos hk]
    simp
  | p :: P, w :: vs, i + 1, m, nd, h1, h2, hk => by
    show bindL kindOf ((p, w) :: P.zip vs) m x = _
    unfold bindL
    exact bindL_get (i := i) (List.nodup_cons.mp nd).2 (by simpa using h1) (by simpa using h2) hk
theorem bindC_get {kindOf : Str → Option NameKind} {x : Str} {v : Value} : ∀ {P : List Str} {vs : List Value} {i : Nat} {m : Str → Option Value}, P.Nodup → P[i]? = some x → vs[i]? = some v → kindOf x ≠ some .local →
    bindC kindOf (P.zip vs) m x = some v
  | [], _, _, _, _, h, _, _ => by simp at h
  | _ :: _, [], _, _, _, _, h, _ => by simp at h
  | p :: P, w :: vs, 0, m, nd, h1, h2, hk => by
    simp at h1 h2; subst h1; subst h2
    show bindC kindOf ((p, w) :: P.zip vs) m p = _
    unfold bindC
    rw [bindC_out fun v hv => (List.nodup_cons.mp nd).1 (List.of_mem_zip hv).1, if_neg hk]
    simp
  | p :: P, w :: vs, i + 1, m, nd, h1, h2, hk => by
    show bindC kindOf ((p, w) :: P.zip vs) m x = _
    unfold bindC
    exact bindC_get (i := i) (List.nodup_cons.mp nd).2 (by simpa using h1) (by simpa using h2) hk

/-- the names' values at the entry -/
def start (N : List Str) (vs : List V) : St := vs.map some ++ List.replicate (N.length - vs.length) none

/-- the context of a def's body, at its entry; an exception leaves the frame, then lies as CX says -/
def cxOf (CX : CXT) (P : Program) (w : World) (K : PySem.W.Frag) (mg : Str → Option Value) (base : Heap) (N : List Str) (qual : Str) (scope : Scope) (f : Addr) (cd : Value) (A : Around) (outer : List Env) (s : Shared) (H : Hp) (E : XK) : Cx where
  prog := P
  w := w
  K := K
  mg := mg
  base := base
  A := A.deeper (envOfC qual scope s.heap.objs.size f cd)
  N := N
  s₀ := s
  H₀ := H
  env := envOfC qual scope s.heap.objs.size f cd
  outer := outer
  stack := envOfC qual scope s.heap.objs.size f cd :: outer
  ex := []
  calm := true
  fn := fun _ => true
  pn := []
  xe := fun e s' => wpAny (model P w) (A.deeper (envOfC qual scope s.heap.objs.size f cd)) (leaving (envOfC qual scope s.heap.objs.size f cd) e) (fun _ s'' => CX outer H s E e s'') (fun e' s'' => CX outer H s E e' s'') s'

theorem cell_has {sc : Scope} {n : Nat} {x : Str} (h : sc.names.lookup x = some .cell) : ∃ c, (cellsFrom n sc.names []).lookup x = some c := by
  have q := PySem.W.cellsFrom_some sc.names n [] (.inl h)
  exact Option.isSome_iff_exists.mp q

theorem inv_start {CX : CXT} {P : Program} {w : World} {K : PySem.W.Frag} {mg : Str → Option Value} {base : Heap} {N ps : List Str} {qual : Str} {scope : Scope} {f : Addr} {cd : Value} {A : Around} {outer : List Env} {s s1 : Shared} {H : Hp} {E : XK} {us : List Value} {vs : List V}
    (S : FnScope N ps scope) (hd : A.handled = none) (e0 : Env0 P w K mg base A outer s H) (hl : vs.length = ps.length) (r : Vals vs us)
    (x : InCallC s s.heap.objs.size (bindL (envOfC qual scope s.heap.objs.size f cd).kindOf (ps.zip us) fun _ => none) (cellsFrom (s.heap.objs.size + 1) scope.names []) (bindC (envOfC qual scope s.heap.objs.size f cd).kindOf (ps.zip us) fun _ => none) s1) :
    Inv (cxOf CX P w K mg base N qual scope f cd A outer s H E) [] (start N vs) H s1 := by
  have hpl : ps.length ≤ N.length := by have := congrArg List.length S.pre; rw [List.length_take] at this; omega
  obtain ⟨h1, tk, rfl, hk⟩ := x.done
  have noA : ∀ b : Addr, b ∉ (cxOf CX P w K mg base N qual scope f cd A outer s H E).ex := fun b z => absurd (show b ∈ ([] : List Addr) from z) (by simp)
  refine ⟨⟨e0.mod, S.kind, rfl, rfl, Nat.le_refl _, fun y z c h1 h2 => ?_, fun y hy => ?_, fun y c _ h => ?_, fun _ => hd, Around.frames_deeper e0.frames, .inr ⟨rfl, rfl⟩, fun b z => absurd z (noA b), e0.bs, e0.bsz, fun b _ _ => noA b, fun b z => absurd z (noA b), e0.funs, e0.frf⟩,
    rfl, e0.bare, Un.kept hk, ⟨_, x.toInCall.ns, fun i y v h1 h2 h3 => ?_⟩, fun y c h => ⟨_, x.cell y c h⟩, e0.hok.fresh (Nat.le_refl _), fun y c h => ?_, fun p hp => absurd (show p ∈ ([] : List (Addr × Obj)) from hp) (by simp), e0.hok.kept hk, ?_⟩
  · exact name_of_addr x.apart (PySem.mem_of_lookup h1) (PySem.mem_of_lookup h2)
  · have hy : scope.names.lookup y = some .cell ∨ scope.names.lookup y = some .free := hy
    rcases hy with hy | hy
    · exact cell_has hy
    · exact absurd rfl (S.nofree _ (PySem.mem_of_lookup hy))
  · exact Nat.le_of_lt (x.above y c (PySem.mem_of_lookup h))
  · have hi : i < vs.length := by
      unfold start at h2
      by_cases hi : i < vs.length
      · exact hi
      · rw [List.getElem?_append_right (by simpa using hi)] at h2
        rw [List.getElem?_replicate] at h2
        split at h2 <;> cases h2
    have ha : vs[i]? = some v := by
      unfold start at h2
      rw [List.getElem?_append_left (by simpa using hi), List.getElem?_map] at h2
      cases e : vs[i]? with
      | none => rw [e] at h2; cases h2
      | some a => rw [e] at h2; cases h2; rfl
    obtain ⟨u, hu, rv⟩ := r.get ha
    have hp : ps[i]? = some y := by
      rw [← S.pre, List.getElem?_take_of_lt (by omega)]; exact h1
    have ndP : ps.Nodup := by rw [← S.pre]; exact S.nd.sublist (List.take_sublist _ _)
    refine ⟨u, rv, ?_⟩
    rcases S.par y (List.mem_of_getElem? hp) with k | k
    · exact .inl ⟨k, bindL_get ndP hp hu k⟩
    · obtain ⟨c, e⟩ := cell_has (n := s.heap.objs.size + 1) k
      refine .inr ⟨.inl k, c, e, ?_⟩
      have q := x.cell y c e
      rw [bindC_get ndP hp hu (by show scope.names.lookup y ≠ _; rw [k]; decide)] at q
      exact q
  · exact .inl (e0.hok.fresh (Nat.le_of_lt (x.above y c (PySem.mem_of_lookup h))))
  · unfold start
    show _ = N.length
    rw [List.length_append, List.length_map, List.length_replicate]
    omega

/-- THE RULE: a def (or a method) of the text, by its body. The body's reading t is chosen for each entry; it is run at the parameters' values -/
theorem fn_of {CX : CXT} {P : Program} {w : World} {K : PySem.W.Frag} {mg : Str → Option Value} {base : Heap} {k : Nat} {f : Addr} {name qual : Str} {params : Arguments} {body : List Stmt} {scope : Scope} {dV kV doc pm cdv ct oc : Value} {an od : Option Addr}
    {osl : Array (Option Value)} {N ps : List Str} {sp : Sp} (lk : K.lookup f = some ⟨oc, od, .func (PySem.W.fnOf name qual params body scope dV kV doc pm an cdv ct), osl⟩) (hcd : PySem.W.codeIn K cdv qual = true) (S : FnScope N ps scope)
    (len : ∀ vs H Q E, sp vs H Q E → vs.length = ps.length)
    (hbody : ∀ (A : Around) (outer : List Env) (s : Shared) (H : Hp) (vs : List V) (Q : VK) (E : XK), Room k (A.deeper (envOfC qual scope s.heap.objs.size f cdv)) → sp vs H Q E →
      ∃ t, PSs (cxOf CX P w K mg base N qual scope f cdv A outer s H E) body t ∧ t { nx := fun _ H' => Q .non H', rt := Q } (start N vs) H) :
    FnOk P w K mg base CX (k + 1) f (PySem.W.fnOf name qual params body scope dV kV doc pm an cdv ct) ps sp := by
  refine ⟨len, fun A outer s H args us vs Q E hr e0 hb r hsp => ?_⟩
  have hl := len _ _ _ _ hsp
  have KX : K.In s.heap := e0.mod.kin.keeps fun b o e => (e0.bs b o e).1
  have lim : s.heap.NoLimit := e0.mod.nolimit.keeps fun b o e => (e0.bs b o e).1
  have hkind : ∀ y ∈ ps.zip us, scope.names.lookup y.1 = some .local ∨ (scope.names.lookup y.1 = some .cell ∧ ((cellsFrom (s.heap.objs.size + 1) scope.names []).lookup y.1).isSome = true) := fun ⟨n, v⟩ hy => by
    rcases S.par n (List.of_mem_zip hy).1 with q | q
    · exact .inl q
    · exact .inr ⟨q, PySem.W.cellsFrom_some _ _ _ (.inl q)⟩
  refine codeAny_call_function hr.depth (KX _ _ lk) rfl S.co S.gen rfl (PySem.W.codeRec_of KX hcd) (hb _ _ _ _ ?_)
  refine wpAny_newFunctionEnv_cells S.kind hkind fun env he s1 x => ?_
  subst he
  refine ⟨lim.keeps x.toInCall.keep, codeAny_func ?_⟩
  obtain ⟨t, ht, hq⟩ := hbody A outer s H vs Q E (hr.deeper _) hsp
  have I : Inv (cxOf CX P w K mg base N qual scope f cdv A outer s H E) [] (start N vs) H s1 := inv_start S hr.hd e0 hl r x
  refine wpAny_mono (ht [] s1 (start N vs) H _ I hq) (fun fl s' hs => ?_) fun e s' hs => hs
  have fin : ∀ {σ' : St} {H' : Hp} {v : V} {u : Value}, Inv (cxOf CX P w K mg base N qual scope f cdv A outer s H E) [] σ' H' s' → RelV v u → Q v H' → CE outer P w H s Q u s' :=
    fun {σ' H' v u} J rv q => ⟨v, H', J.os, J.bare, J.base, J.hok, rv, q⟩
  cases fl with
  | ret u =>
    obtain ⟨v, σ', H', J, rv, q⟩ := hs
    exact fin J rv q
  | next =>
    obtain ⟨σ', H', J, q⟩ := hs
    exact fin (v := V.non) (u := Value.none) J rfl q
  | brk =>
    obtain ⟨_, _, _, q⟩ := hs
    exact False.elim q
  | cont =>
    obtain ⟨_, _, _, q⟩ := hs
    exact False.elim q
end L2

namespace L2
open PySem PySem.Spec PyProof.Rows
section
variable {X : Cx} {x : Str} {p pos : Pos} {e : Expr} {es : List Expr} {t : TA} {id T : String} {r : List V → Hp → VK → Prop}

def tCB (r : List V → Hp → VK → Prop) (t : TA) : TE := fun σ H Q => t σ H fun vs H1 => r vs H1 Q
/-- f(e, ..), f a built-in function -/
theorem pe_callB (hc : CallR X (.builtin id) r) (hg : Gl X x) (hm : X.mg x = none) (hv : bootBuiltins x = some (.builtin id)) (ha : PA X (e :: es) t) (hn : x ≠ "__name__" := by decide) (hdb : (x == ("__debug__" : Str)) = false := by decide)
    (he : starEach (e :: es) X.env = (false, eval e X.env) :: starEach es X.env := by rfl) (hpl : (backTo pos (starEach es X.env)).any (·.1) = false := by rfl) : PE X (.Call (.Name x p) (e :: es) [] pos) (tCB r t) := by
  intro pins s σ H Q I h
  refine wpAny_Call_Name_kw (ld_blt I hg hm hv ?_ hn hdb)
  exact PyProof.Rows.callWith_builtin1 (thn (ha pos pins s σ H _ I h) fun us s1 ⟨vs, H1, I1, r1, q1⟩ => hc pins s1 σ H1 vs us Q I1 r1 q1) he hpl
/-- T(e, ..), T a built-in type -/
theorem pe_callTy (hc : CallR X (.type T) r) (hg : Gl X x) (hm : X.mg x = none) (hv : bootBuiltins x = some (.type T)) (ha : PA X (e :: es) t) (hn : x ≠ "__name__" := by decide) (hdb : (x == ("__debug__" : Str)) = false := by decide)
    (he : starEach (e :: es) X.env = (false, eval e X.env) :: starEach es X.env := by rfl) (hpl : (backTo pos (starEach es X.env)).any (·.1) = false := by rfl) : PE X (.Call (.Name x p) (e :: es) [] pos) (tCB r t) := by
  intro pins s σ H Q I h
  refine wpAny_Call_Name_kw (ld_blt I hg hm hv ?_ hn hdb)
  exact PyProof.Rows.callWith_type1 (thn (ha pos pins s σ H _ I h) fun us s1 ⟨vs, H1, I1, r1, q1⟩ => hc pins s1 σ H1 vs us Q I1 r1 q1) he hpl
/-- T() -/
theorem pe_callTy0 (hc : CallR X (.type T) r) (hg : Gl X x) (hm : X.mg x = none) (hv : bootBuiltins x = some (.type T)) (hn : x ≠ "__name__" := by decide) (hdb : (x == ("__debug__" : Str)) = false := by decide) :
    PE X (.Call (.Name x p) [] [] pos) (tCB r tNil) := by
  intro pins s σ H Q I h
  refine wpAny_Call_Name_kw (ld_blt I hg hm hv ?_ hn hdb)
  exact PyProof.Rows.callWith_type0 (hc pins s σ H [] [] Q I .nil h)
end
end L2

namespace HT
open PySem PyProof.Rows

/-- t < u of tuples of ints -/
def lexLt : List Int → List Int → Bool
  | [], [] => false
  | [], _ :: _ => true
  | _ :: _, [] => false
  | x :: xs, y :: ys => if x = y then lexLt xs ys else decide (x < y)
theorem lexLt_cons (x y : Int) (xs ys : List Int) : lexLt (x :: xs) (y :: ys) = if x = y then lexLt xs ys else decide (x < y) := rfl
theorem lexLt_nil_nil : lexLt [] [] = false := rfl
theorem lexLt_nil_cons (y : Int) (ys : List Int) : lexLt [] (y :: ys) = true := rfl
theorem lexLt_cons_nil (x : Int) (xs : List Int) : lexLt (x :: xs) [] = false := rfl

theorem eqAt_int (A : Around) (s : Shared) (a : Int) (t : Tok) (c : Int) (u : Tok) : ∃ e, SeqAt.EqAt A s (.int a t) (.int c u) e ∧ (e = true ↔ a = c) :=
  ⟨(a == c), SeqAt.EqAt.int_int a t c u, by simp⟩
theorem rcLt_int (A : Around) (s : Shared) (a : Int) (t : Tok) (c : Int) (u : Tok) (prog : Program) (w : World) (E : Value → Shared → Prop) (Q : Value → Shared → Prop) (h : Q (.bool (decide (a < c))) s) :
    wpAny (model prog w) A (richCompare .Lt (.int a t) (.int c u)) Q E s :=
  (PyProof.Rows.lt_int h : wpAny (model prog w) A (compareOp .Lt (.int a t) (.int c u)) Q E s)

section
open PySem.SeqAt
open PySem.AutoSeq1 (wpAny_loadPart')
open PySem.MeetsSeq PySem.MeetsSeq2 PySem.MeetsSeq3

theorem tuple_lt_ints (l b : Addr) (items items2 : Array Value) (n n2 : Nat) (dd dd2 : Option Addr) (sl sl2 : Array (Option Value)) (ns ms : List Int) (hi : IntsAre items.toList ns) (hj : IntsAre items2.toList ms) :
    Meets (Builtin.«tuple.__lt__» ⟨[.ref l, .ref b], []⟩)
      (fun _ R s => s.heap.get? l = some { cls := .type "tuple", dict := dd, data := .seq items n, slots := sl } ∧ s.heap.get? b = some { cls := .type "tuple", dict := dd2, data := .seq items2 n2, slots := sl2 } ∧
        R (.ok (.ret (.bool (lexLt ns ms)))) s) :=
  .of_wp fun prog w A R s h => by
    obtain ⟨hp, g, d, tk, os⟩ := s; obtain ⟨hl, hb, h⟩ := h
    have f2 := AutoSeq1.sub_tuple_tuple
    have z1 : items.size = ns.length := by rw [← hi.length]; simp
    have z2 : items2.size = ms.length := by rw [← hj.length]; simp
    wp_walk using wpAny_loadPart' hl, wpAny_loadPart' hb, wpAny_forIn_list _ (fun rest b s' => b.1 = none ∧ s' = ⟨hp, g, d, tk, os⟩ ∧ ∃ (vs ws : List Value) (ns' ms' : List Int), rest = vs.zip ws ∧
      IntsAre vs ns' ∧ IntsAre ws ms' ∧ ns'.length + items2.size = ms'.length + items.size ∧ R (.ok (.ret (.bool (lexLt ns' ms')))) ⟨hp, g, d, tk, os⟩) _
    case turn =>
      rintro ⟨y, x⟩ rest b s' ⟨hb', rfl, vs, ws, ns', ms', hz, hvi, hwi, hlen, hR⟩
      cases hvi with
      | nil => rw [List.zip_nil_left] at hz; cases hz
      | cons a t hvi' =>
        cases hwi with
        | nil => rw [List.zip_nil_right] at hz; cases hz
        | cons c u hwi' =>
          rw [List.zip_cons_cons] at hz
          injection hz with hyx hrest
          injection hyx with hy hx
          subst hy hx
          rw [lexLt_cons] at hR
          simp only [List.length_cons] at hlen
          obtain ⟨e, he, hiff⟩ := eqAt_int A.in1 ⟨hp, g, d, tk, os⟩ a t c u
          refine wpAny_bind (he prog w _ _ ?_)
          cases e with
          | true =>
            rw [if_pos (hiff.mp rfl)] at hR
            wp_walk
            exact ⟨rfl, rfl, _, _, _, _, hrest, hvi', hwi', by omega, hR⟩
          | false =>
            rw [if_neg (fun q => absurd (hiff.mpr q) Bool.false_ne_true)] at hR
            have hri := rcLt_int A.in1 ⟨hp, g, d, tk, os⟩ a t c u prog w
            wp_walk using hri
            exact ⟨_, rfl, by simpa using hR⟩
    case fin =>
      rintro ⟨b1, b2⟩ s' ⟨hb', rfl, vs, ws, ns', ms', hz, hvi, hwi, hlen, hR⟩
      simp only at hb'
      subst hb'
      have hv : lexLt ns' ms' = decide (items.size < items2.size) := by
        cases hvi with
        | nil =>
          cases hwi with
          | nil =>
            simp only [List.length_nil] at hlen
            rw [lexLt_nil_nil]
            exact (decide_eq_false (by omega)).symm
          | cons c u hw =>
            simp only [List.length_nil, List.length_cons] at hlen
            rw [lexLt_nil_cons]
            exact (decide_eq_true (by omega)).symm
        | cons a t hv =>
          cases hwi with
          | nil =>
            simp only [List.length_nil, List.length_cons] at hlen
            rw [lexLt_cons_nil]
            exact (decide_eq_false (by omega)).symm
          | cons c u hw =>
            rw [List.zip_cons_cons] at hz
            cases hz
      rw [hv] at hR
      wp_walk
      exact ⟨_, rfl, by simpa [Builtin.Tuple.tupleCompareSizes] using hR⟩
    case h =>
      exact ⟨rfl, rfl, items.toList, items2.toList, ns, ms, rfl, hi, hj, by omega, h⟩
end

section
variable {prog : Program} {w : World} {A : Around} {E : Value → Shared → Prop} {s : Shared}

theorem lt_tupInts {l b : Addr} {items items2 : Array Value} {ns ms : List Int} {Q : Value → Shared → Prop} (hl : IsTup s.heap l items) (hb : IsTup s.heap b items2) (hi : IntsAre items.toList ns) (hj : IntsAre items2.toList ms)
    (hu : A.units < cLine) (h : Q (.bool (lexLt ns ms)) s) : wpAny (model prog w) A (compareOp .Lt (.ref l) (.ref b)) Q E s := by
  obtain ⟨⟨cls, dd, data, sl⟩, ho, hc, n, hd⟩ := id hl
  obtain ⟨⟨cls2, dd2, data2, sl2⟩, ho2, hc2, n2, hd2⟩ := id hb
  simp only at hc hd hc2 hd2
  subst hc hd hc2 hd2
  exact richCompare_meets_room (op := .Lt) ⟨_, ho, rfl⟩ ⟨_, ho2, rfl⟩ PySem.F.slot_tuple_lt PySem.F.entry_tuple_lt (PySem.F.args_tuple_lt_2 _ _) (tuple_lt_ints l b items items2 n n2 dd dd2 sl sl2 ns ms hi hj)
    ⟨ho, ho2, show Value.bool (lexLt ns ms) ≠ Value.notImplemented ∧ Q (.bool (lexLt ns ms)) s from ⟨(fun x => nomatch x), h⟩⟩ hu

/-- t + u, t not empty -/
theorem cat_tup {t b : Addr} {vs ws : List Value} {Q : Value → Shared → Prop} (ht : IsTup s.heap t vs.toArray) (hb : IsTup s.heap b ws.toArray) (hv : vs ≠ [])
    (h1 : ws = [] → Q (.ref t) s) (h2 : ws ≠ [] → Q (.ref s.heap.objs.size) { s with heap := s.heap.push { cls := .type "tuple", data := .seq (vs ++ ws).toArray } })
    (hsz : vs.length + ws.length ≤ sizeLine) : wpAny (model prog w) A (binaryOp .Add (.ref t) (.ref b)) Q E s := by
  obtain ⟨⟨cls, dd, data, sl⟩, ho, hc, n, hd⟩ := id ht
  obtain ⟨⟨cls2, dd2, data2, sl2⟩, ho2, hc2, n2, hd2⟩ := id hb
  simp only at hc hd hc2 hd2
  subst hc hd hc2 hd2
  have e : vs.toArray ++ ws.toArray = (vs ++ ws).toArray := by simp
  by_cases hw : ws = []
  · exact concat_meets ⟨_, ho, rfl⟩ ⟨_, ho2, rfl⟩ noFill_tuple_add seq_tuple_add PySem.F.slot_tuple_add PySem.F.entry_tuple_add (PySem.F.args_tuple_add_2 _ _)
      (tuple_addW1 t b vs.toArray ws.toArray n n2 dd dd2 sl sl2 (by simpa using hv) (by simp [hw])) ⟨ho, ho2, h1 hw⟩
  · refine concat_meets ⟨_, ho, rfl⟩ ⟨_, ho2, rfl⟩ noFill_tuple_add seq_tuple_add PySem.F.slot_tuple_add PySem.F.entry_tuple_add (PySem.F.args_tuple_add_2 _ _)
      (tuple_addW2 t b vs.toArray ws.toArray n n2 dd dd2 sl sl2 (by simpa using hv) (by simpa using hw) (by rw [List.size_toArray, List.size_toArray]; exact hsz)) ⟨ho, ho2, ?_⟩
    rw [e]
    exact h2 hw

/-! ### t[a:b], not the whole -/
/-- a slice's bound as a place among n (d where it is left out) -/
def sIx (n d : Nat) : Option Int → Nat
  | none => d
  | some v => if v < 0 then (v + (n : Int)).toNat else min v.toNat n
theorem sIx_none (n d : Nat) : sIx n d none = d := rfl
theorem sIx_nat (n d k : Nat) : sIx n d (some (k : Int)) = min k n := by
  show (if (k : Int) < 0 then ((k : Int) + (n : Int)).toNat else min (k : Int).toNat n) = min k n
  rw [if_neg (by omega), Int.toNat_natCast]
theorem sIx_le (n d : Nat) (hd : d ≤ n) (o : Option Int) : sIx n d o ≤ n := by
  cases o with
  | none => exact hd
  | some v =>
    show (if v < 0 then (v + (n : Int)).toNat else min v.toNat n) ≤ n
    by_cases hv : v < 0
    · rw [if_pos hv]; omega
    · rw [if_neg hv]; exact Nat.min_le_right _ _
theorem clip_eq (v : Int) (n d : Nat) : (if v < 0 then max (v + (n : Int)) 0 else min v (n : Int)) = ((sIx n d (some v) : Nat) : Int) := by
  show (if v < 0 then max (v + (n : Int)) 0 else min v (n : Int)) = (((if v < 0 then (v + (n : Int)).toNat else min v.toNat n) : Nat) : Int)
  by_cases hv : v < 0
  · simp only [if_pos hv]; omega
  · simp only [if_neg hv]; omega
theorem adjust_gen (lo hi : Option Int) (n : Nat) : Builtin.Slice.sliceAdjust lo hi 1 (n : Int) = (((sIx n 0 lo : Nat) : Int), ((sIx n n hi : Nat) : Int)) := by
  have h1 : ¬ ((1 : Int) < 0) := by omega
  unfold Builtin.Slice.sliceAdjust
  simp only [h1, if_false]
  refine Prod.ext ?_ ?_
  · cases lo with
    | none => rfl
    | some v => exact clip_eq v n 0
  · cases hi with
    | none => rfl
    | some v => exact clip_eq v n n
theorem places_gen (i j : Nat) : Builtin.Slice.slicePlaces (i : Int) (j : Int) 1 = j - i := by
  unfold Builtin.Slice.slicePlaces
  have h1 : (1 : Int) > 0 := by omega
  simp only [h1, if_true, Int.ediv_one]
  split <;> omega
theorem slicePart_ {v : Value} {o : Option Int} {Q : Option Int → Shared → Prop} (p : IsPart v o) (h : Q o s) : wpAny (model prog w) A (Builtin.Slice.slicePartIndex v) Q E s := by
  cases p with
  | none => exact slicePart_none h
  | int i t => exact slicePart_int h
theorem sliceApplied_gen {sl : Addr} {vl vu : Value} {lo hi : Option Int} {n : Nat} {Q : Int × Int × Nat → Shared → Prop} (hs : s.heap.IsSliceOf sl vl vu .none) (pl : IsPart vl lo) (pu : IsPart vu hi)
    (h : Q (((sIx n 0 lo : Nat) : Int), 1, sIx n n hi - sIx n 0 lo) s) : wpAny (model prog w) A (Builtin.Slice.sliceApplied (.ref sl) (pure (n : Int))) Q E s := by
  obtain ⟨os, hos, hcs, hds⟩ := id hs
  unfold Builtin.Slice.sliceApplied Builtin.Slice.sliceFields
  refine wpAny_bind (wpAny_bind (wpAny_field hos hds (x := vl) rfl (wpAny_bind (wpAny_field hos hds (x := vu) rfl (wpAny_bind (wpAny_field hos hds (x := .none) rfl (wpAny_pure ?_)))))))
  refine wpAny_bind (slicePart_none ?_)
  show wpAny _ _ (if ((1 : Int) == 0) = true then _ else _) _ _ s
  rw [if_neg (by decide)]
  refine wpAny_bind (slicePart_ pl (wpAny_bind (slicePart_ pu (wpAny_bind (wpAny_pure ?_)))))
  show wpAny _ _ (match Builtin.Slice.sliceAdjust lo hi 1 (n : Int) with | (lo, hi) => pure (lo, (1 : Int), Builtin.Slice.slicePlaces lo hi 1)) _ _ s
  rw [adjust_gen lo hi n]
  show wpAny _ _ (pure (((sIx n 0 lo : Nat) : Int), (1 : Int), Builtin.Slice.slicePlaces ((sIx n 0 lo : Nat) : Int) ((sIx n n hi : Nat) : Int) 1)) _ _ s
  rw [places_gen]
  exact wpAny_pure h
theorem pick_gen (xs : Array Value) (i k : Nat) : ((List.range k).filterMap fun (m : Nat) => xs[((i : Int) + (m : Int) * 1).toNat]?).toArray = ((xs.toList.drop i).take k).toArray := by
  have e : (fun (m : Nat) => xs[((i : Int) + (m : Int) * 1).toNat]?) = fun m => xs[i + m]? := by
    funext m
    have : ((i : Int) + (m : Int) * 1).toNat = i + m := by omega
    rw [this]
  rw [e]
  have := pick_run xs i k
  rw [List.filterMap_map] at this
  have e2 : ((fun x => xs[x]?) ∘ fun x => i + x) = fun m => xs[i + m]? := rfl
  rw [e2] at this
  rw [this]

theorem getItem_tuple_cut {t sl : Addr} {items : Array Value} {vl vu : Value} {lo hi : Option Int} {Q : Value → Shared → Prop} (ht : IsTup s.heap t items) (hs : s.heap.IsSliceOf sl vl vu .none) (pl : IsPart vl lo) (pu : IsPart vu hi)
    (hw : ¬ (sIx items.size 0 lo = 0 ∧ sIx items.size items.size hi = items.size))
    (h : Q (.ref s.heap.objs.size) { s with heap := s.heap.push { cls := .type "tuple", data := .seq ((items.toList.drop (sIx items.size 0 lo)).take (sIx items.size items.size hi - sIx items.size 0 lo)).toArray } })
    (hsz : items.size ≤ sizeLine) : wpAny (model prog w) A (getItem (.ref t) (.ref sl)) Q E s := by
  have htake : sizeOk (.seq ((items.toList.drop (sIx items.size 0 lo)).take (sIx items.size items.size hi - sIx items.size 0 lo)).toArray) := by
    show ((items.toList.drop (sIx items.size 0 lo)).take (sIx items.size items.size hi - sIx items.size 0 lo)).toArray.size ≤ sizeLine
    rw [List.size_toArray, List.length_take, List.length_drop, Array.length_toList]
    omega
  have hj : sIx items.size items.size hi ≤ items.size := sIx_le _ _ (Nat.le_refl _) hi
  obtain ⟨os, hos, hcs, hds⟩ := id hs
  have hTs : s.TypeIs (.ref sl) "slice" := ⟨os, hos, hcs⟩
  unfold getItem
  try with_reducible refine wpAny_holding ?_
  first | refine wpAny_bind (wpAny_pure ?_) | skip
  refine wpAny_bind (wpAny_sequenceKey ht.typeIs (by decide) ?_)
  refine wpAny_bind (wpAny_callSpecial?_slot (name := Str.ofString "__getitem__") ht.typeIs PyProof.Rows.slot_tuple_getitem
    (wpAny_call_entry PyProof.Rows.slot_tuple_getitem ht.typeIs entry_tuple_getitem ?_ (args_tuple_getitem _ _)))
  show wpAny _ _ (Builtin.Tuple.tupleItemsOf (.ref t) >>= _) _ _ s
  refine wpAny_bind (tupleItemsOf_ ht ?_)
  refine wpAny_bind (wpAny_typeOf hTs ?_)
  rw [if_pos (by decide)]
  refine wpAny_bind (sliceApplied_gen hs pl pu ?_)
  have hno : ¬ ((((sIx items.size 0 lo : Nat) : Int) == 0 && (1 : Int) == 1 && (sIx items.size items.size hi - sIx items.size 0 lo) == items.size) = true) := by
    intro q
    rw [Bool.and_eq_true, Bool.and_eq_true] at q
    have q1 : ((sIx items.size 0 lo : Nat) : Int) = 0 := eq_of_beq q.1.1
    have q2 : sIx items.size items.size hi - sIx items.size 0 lo = items.size := eq_of_beq q.2
    exact hw ⟨by omega, by omega⟩
  show wpAny _ _ (if (((sIx items.size 0 lo : Nat) : Int) == 0 && (1 : Int) == 1 && (sIx items.size items.size hi - sIx items.size 0 lo) == items.size) = true then _ else _) _ _ s
  rw [if_neg hno, pick_gen]
  first
    | exact wpAny_bind (m := Builtin.Tuple.tupleExact _) (wpAny_newObj_type (wpAny_pure ⟨_, rfl, wpAny_pure h⟩) htake)
    | exact wpAny_bind (m := Builtin.Tuple.tupleExact _) (wpAny_newObj_type (wpAny_bind (wpAny_pure (wpAny_pure ⟨_, rfl, wpAny_pure h⟩))) htake)
    | exact wpAny_bind (wpAny_bind (m := Builtin.Tuple.tupleExact _) (wpAny_newObj_type (wpAny_pure (wpAny_pure ⟨_, rfl, wpAny_pure h⟩)) htake))
    | exact wpAny_bind (wpAny_bind (m := Builtin.Tuple.tupleExact _) (wpAny_newObj_type (wpAny_pure ⟨_, rfl, wpAny_pure h⟩) htake))
end
end HT

namespace L2
open PySem PySem.Spec PyProof.Rows

/-! ### the parts of a slice -/
abbrev TO := St → Hp → (Option Int → Hp → Prop) → Prop
/-- a slice's part (left out, or an int) -/
def PO (X : Cx) (e : Option Expr) (t : TO) : Prop :=
  ∀ (pins : List (Addr × Obj)) (s : Shared) (σ : St) (H : Hp) (Q : Option Int → Hp → Prop), Inv X pins σ H s → t σ H Q →
    wpAny (model X.prog X.w) X.A (evalPart e X.env) (fun u s' => ∃ o H', Inv X pins σ H' s' ∧ IsPart u o ∧ Q o H') X.xe s
def tNoPart : TO := fun _ H Q => Q none H
def tPart (t : TE) : TO := fun σ H Q => t σ H fun x H1 => ∃ i, x = .int i ∧ Q (some i) H1

theorem intsAre_of {ns : List Int} : ∀ {us : List Value}, Vals (ns.map V.int) us → IntsAre us ns := by
  induction ns with
  | nil => intro us r; rw [List.map_nil] at r; cases r; exact .nil
  | cons n ns ih =>
    intro us r
    rw [List.map_cons] at r
    cases r with
    | cons r1 r2 =>
      obtain ⟨t, e⟩ := r1
      subst e
      exact .cons n t (ih r2)

section
variable {X : Cx} {e : Expr} {te : TE} {lo hi : Option Expr} {tl th : TO} {pos p2 : Pos}

theorem po_none : PO X none tNoPart := by
  intro pins s σ H Q I h
  rw [evalPart_none]
  exact wpAny_pure ⟨none, H, I, .none, h⟩
theorem po_some (h : PE X e te) : PO X (some e) (tPart te) := by
  intro pins s σ H Q I hw
  rw [evalPart_some]
  refine thn (h pins s σ H _ I hw) fun u s1 ⟨x, H1, I1, r1, q1⟩ => ?_
  obtain ⟨i, rfl, q⟩ := q1
  obtain ⟨t, rfl⟩ := r1
  exact ⟨some i, H1, I1, .int i t, q⟩

/-- what a slice of a value is, by values: the slice object stands at sl -/
def SlR (X : Cx) (r : V → Option Int → Option Int → Hp → VK → Prop) : Prop :=
  ∀ (pins : List (Addr × Obj)) (s : Shared) (σ : St) (H : Hp) (x : V) (v vl vu : Value) (lo hi : Option Int) (sl : Addr) (Q : VK), Inv X pins σ H s → RelV x v → s.heap.IsSliceOf sl vl vu .none → IsPart vl lo → IsPart vu hi → r x lo hi H Q →
    ∃ T id, typeLookup (.type T) "__getitem__" = pure (some (.builtin id)) ∧ s.TypeIs v T ∧ wpAny (model X.prog X.w) X.A (getItem v (.ref sl)) (EP X pins σ Q) X.xe s
theorem SlR.or {r r' : V → Option Int → Option Int → Hp → VK → Prop} (h : SlR X r) (h' : SlR X r') : SlR X (fun x lo hi H Q => r x lo hi H Q ∨ r' x lo hi H Q) := by
  intro pins s σ H x v vl vu lo hi sl Q I rx hs pl pu q
  rcases q with q | q
  · exact h pins s σ H x v vl vu lo hi sl Q I rx hs pl pu q
  · exact h' pins s σ H x v vl vu lo hi sl Q I rx hs pl pu q
def tSl (r : V → Option Int → Option Int → Hp → VK → Prop) (te : TE) (tl th : TO) : TE := fun σ H Q => te σ H fun x H1 => tl σ H1 fun l H2 => th σ H2 fun u H3 => r x l u H3 Q
/-- a[lo:hi], any a -/
theorem pe_slice {r : V → Option Int → Option Int → Hp → VK → Prop} (hr : SlR X r) (he : PE X e te) (hl : PO X lo tl) (hu : PO X hi th) : PE X (.Subscript e (.Slice lo hi none p2) pos) (tSl r te tl th) := by
  intro pins s σ H Q I h
  refine Subscript_ (thn (he pins s σ H _ I h) fun v s1 ⟨x, H1, I1, r1, q1⟩ => ?_)
  refine wpAny_Slice (thn (hl pins s1 σ H1 _ I1 q1) fun vl s2 ⟨l, H2, I2, pl, q2⟩ => thn (hu pins s2 σ H2 _ I2 q2) fun vu s3 ⟨u, H3, I3, pu, q3⟩ => ?_)
  rw [evalPart_none]
  refine wpAny_pure ?_
  have I4 : Inv X pins σ H3 { s3 with heap := s3.heap.push { cls := .type "slice", data := .fields #[vl, vu, .none] } } := I3.kept (t' := s3.toks) fun b ob q => Heap.get?_push_of_some _ q
  obtain ⟨T, id, hT, ht, hg⟩ := hr pins { s3 with heap := s3.heap.push { cls := .type "slice", data := .fields #[vl, vu, .none] } } σ H3 x v vl vu l u s3.heap.objs.size Q I4 r1 (Heap.IsSliceOf.new ..) pl pu q3
  show wpAny (model X.prog X.w) X.A (subscriptTail e (.Slice lo hi none p2) v (.ref s3.heap.objs.size)) (EP X pins σ Q) X.xe { s3 with heap := s3.heap.push { cls := .type "slice", data := .fields #[vl, vu, .none] } }
  exact tail_any (ops := [.ref s3.heap.objs.size, v]) ht hT hg (by with_unfolding_all rfl)

/-- the items of xs[lo:hi] -/
def cutV (xs : List V) (lo hi : Option Int) : List V := (xs.drop (HT.sIx xs.length 0 lo)).take (HT.sIx xs.length xs.length hi - HT.sIx xs.length 0 lo)
theorem cutV_length (xs : List V) (lo hi : Option Int) : (cutV xs lo hi).length ≤ xs.length := by
  unfold cutV
  rw [List.length_take, List.length_drop]
  omega
/-- t[lo:hi], not the whole of it (the whole would be t itself) -/
def rSlT (K : PySem.W.Frag) : V → Option Int → Option Int → Hp → VK → Prop := fun x lo hi H Q => ∃ a xs, x = .ref a ∧ SqT K H a xs ∧
  ¬ (HT.sIx xs.length 0 lo = 0 ∧ HT.sIx xs.length xs.length hi = xs.length) ∧ ∀ p, H p = none → Q (.ref p) (upd H p (.tup (cutV xs lo hi)))
theorem sl_tup : SlR X (rSlT X.K) := by
  intro pins s σ H x v vl vu lo hi sl Q I rx hs pl pu h
  obtain ⟨a, xs, rfl, hx, hw, q⟩ := h
  cases rx
  obtain ⟨its, r, ht, hz⟩ := I.tuple hx
  have hlen : its.toArray.size = xs.length := by rw [List.size_toArray]; exact r.length.symm
  refine ⟨"tuple", _, PyProof.Rows.slot_tuple_getitem.lookup, ht.typeIs, ?_⟩
  refine HT.getItem_tuple_cut ht hs pl pu (by rw [hlen]; exact hw) ?_ (by rw [hlen]; exact hz)
  rw [hlen]
  refine ⟨.ref s.heap.objs.size, _, I.laid (t' := s.toks) (o := .tup (cutV xs lo hi)) (fun b ob q => Heap.get?_push_of_some _ q) (Nat.le_refl _) ?_, rfl, q _ (I.hok.fresh (Nat.le_refl _))⟩
  exact ⟨Nat.le_trans (cutV_length xs lo hi) hz, _, (r.drop (HT.sIx xs.length 0 lo)).take (HT.sIx xs.length xs.length hi - HT.sIx xs.length 0 lo), IsTup.new _ _⟩

/-! ### t < u, t + u -/
def rLtT (K : PySem.W.Frag) : R2 := fun x y H Q => ∃ a b ns ms, x = .ref a ∧ y = .ref b ∧ SqT K H a (ns.map V.int) ∧ SqT K H b (ms.map V.int) ∧ Q (.bl (HT.lexLt ns ms)) H
theorem op_ltT (hu : X.A.units < cLine) : OpR X (compareOp .Lt) (rLtT X.K) := by
  intro pins s σ H x y v u Q I rx ry h
  obtain ⟨a, b, ns, ms, rfl, rfl, ha, hb, q⟩ := h
  cases rx
  cases ry
  obtain ⟨its, r1, p1, _⟩ := I.tuple ha
  obtain ⟨its2, r2, p2, _⟩ := I.tuple hb
  have i1 : IntsAre its.toArray.toList ns := intsAre_of r1
  have i2 : IntsAre its2.toArray.toList ms := intsAre_of r2
  exact HT.lt_tupInts p1 p2 i1 i2 hu ⟨.bl (HT.lexLt ns ms), H, I, rfl, q⟩
/-- t + u, t not empty: u empty gives t itself -/
def rCatT (K : PySem.W.Frag) : R2 := fun x y H Q => ∃ a b xs ys, x = .ref a ∧ y = .ref b ∧ SqT K H a xs ∧ SqT K H b ys ∧ xs ≠ [] ∧ xs.length + ys.length ≤ sizeLine ∧
  (ys = [] → Q (.ref a) H) ∧ (ys ≠ [] → ∀ p, H p = none → Q (.ref p) (upd H p (.tup (xs ++ ys))))
theorem Vals.nil_iff {xs : List V} {us : List Value} (r : Vals xs us) : us = [] ↔ xs = [] := by
  cases r with
  | nil => simp
  | cons _ _ => simp
theorem op_catT : OpR X (binaryOp .Add) (rCatT X.K) := by
  intro pins s σ H x y v u Q I rx ry h
  obtain ⟨a, b, xs, ys, rfl, rfl, ha, hb, hx, hz, q1, q2⟩ := h
  cases rx
  cases ry
  obtain ⟨its, r1, p1, _⟩ := I.tuple ha
  obtain ⟨its2, r2, p2, _⟩ := I.tuple hb
  refine HT.cat_tup p1 p2 (fun z => hx (r1.nil_iff.mp z)) (fun z => ⟨.ref a, H, I, rfl, q1 (r2.nil_iff.mp z)⟩) (fun z => ?_) (by rw [← r1.length, ← r2.length]; exact hz)
  refine ⟨.ref s.heap.objs.size, _, I.laid (t' := s.toks) (o := .tup (xs ++ ys)) (fun b ob q => Heap.get?_push_of_some _ q) (Nat.le_refl _) ?_, rfl, q2 (fun w => z (r2.nil_iff.mpr w)) _ (I.hok.fresh (Nat.le_refl _))⟩
  exact ⟨by rw [List.length_append]; exact hz, _, r1.append r2, IsTup.new _ _⟩
/-- tuple(t) -/
theorem call_tupleT : CallR X (.type "tuple") (fun xs H Q => ∃ a ys, xs = [.ref a] ∧ SqT X.K H a ys ∧ Q (.ref a) H) := by
  intro pins s σ H xs us Q I r h
  obtain ⟨a, ys, rfl, ha, q⟩ := h
  obtain ⟨u, rfl, ru⟩ := vals1 r
  cases ru
  obtain ⟨its, _, p1, _⟩ := I.tuple ha
  exact call_tuple_same (items := its.toArray) p1 ⟨.ref a, H, I, rfl, q⟩
end
end L2

namespace L2
open PySem PySem.Spec PyProof.Rows

/-! ### places -/
/-- the place that an index of any sign means -/
def ixN (n : Nat) (i : Int) : Option Nat := if 0 ≤ i then (if i < n then some i.toNat else none) else if -(n : Int) ≤ i then some (i + n).toNat else none
def atI {α : Type} (xs : List α) (i : Int) : Option α := (ixN xs.length i).bind fun j => xs[j]?
theorem ixN_seq {n : Nat} {i : Int} {j : Nat} (h : ixN n i = some j) : seqIndex? i n = some j ∧ j < n ∧ -(n : Int) ≤ i ∧ i < n := by
  unfold ixN at h
  by_cases h0 : 0 ≤ i
  · rw [if_pos h0] at h
    by_cases h1 : i < n
    · rw [if_pos h1] at h
      have e : i.toNat = j := Option.some.inj h
      exact ⟨by rw [seqIndex_of h0 h1, e], by omega, by omega, h1⟩
    · rw [if_neg h1] at h; cases h
  · rw [if_neg h0] at h
    by_cases h1 : -(n : Int) ≤ i
    · rw [if_pos h1] at h
      have e : (i + n).toNat = j := Option.some.inj h
      exact ⟨by rw [seqIndex_neg (by omega) h1, e], by omega, h1, by omega⟩
    · rw [if_neg h1] at h; cases h
theorem atI_get {α : Type} {xs : List α} {i : Int} {v : α} (h : atI xs i = some v) : ∃ j, seqIndex? i xs.length = some j ∧ xs[j]? = some v ∧ j < xs.length ∧ -(xs.length : Int) ≤ i ∧ i < xs.length := by
  unfold atI at h
  cases e : ixN xs.length i with
  | none => rw [e] at h; cases h
  | some j =>
    rw [e] at h
    obtain ⟨h1, h2, h3, h4⟩ := ixN_seq e
    exact ⟨j, h1, h, h2, h3, h4⟩
theorem atI_nat {α : Type} {xs : List α} {j : Nat} {v : α} (h : xs[j]? = some v) : atI xs (j : Int) = some v := by
  have hj : j < xs.length := (List.getElem?_eq_some_iff.mp h).1
  have e : ixN xs.length (j : Int) = some j := by
    unfold ixN
    rw [if_pos (by omega), if_pos (by omega)]; simp
  unfold atI; rw [e]; exact h
theorem atI_last {α : Type} (xs : List α) (v : α) : atI (xs ++ [v]) (-1) = some v := by
  have hl : (xs ++ [v]).length = xs.length + 1 := by simp
  have e : ixN (xs ++ [v]).length (-1) = some xs.length := by
    unfold ixN
    rw [hl, if_neg (by decide), if_pos (by omega)]
    congr 1
    omega
  unfold atI
  rw [e]
  show (xs ++ [v])[xs.length]? = some v
  simp

/-! ### what may be subscripted -/
/-- what stands as an index of a plain subscript -/
def PlainIx (b : Expr) : Prop := ∀ o i, subscripted b false o i = operate [o, i] (getItem o i)
/-- a subscript by values -/
def IxR (X : Cx) (r : R2) : Prop :=
  ∀ (value slice : Expr) (pins : List (Addr × Obj)) (s : Shared) (σ : St) (H : Hp) (x y : V) (v u : Value) (Q : VK), Inv X pins σ H s → RelV x v → RelV y u → r x y H Q →
    subscripted slice false v u = operate [v, u] (getItem v u) → wpAny (model X.prog X.w) X.A (subscriptTail value slice v u) (EP X pins σ Q) X.xe s
/-- a call of a builtin's method by values: the receiver, the arguments -/
def MtR (X : Cx) (id : String) (r : V → List V → Hp → VK → Prop) : Prop :=
  ∀ (pins : List (Addr × Obj)) (s : Shared) (σ : St) (H : Hp) (x : V) (xs : List V) (v : Value) (us : List Value) (Q : VK), Inv X pins σ H s → RelV x v → Vals xs us → r x xs H Q →
    wpAny (model X.prog X.w) X.A (call (.builtin id) (v :: us)) (EP X pins σ Q) X.xe s
section
variable {X : Cx} {a b : Expr} {ta tb : TE} {pos : Pos}
theorem IxR.or {r r' : R2} (h : IxR X r) (h' : IxR X r') : IxR X (fun x y H Q => r x y H Q ∨ r' x y H Q) := by
  intro value slice pins s σ H x y v u Q I rx ry q hs
  rcases q with q | q
  · exact h value slice pins s σ H x y v u Q I rx ry q hs
  · exact h' value slice pins s σ H x y v u Q I rx ry q hs
theorem MtR.or {id : String} {r r' : V → List V → Hp → VK → Prop} (h : MtR X id r) (h' : MtR X id r') : MtR X id (fun x xs H Q => r x xs H Q ∨ r' x xs H Q) := by
  intro pins s σ H x xs v us Q I rx rs q
  rcases q with q | q
  · exact h pins s σ H x xs v us Q I rx rs q
  · exact h' pins s σ H x xs v us Q I rx rs q
/-- a[b] -/
theorem pe_ix {r : R2} (hr : IxR X r) (ha : PE X a ta) (hb : PE X b tb) (hs : PlainIx b) : PE X (.Subscript a b pos) (tOp r ta tb) := by
  intro pins s σ H Q I h
  exact Subscript_ (binT ha hb I h fun v u s2 x y H2 I2 rx ry q => hr a b pins s2 σ H2 x y v u Q I2 rx ry q (hs _ _))

def rIxL (K : PySem.W.Frag) : R2 := fun x y H Q => ∃ p xs i v, x = .ref p ∧ y = .int i ∧ SqL K H p xs ∧ atI xs i = some v ∧ Q v H
def rIxT (K : PySem.W.Frag) : R2 := fun x y H Q => ∃ p xs i v, x = .ref p ∧ y = .int i ∧ SqT K H p xs ∧ atI xs i = some v ∧ Q v H
def rIxS : R2 := fun x y H Q => ∃ z i c, x = .str z ∧ y = .int i ∧ z.length ≤ sizeLine ∧ atI z.cps.toList i = some c ∧ Q (.str ⟨#[c]⟩) H
theorem ix_list : IxR X (rIxL X.K) := by
  intro value slice pins s σ H x y v u Q I rx ry h hs
  obtain ⟨p, xs, i, z, rfl, rfl, hq, he, q⟩ := h
  cases rx
  obtain ⟨t, rfl⟩ := ry
  obtain ⟨its, r, pl, hz⟩ := I.list hq
  obtain ⟨j, h1, h2, h3, h4, h5⟩ := atI_get he
  obtain ⟨w, ew, rw'⟩ := r.get h2
  have hl := r.length
  have hn := line63
  have fin : EP X pins σ Q w s := ⟨z, H, I, rw', q⟩
  by_cases h0 : 0 ≤ i
  · have hj : i.toNat = j := by
      rw [seqIndex_of h0 h5] at h1
      exact Option.some.inj h1
    exact item_listR pl.isList h0 (by omega) (by rw [hj]; simpa using ew) fin hs
  · have hj : (i + (its.toArray.size : Int)).toNat = j := by
      rw [seqIndex_neg (by omega) h4] at h1
      rw [List.size_toArray, ← hl]
      exact Option.some.inj h1
    exact subscriptTail_builtinR (x := w) pl.isList.typeIs slot_list_getitem.lookup
      (wpAny_getItem_list_neg (Q := fun r s' => r = w ∧ EP X pins σ Q r s') pl.isList (by omega) (by rw [List.size_toArray] <;> omega) (by omega) (by rw [hj]; simpa using ew) ⟨rfl, fin⟩) hs
theorem ix_tup : IxR X (rIxT X.K) := by
  intro value slice pins s σ H x y v u Q I rx ry h hs
  obtain ⟨p, xs, i, z, rfl, rfl, hq, he, q⟩ := h
  cases rx
  obtain ⟨t, rfl⟩ := ry
  obtain ⟨its, r, pl, hz⟩ := I.tuple hq
  obtain ⟨j, h1, h2, h3, h4, h5⟩ := atI_get he
  obtain ⟨w, ew, rw'⟩ := r.get h2
  have hl := r.length
  have hn := line63
  have fin : EP X pins σ Q w s := ⟨z, H, I, rw', q⟩
  exact subscriptTail_builtinR (x := w) pl.typeIs slot_tuple_getitem.lookup
    (getItem_tuple (j := j) (Q := fun r s' => r = w ∧ EP X pins σ Q r s') pl (by omega) (by omega) (by rw [List.size_toArray, ← hl]; exact h1) (by simpa using ew) ⟨rfl, fin⟩) hs
theorem ix_str : IxR X rIxS := by
  intro value slice pins s σ H x y v u Q I rx ry h hs
  obtain ⟨z, i, c, rfl, rfl, hz, he, q⟩ := h
  obtain ⟨t, rfl⟩ := rx
  obtain ⟨t', rfl⟩ := ry
  obtain ⟨j, h1, h2, h3, h4, h5⟩ := atI_get he
  have hl : z.cps.toList.length = z.length := by simp [Str.length]
  rw [hl] at h1 h4 h5
  have hn := line63
  exact tail_any (typeIs_str s z t) slot_str_getitem.lookup (getItem_str (c := c) (by
    have e1 : decide (i < -(2 ^ 63 : Int)) = false := decide_eq_false (by omega)
    have e2 : decide (i ≥ 2 ^ 63) = false := decide_eq_false (by omega)
    rw [e1, e2, Bool.or_false]) (by rw [h1]; simpa using h2) ⟨.str ⟨#[c]⟩, H, I.tok _, ⟨_, rfl⟩, q⟩) hs
/-- list, tuple or str -/
def rIx (K : PySem.W.Frag) : R2 := fun x y H Q => rIxL K x y H Q ∨ rIxT K x y H Q ∨ rIxS x y H Q
theorem ix_seq : IxR X (rIx X.K) := ix_list.or (ix_tup.or ix_str)

/-! ### xs[i] = v, any sign -/
/-- the list's object behind a store -/
theorem mapSeq_set (its : List Value) (n j : Nat) (u : Value) : Obj.mapSeq (·.setIfInBounds j u) { cls := .type "list", data := .seq its.toArray n } = { cls := .type "list", data := .seq (its.set j u).toArray n } := by
  simp [Obj.mapSeq]
theorem Inv.lst {pins : List (Addr × Obj)} {σ : St} {H : Hp} {s : Shared} {p : Addr} {xs : List V} (I : Inv X pins σ H s) (h : H p = some (.lst xs)) :
    ∃ (its : List Value) (n : Nat), Vals xs its ∧ s.heap.get? p = some { cls := .type "list", data := .seq its.toArray n } ∧ xs.length ≤ sizeLine := by
  obtain ⟨z, its, n, r, e⟩ := I.hok p _ h
  exact ⟨its, n, r, e, z⟩
/-- the list at p is written by an update of its object -/
theorem Inv.lstUpd {pins : List (Addr × Obj)} {σ : St} {H : Hp} {s : Shared} {p : Addr} {xs ys : List V} {its its' : List Value} {n n' : Nat} {f : Obj → Obj} (I : Inv X pins σ H s) (h : H p = some (.lst xs))
    (ho : s.heap.get? p = some { cls := .type "list", data := .seq its.toArray n }) (hf : f { cls := .type "list", data := .seq its.toArray n } = { cls := .type "list", data := .seq its'.toArray n' }) (r : Vals ys its') (hz : ys.length ≤ sizeLine) (t : Nat) :
    Inv X pins σ (upd H p (.lst ys)) { s with heap := s.heap.update p f, toks := t } := by
  have e : (s.heap.update p f).get? p = some { cls := .type "list", data := .seq its'.toArray n' } := by
    rw [Heap.get?_update_self f ho (by rw [hf] <;> rfl), hf]
  refine I.write (x := p) (e := p) (by rw [h]; trivial) (.inl rfl) (fun b u hb q => (Heap.get?_update_other _ _ (Ne.symm hb)).trans q) ⟨_, e⟩ ?_
  exact ⟨hz, its', n', r, e⟩
def rSetL : V → V → V → Hp → (Hp → Prop) → Prop := fun o i v H Q => ∃ p xs k j, o = .ref p ∧ i = .int k ∧ H p = some (.lst xs) ∧ ixN xs.length k = some j ∧ Q (upd H p (.lst (xs.set j v)))
theorem set_list : PSet X rSetL := by
  intro pins s σ H o i v ov iv u Q I ro ri rv h
  obtain ⟨p, xs, k, j, rfl, rfl, hp, hj, q⟩ := h
  cases ro
  obtain ⟨t, rfl⟩ := ri
  obtain ⟨its, n, r, ho, hz⟩ := I.lst hp
  obtain ⟨h1, h2, h3, h4⟩ := ixN_seq hj
  have hl := r.length
  have hn := line63
  have I' : Inv X pins σ (upd H p (.lst (xs.set j v))) { s with heap := s.heap.update p (Obj.mapSeq (·.setIfInBounds j u)) } :=
    I.lstUpd hp ho (mapSeq_set its n j u) (r.set rv j) (by rw [List.length_set]; exact hz) s.toks
  by_cases h0 : 0 ≤ k
  · have hk : k.toNat = j := by
      rw [seqIndex_of h0 h4] at h1
      exact Option.some.inj h1
    exact PySem.W.ki_setAt ho h0 (by omega) (by rw [List.size_toArray, ← hl]; exact h4) (by rw [hk]; exact ⟨_, I', q⟩)
  · have hk : (k + (its.toArray.size : Int)).toNat = j := by
      rw [seqIndex_neg (by omega) h3] at h1
      rw [List.size_toArray, ← hl]
      exact Option.some.inj h1
    exact PySem.W.ki_setBack ho (by omega) (by rw [List.size_toArray, ← hl]; exact h3) (by omega) (by rw [hk]; exact ⟨_, I', q⟩)

/-! ### slices -/
theorem slice_bounds (lo hi : Option Int) (n : Nat) : (sliceBounds lo hi none n).1 = ((HT.sIx n 0 lo : Nat) : Int) ∧ (sliceBounds lo hi none n).2.1 = ((HT.sIx n n hi : Nat) : Int) ∧ (sliceBounds lo hi none n).2.2 = 1 := by
  refine ⟨?_, ?_, rfl⟩
  · cases lo with
    | none => simp [sliceBounds, HT.sIx]
    | some i =>
      simp only [sliceBounds, HT.sIx, Option.getD_none, show (1 : Int) > 0 by decide, if_true]
      by_cases h : i < 0
      · simp only [h, if_true] <;> omega
      · simp only [h, if_false] <;> omega
  · cases hi with
    | none => simp [sliceBounds, HT.sIx]
    | some i =>
      simp only [sliceBounds, HT.sIx, Option.getD_none, show (1 : Int) > 0 by decide, if_true]
      by_cases h : i < 0
      · simp only [h, if_true] <;> omega
      · simp only [h, if_false] <;> omega
theorem slicePick_cut (its : List Value) (lo hi : Option Int) : slicePick its.toArray lo hi none = ((its.drop (HT.sIx its.length 0 lo)).take (HT.sIx its.length its.length hi - HT.sIx its.length 0 lo)).toArray := by
  obtain ⟨h1, h2, h3⟩ := slice_bounds lo hi its.toArray.size
  unfold slicePick
  rw [h1, h2, h3]
  simp only [sliceRange_one, pick_run, List.size_toArray] <;> rfl
/-- xs[lo:hi] of a list: a new list -/
def rSlL (K : PySem.W.Frag) : V → Option Int → Option Int → Hp → VK → Prop := fun x lo hi H Q => ∃ a xs, x = .ref a ∧ SqL K H a xs ∧ ∀ p, H p = none → Q (.ref p) (upd H p (.lst (cutV xs lo hi)))
theorem sl_list : SlR X (rSlL X.K) := by
  intro pins s σ H x v vl vu lo hi sl Q I rx hs pl pu h
  obtain ⟨a, xs, rfl, hx, q⟩ := h
  cases rx
  obtain ⟨its, r, ht, hz⟩ := I.list hx
  have hlen := r.length
  refine ⟨"list", _, slot_list_getitem.lookup, ht.isList.typeIs, ?_⟩
  refine wpAny_getItem_list_slice ht.isList hs pl pu .none (by simp) ?_ (by rw [List.size_toArray] <;> omega)
  rw [slicePick_cut, ← hlen]
  refine ⟨.ref s.heap.objs.size, _, I.laid (t' := s.toks) (o := .lst (cutV xs lo hi)) (fun b ob q => Heap.get?_push_of_some _ q) (Nat.le_refl _) ?_, rfl, q _ (I.hok.fresh (Nat.le_refl _))⟩
  exact ⟨Nat.le_trans (cutV_length xs lo hi) hz, _, 0, (r.drop (HT.sIx xs.length 0 lo)).take (HT.sIx xs.length xs.length hi - HT.sIx xs.length 0 lo), Heap.get?_push_size _ rfl⟩

/-! ### in, not in: flat items -/
def flatV : V → Bool
  | .non => true
  | .bl _ => true
  | .int _ => true
  | .str _ => true
  | _ => false
/-- == of flat values -/
def eqV : V → V → Bool
  | .non, .non => true
  | .bl a, .bl b => a == b
  | .bl a, .int b => (if a then 1 else 0) == b
  | .int a, .bl b => a == (if b then 1 else 0)
  | .int a, .int b => a == b
  | .str a, .str b => a == b
  | _, _ => false
theorem eqAt_V {A : Around} {s : Shared} {y x : V} {u v : Value} (ry : RelV y u) (rx : RelV x v) (fy : flatV y = true) (fx : flatV x = true) : SeqAt.EqAt A s u v (eqV y x) := by
  cases y with
  | non =>
    cases ry
    cases x with
    | non => cases rx; exact SeqAt.EqAt.same _
    | bl b => cases rx; exact SeqAt.EqAt.none_bool b
    | int b => obtain ⟨t, rfl⟩ := rx; exact SeqAt.EqAt.none_int b t
    | str b => obtain ⟨t, rfl⟩ := rx; exact SeqAt.EqAt.none_str b t
    | _ => exact absurd (show false = true from fx) Bool.false_ne_true
  | bl a =>
    cases ry
    cases x with
    | non => cases rx; exact SeqAt.EqAt.bool_none a
    | bl b => cases rx; exact SeqAt.EqAt.bool_bool a b
    | int b => obtain ⟨t, rfl⟩ := rx; exact SeqAt.EqAt.bool_int a b t
    | str b => obtain ⟨t, rfl⟩ := rx; exact SeqAt.EqAt.bool_str a b t
    | _ => exact absurd (show false = true from fx) Bool.false_ne_true
  | int a =>
    obtain ⟨t', rfl⟩ := ry
    cases x with
    | non => cases rx; exact SeqAt.EqAt.int_none a t'
    | bl b => cases rx; exact SeqAt.EqAt.int_bool a t' b
    | int b => obtain ⟨t, rfl⟩ := rx; exact SeqAt.EqAt.int_int a t' b t
    | str b => obtain ⟨t, rfl⟩ := rx; exact SeqAt.EqAt.int_str a t' b t
    | _ => exact absurd (show false = true from fx) Bool.false_ne_true
  | str a =>
    obtain ⟨t', rfl⟩ := ry
    cases x with
    | non => cases rx; exact SeqAt.EqAt.str_none a t'
    | bl b => cases rx; exact SeqAt.EqAt.str_bool a t' b
    | int b => obtain ⟨t, rfl⟩ := rx; exact SeqAt.EqAt.str_int a t' b t
    | str b => obtain ⟨t, rfl⟩ := rx; exact SeqAt.EqAt.str_str a t' b t
    | _ => exact absurd (show false = true from fx) Bool.false_ne_true
  | _ => exact absurd (show false = true from fy) Bool.false_ne_true
/-- the items' answers, read off the values (a value's own answer does not lean on its token) -/
def eqU (x : V) (u : Value) : Bool := match u with
  | .none => eqV .non x
  | .bool b => eqV (.bl b) x
  | .int i _ => eqV (.int i) x
  | .str z _ => eqV (.str z) x
  | _ => false
theorem eqU_of {x y : V} {u : Value} (r : RelV y u) (f : flatV y = true) : eqU x u = eqV y x := by
  cases y with
  | non => cases r; rfl
  | bl b => cases r; rfl
  | int i => obtain ⟨t, rfl⟩ := r; rfl
  | str z => obtain ⟨t, rfl⟩ := r; rfl
  | _ => exact absurd (show false = true from f) Bool.false_ne_true
theorem any_eqU {x : V} : ∀ {xs : List V} {us : List Value}, Vals xs us → xs.all flatV = true → us.any (eqU x) = xs.any fun y => eqV y x
  | _, _, .nil, _ => rfl
  | y :: xs, u :: us, .cons r t, f => by
    rw [List.all_cons, Bool.and_eq_true] at f
    rw [List.any_cons, List.any_cons, eqU_of r f.1, any_eqU t f.2]
theorem mem_eqAt {A : Around} {s : Shared} {x : V} {v : Value} (rx : RelV x v) (fx : flatV x = true) : ∀ {xs : List V} {us : List Value}, Vals xs us → xs.all flatV = true → ∀ u ∈ us, SeqAt.EqAt A s u v (eqU x u)
  | _, _, .nil, _ => fun u hu => by cases hu
  | y :: xs, u :: us, .cons r t, f => fun u' hu => by
    rw [List.all_cons, Bool.and_eq_true] at f
    rcases List.mem_cons.mp hu with rfl | hu
    · rw [eqU_of r f.1]; exact eqAt_V r rx f.1 fx
    · exact mem_eqAt rx fx t f.2 u' hu
def inV (x : V) (xs : List V) : Bool := xs.any fun y => eqV y x
/-- x in a list or tuple of flat items -/
def rIn (K : PySem.W.Frag) (neg : Bool) : R2 := fun x y H Q => ∃ p xs, y = .ref p ∧ (SqL K H p xs ∨ SqT K H p xs) ∧ flatV x = true ∧ xs.all flatV = true ∧ Q (.bl (if neg then !inV x xs else inV x xs)) H
theorem op_in_seq : OpR X (compareOp .In) (rIn X.K false) := by
  intro pins s σ H x y v u Q I rx ry h
  obtain ⟨p, xs, rfl, hq, fx, fs, q⟩ := h
  cases ry
  rcases hq with hq | hq
  · obtain ⟨its, r, pl, hz⟩ := I.list hq
    refine SeqAt.in_listAt (eqU x) pl.isList (fun w hw => mem_eqAt rx fx r fs w (by simpa using hw)) ⟨.bl _, H, I, rfl, ?_⟩
    rw [show its.toArray.any (eqU x) = its.any (eqU x) by simp, any_eqU r fs]
    exact q
  · obtain ⟨its, r, pl, hz⟩ := I.tuple hq
    refine SeqAt.in_tupleAt (eqU x) pl (fun w hw => mem_eqAt rx fx r fs w (by simpa using hw)) ⟨.bl _, H, I, rfl, ?_⟩
    rw [show its.toArray.any (eqU x) = its.any (eqU x) by simp, any_eqU r fs]
    exact q
theorem op_notIn_seq : OpR X (compareOp .NotIn) (rIn X.K true) := by
  intro pins s σ H x y v u Q I rx ry h
  obtain ⟨p, xs, rfl, hq, fx, fs, q⟩ := h
  cases ry
  rcases hq with hq | hq
  · obtain ⟨its, r, pl, hz⟩ := I.list hq
    refine SeqAt.notIn_listAt (eqU x) pl.isList (fun w hw => mem_eqAt rx fx r fs w (by simpa using hw)) ⟨.bl _, H, I, rfl, ?_⟩
    rw [show its.toArray.any (eqU x) = its.any (eqU x) by simp, any_eqU r fs]
    exact q
  · obtain ⟨its, r, pl, hz⟩ := I.tuple hq
    refine SeqAt.notIn_tupleAt (eqU x) pl (fun w hw => mem_eqAt rx fx r fs w (by simpa using hw)) ⟨.bl _, H, I, rfl, ?_⟩
    rw [show its.toArray.any (eqU x) = its.any (eqU x) by simp, any_eqU r fs]
    exact q
theorem op_notIn_str : OpR X (compareOp .NotIn) (fun x y H Q => ∃ i j, x = .str i ∧ y = .str j ∧ Q (.bl (!(!(Builtin.Str.occurrences j i 0 j.length 1).isEmpty))) H) := by
  intro pins s σ H x y v u Q I rx ry h
  obtain ⟨i, j, rfl, rfl, q⟩ := h
  obtain ⟨t, rfl⟩ := rx
  obtain ⟨t', rfl⟩ := ry
  exact notIn_str ⟨.bl _, H, I, rfl, q⟩

/-! ### len, list(x), tuple(x) of any list or tuple that is read -/
theorem call_len_seq : CallR X (.builtin "len") (fun xs H Q => ∃ p ys, xs = [.ref p] ∧ (SqL X.K H p ys ∨ SqT X.K H p ys) ∧ Q (.int ys.length) H) := by
  intro pins s σ H xs us Q I r h
  obtain ⟨p, ys, rfl, hq, q⟩ := h
  obtain ⟨u, rfl, rx⟩ := vals1 r
  cases rx
  have hn := line63
  rcases hq with hq | hq
  · obtain ⟨its, r', pl, hz⟩ := I.list hq
    have hlen := r'.length
    exact Calls.call_len_list pl.isList (by simp only [List.size_toArray] <;> omega) ⟨.int ys.length, H, I.tok _, ⟨s.toks + 1, by rw [List.size_toArray, hlen]⟩, q⟩
  · obtain ⟨its, r', pl, hz⟩ := I.tuple hq
    have hlen := r'.length
    exact len_tuple pl (by simp only [List.size_toArray] <;> omega) ⟨.int ys.length, H, I.tok _, ⟨s.toks + 1, by rw [List.size_toArray, hlen]⟩, q⟩
theorem call_len_str : CallR X (.builtin "len") (fun xs H Q => ∃ z, xs = [.str z] ∧ z.length ≤ sizeLine ∧ Q (.int z.length) H) := by
  intro pins s σ H xs us Q I r h
  obtain ⟨z, rfl, hz, q⟩ := h
  obtain ⟨u, rfl, t, rfl⟩ := vals1 r
  have hn := line63
  exact len_str (by omega) ⟨.int z.length, H, I.tok _, ⟨_, rfl⟩, q⟩
theorem CallR.or {f : Value} {r r' : List V → Hp → VK → Prop} (h : CallR X f r) (h' : CallR X f r') : CallR X f (fun xs H Q => r xs H Q ∨ r' xs H Q) := by
  intro pins s σ H xs us Q I rs q
  rcases q with q | q
  · exact h pins s σ H xs us Q I rs q
  · exact h' pins s σ H xs us Q I rs q
theorem call_list_of : CallR X (.type "list") (fun xs H Q => ∃ p ys, xs = [.ref p] ∧ (SqL X.K H p ys ∨ SqT X.K H p ys) ∧ ∀ l, H l = none → Q (.ref l) (upd H l (.lst ys))) := by
  intro pins s σ H xs us Q I r h
  obtain ⟨p, ys, rfl, hq, q⟩ := h
  obtain ⟨u, rfl, rx⟩ := vals1 r
  cases rx
  have fin : ∀ (its : List Value), Vals ys its → ys.length ≤ sizeLine → ∀ (h' : Heap) (c' : Nat), (∀ b o', s.heap.get? b = some o' → h'.get? b = some o') →
      h'.get? s.heap.objs.size = some { cls := .type "list", dict := none, data := .seq its.toArray c', slots := #[] } → EP X pins σ Q (.ref s.heap.objs.size) { s with heap := h' } := fun its r' hz h' c' kp e =>
    ⟨.ref s.heap.objs.size, _, I.laid (t' := s.toks) kp (Nat.le_refl _) (show ObjOk X.prog X.w _ h' _ (.lst ys) from ⟨hz, its, c', r', e⟩), rfl, q _ (I.hok.fresh (Nat.le_refl _))⟩
  rcases hq with hq | hq
  · obtain ⟨its, r', pl, hz⟩ := I.list hq
    have hlen := r'.length
    obtain ⟨o, ho, hc, n, hd⟩ := pl.isList
    exact call_list_seq p (.inl rfl) ho hc hd (fun h' c' kp e => fin its r' hz h' c' kp e) (by simp only [List.size_toArray] <;> omega)
  · obtain ⟨its, r', pl, hz⟩ := I.tuple hq
    have hlen := r'.length
    obtain ⟨o, ho, hc, n, hd⟩ := pl
    exact call_list_seq p (.inr rfl) ho hc hd (fun h' c' kp e => fin its r' hz h' c' kp e) (by simp only [List.size_toArray] <;> omega)
theorem call_tuple_of : CallR X (.type "tuple") (fun xs H Q => ∃ p ys, xs = [.ref p] ∧ ((SqL X.K H p ys ∧ ∀ l, H l = none → Q (.ref l) (upd H l (.tup ys))) ∨ (SqT X.K H p ys ∧ Q (.ref p) H))) := by
  intro pins s σ H xs us Q I r h
  obtain ⟨p, ys, rfl, h⟩ := h
  obtain ⟨u, rfl, rx⟩ := vals1 r
  cases rx
  rcases h with ⟨hq, q⟩ | ⟨hq, q⟩
  · obtain ⟨its, r', pl, hz⟩ := I.list hq
    have hlen := r'.length
    refine call_tuple_list pl.isList (fun h' kp => ?_) (by simp only [List.size_toArray] <;> omega)
    have I1 : Inv X pins σ H { s with heap := h' } := I.kept (t' := s.toks) kp
    have I2 : Inv X pins σ (upd H h'.objs.size (.tup ys)) { s with heap := h'.push { cls := .type "tuple", data := .seq its.toArray } } :=
      I1.laid (t' := s.toks) (fun b o e => Heap.get?_push_of_some _ e) (Nat.le_refl _) (show ObjOk X.prog X.w _ _ _ (.tup ys) from ⟨hz, its, r', IsTup.new _ _⟩)
    exact ⟨.ref h'.objs.size, _, I2, rfl, q _ (I1.hok.fresh (Nat.le_refl _))⟩
  · obtain ⟨its, r', pl, hz⟩ := I.tuple hq
    exact call_tuple_same pl ⟨.ref p, H, I, rfl, q⟩

/-! ### the call of a builtin's method: o.m(..) -/
/-- the value is of that builtin type -/
def tyV (K : PySem.W.Frag) (T : String) (x : V) (H : Hp) : Prop := match x with
  | .str _ => T = "str"
  | .int _ => T = "int"
  | .ref p => (T = "list" ∧ ∃ xs, SqL K H p xs) ∨ (T = "tuple" ∧ ∃ o, K.lookup p = some o ∧ o.cls = .type "tuple" ∧ o.dict = none) ∨
      (T = "dict" ∧ ((∃ kvs, H p = some (.dK kvs)) ∨ ∃ kvs, H p = some (.dT kvs))) ∨ (T = "set" ∧ ∃ S n, H p = some (.set S n))
  | _ => False
theorem tyV_is {pins : List (Addr × Obj)} {σ : St} {H : Hp} {s : Shared} {T : String} {x : V} {v : Value} (I : Inv X pins σ H s) (r : RelV x v) (ty : tyV X.K T x H) :
    s.TypeIs v T ∧ ∀ a, v = .ref a → ∃ ob, s.heap.get? a = some ob ∧ ob.dict = none := by
  cases x with
  | str z =>
    obtain ⟨t, rfl⟩ := r
    cases (show T = "str" from ty)
    exact ⟨typeIs_str s z t, fun _ e => nomatch e⟩
  | int i =>
    obtain ⟨t, rfl⟩ := r
    cases (show T = "int" from ty)
    exact ⟨typeIs_int s i t, fun _ e => nomatch e⟩
  | ref p =>
    cases r
    rcases ty with ⟨rfl, xs, hq⟩ | ⟨rfl, o, hk, hc, hd⟩ | ⟨rfl, hk⟩ | ⟨rfl, S, n, hk⟩
    · obtain ⟨its, _, pl, _⟩ := I.list hq
      refine ⟨pl.isList.typeIs, fun a e => ?_⟩
      cases e
      obtain ⟨o, n, e, c, hd, _⟩ := pl
      exact ⟨o, e, hd⟩
    · refine ⟨⟨o, I.kIn p o hk, hc⟩, fun a e => ?_⟩
      cases e
      exact ⟨o, I.kIn _ o hk, hd⟩
    · have z : ∃ o, s.heap.get? p = some o ∧ o.ExactDict := by
        rcases hk with ⟨kvs, hk⟩ | ⟨kvs, hk⟩
        · obtain ⟨_, _, _, _, o, _, _, e, ex, _⟩ := I.hok p _ hk
          exact ⟨o, e, ex⟩
        · obtain ⟨_, _, _, _, o, _, _, e, ex, _⟩ := I.hok p _ hk
          exact ⟨o, e, ex⟩
      obtain ⟨o, e, ex⟩ := z
      refine ⟨⟨o, e, ex.1⟩, fun a e2 => ?_⟩
      cases e2
      exact ⟨o, e, ex.2.1⟩
    · obtain ⟨o, _, _, _, e, ex, _⟩ := I.hok p _ hk
      refine ⟨⟨o, e, ex.1⟩, fun a e2 => ?_⟩
      cases e2
      exact ⟨o, e, ex.2.1⟩
  | _ => exact False.elim ty
def tBM0 (K : PySem.W.Frag) (T : String) (r : V → List V → Hp → VK → Prop) (to : TE) : TE := fun σ H Q => to σ H fun x H1 => tyV K T x H1 ∧ r x [] H1 Q
def tBM (K : PySem.W.Frag) (T : String) (r : V → List V → Hp → VK → Prop) (to : TE) (t : TA) : TE := fun σ H Q => to σ H fun x H1 => tyV K T x H1 ∧ t σ H1 fun xs H2 => r x xs H2 Q
variable {o e : Expr} {es : List Expr} {to : TE} {t : TA} {name : Str} {apos cpos : Pos} {T id : String} {r : V → List V → Hp → VK → Prop}
theorem pe_bm0 (pa : PlainAttrs T) (slot : Slot T name id) (hty : typeOf (.builtin id) = pure (.type "method_descriptor")) (hm : MtR X id r) (ho : PE X o to)
    (hbase : attributeBase o name X.env (eval o X.env) = eval o X.env := by rfl) (hline : (apos.endLine == cpos.line) = true := by rfl) : PE X (.Call (.Attribute o name apos) [] [] cpos) (tBM0 X.K T r to) := by
  intro pins s σ H Q I h
  refine wpAny_Call_method0_late hbase hline (thn (ho pins s σ H _ I h) fun v s1 ⟨x, H1, I1, r1, ty, q1⟩ => ?_)
  obtain ⟨h1, h2⟩ := tyV_is I1 r1 ty
  exact ⟨T, id, pa, slot, hty, h1, h2, Calls.callWith_builtin rfl (PySem.evalArgs_none (hm pins s1 σ H1 x [] v [] Q I1 r1 .nil q1))⟩
theorem pe_bm (pa : PlainAttrs T) (slot : Slot T name id) (hty : typeOf (.builtin id) = pure (.type "method_descriptor")) (hm : MtR X id r) (ho : PE X o to) (ha : PA X (e :: es) t)
    (hbase : attributeBase o name X.env (eval o X.env) = eval o X.env := by rfl)
    (hfew : ((backTo cpos (starEach (e :: es) X.env)).all (fun x => !x.1) && (backToKw cpos (keywordEach [] X.env)).all (fun x => x.1.isSome)
      && decide ((e :: es).length + ([] : List Keyword).length + (if ([] : List Keyword).isEmpty then 0 else 1) < 30)) = true := by rfl)
    (hline : (apos.endLine == cpos.line) = true := by rfl) (hs : starEach (e :: es) X.env = (false, eval e X.env) :: starEach es X.env := by rfl) (hplain : (backTo cpos (starEach es X.env)).any (·.1) = false := by rfl) :
    PE X (.Call (.Attribute o name apos) (e :: es) [] cpos) (tBM X.K T r to t) := by
  intro pins s σ H Q I h
  refine wpAny_Call_method_late hbase hfew hline rfl (thn (ho pins s σ H _ I h) fun v s1 ⟨x, H1, I1, r1, ty, q1⟩ => ?_)
  obtain ⟨h1, h2⟩ := tyV_is I1 r1 ty
  refine ⟨T, id, pa, slot, hty, h1, h2, ?_⟩
  have hA := ha cpos pins s1 σ H1 _ I1 q1
  rw [hs] at hA ⊢
  refine Calls.callWith_builtin (by show (false || (backTo cpos (starEach es X.env)).any (·.1)) = false; rw [hplain] <;> rfl) (Calls.evalArgs_plain ?_)
  exact thn hA fun us s2 ⟨vs, H2, I2, r2, q2⟩ => hm pins s2 σ H2 x vs v us Q I2 r1 r2 q2
/- xs.append(e), list.index on a module's tuple .. are MtR facts of 06m -/
end
end L2

namespace L2
open PySem PySem.Spec PyProof.Rows

def MtM (X : Cx) (id : String) (r : V → List V → Hp → VK → Prop) : Prop :=
  ∀ (pins : List (Addr × Obj)) (s : Shared) (σ : St) (H : Hp) (x : V) (xs : List V) (v : Value) (us : List Value) (Q : VK), Inv X pins σ H s → RelV x v → Vals xs us → r x xs H Q →
    wpAny (model X.prog X.w) X.A (call (.builtin id) (v :: us)) (EP X pins σ Q) X.xe s

/-! ### lists of values -/
theorem Vals.one : ∀ {x : V} {us : List Value}, Vals [x] us → ∃ u, us = [u] ∧ RelV x u
  | _, _, .cons r .nil => ⟨_, rfl, r⟩
theorem Vals.two : ∀ {x y : V} {us : List Value}, Vals [x, y] us → ∃ u v, us = [u, v] ∧ RelV x u ∧ RelV y v
  | _, _, _, .cons r (.cons q .nil) => ⟨_, _, rfl, r, q⟩
theorem Vals.zero : ∀ {us : List Value}, Vals [] us → us = []
  | _, .nil => rfl
theorem Vals.dropLast {xs : List V} {us : List Value} (h : Vals xs us) : Vals xs.dropLast us.dropLast := by
  induction h with
  | nil => exact .nil
  | cons r t ih =>
    cases t with
    | nil => exact .nil
    | cons q t' => exact .cons r ih
theorem Vals.eraseIdx : ∀ {xs : List V} {us : List Value} (i : Nat), Vals xs us → Vals (xs.eraseIdx i) (us.eraseIdx i)
  | _, _, _, .nil => .nil
  | _, _, 0, .cons _ t => t
  | _, _, i + 1, .cons r t => .cons r (Vals.eraseIdx i t)
theorem Vals.reverse {xs : List V} {us : List Value} (h : Vals xs us) : Vals xs.reverse us.reverse := by
  induction h with
  | nil => exact .nil
  | cons r t ih => rw [List.reverse_cons, List.reverse_cons]; exact Vals.append ih (.cons r .nil)
theorem Vals.rep {xs : List V} {us : List Value} (h : Vals xs us) : ∀ k : Nat, Vals (List.replicate k xs).flatten (List.replicate k us).flatten
  | 0 => .nil
  | k + 1 => by
    rw [List.replicate_succ, List.replicate_succ, List.flatten_cons, List.flatten_cons]
    exact Vals.append h (Vals.rep h k)
theorem erase_last {α : Type} (l : List α) : l.eraseIdx (l.length - 1) = l.dropLast := by
  induction l with
  | nil => rfl
  | cons a r ih =>
    cases r with
    | nil => rfl
    | cons b r =>
      have e : (a :: b :: r).length - 1 = ((b :: r).length - 1) + 1 := by
        have h1 : (a :: b :: r).length = r.length + 2 := rfl
        have h2 : (b :: r).length = r.length + 1 := rfl
        omega
      rw [e, List.eraseIdx_cons_succ, ih]
      all_goals rfl
theorem len_erase {α : Type} : ∀ (l : List α) (i : Nat), (l.eraseIdx i).length ≤ l.length
  | [], _ => Nat.le_refl _
  | _ :: _, 0 => Nat.le_succ _
  | _ :: r, i + 1 => Nat.succ_le_succ (len_erase r i)
theorem foldl_rep (its : List Value) : ∀ (k : Nat) (acc : List Value),
    List.foldl (fun x1 x2 => x1 ++ x2) acc.toArray (List.replicate k its.toArray) = (acc ++ (List.replicate k its).flatten).toArray
  | 0, acc => by simp
  | k + 1, acc => by
    have e : acc.toArray ++ its.toArray = (acc ++ its).toArray := by simp
    have e2 : (acc ++ its) ++ (List.replicate k its).flatten = acc ++ (List.replicate (k + 1) its).flatten := by
      rw [List.replicate_succ, List.flatten_cons, List.append_assoc]
    rw [← e2, ← foldl_rep its k (acc ++ its), ← e, List.replicate_succ, List.foldl_cons]

section
variable {X : Cx} {pins : List (Addr × Obj)} {σ : St} {H : Hp} {s : Shared} {l b : Addr} {xs ys zs : List V}

/-! ### the two steps: a tracked list is rewritten, a new list is laid -/
theorem Inv.lset {its its' : List Value} {n : Nat} {f : Array Value → Array Value} {t' : Nat} (I : Inv X pins σ H s) (hH : H l = some (.lst xs))
    (e : s.heap.get? l = some { cls := .type "list", data := .seq its.toArray n }) (hf : f its.toArray = its'.toArray) (hv : Vals ys its') (hz : ys.length ≤ sizeLine) :
    Inv X pins σ (upd H l (.lst ys)) { s with heap := s.heap.update l (Obj.mapSeq f), toks := t' } := by
  have q := PySem.IsL.update e f
  rw [hf] at q
  refine I.write (x := l) (e := l) (by rw [hH]; exact trivial) (.inl rfl) (fun b' u hb hu => (Heap.get?_update_other s.heap (Obj.mapSeq f) (Ne.symm hb)).trans hu) ⟨_, q⟩ ?_
  exact ⟨hz, its', _, hv, q⟩
theorem Inv.lnew {its : List Value} {t' : Nat} (I : Inv X pins σ H s) (hv : Vals ys its) (hz : ys.length ≤ sizeLine) :
    Inv X pins σ (upd H s.heap.objs.size (.lst ys)) { s with heap := s.heap.push { cls := .type "list", data := .seq its.toArray }, toks := t' } :=
  I.laid (fun _ _ q => Heap.get?_push_of_some _ q) (Nat.le_refl _) ⟨hz, its, 0, hv, Heap.get?_push_size _ rfl⟩
theorem Inv.fresh (I : Inv X pins σ H s) : H s.heap.objs.size = none := I.hok.fresh (Nat.le_refl _)
theorem Inv.lstM (I : Inv X pins σ H s) (hH : H l = some (.lst xs)) : xs.length ≤ sizeLine ∧ ∃ (its : List Value) (n : Nat), Vals xs its ∧ xs.length = its.length ∧ s.heap.get? l = some { cls := .type "list", data := .seq its.toArray n } := by
  obtain ⟨z, its, n, r, e⟩ := I.hok l _ hH
  exact ⟨z, its, n, r, r.length, e⟩

theorem notLongL {n : Nat} (h : n ≤ sizeLine) : Builtin.List.listTooLong n = false := by
  unfold Builtin.List.listTooLong
  exact decide_eq_false (by omega)
end

section
variable {X : Cx}

/-! ### methods -/
def rAppend : V → List V → Hp → VK → Prop := fun x vs H Q => ∃ l xs y, x = .ref l ∧ vs = [y] ∧ H l = some (.lst xs) ∧ xs.length < sizeLine ∧ Q .non (upd H l (.lst (xs ++ [y])))
theorem mt_append : MtM X "list.append" rAppend := by
  intro pins s σ H x vs v us Q I rx rv h
  obtain ⟨l, xs, y, rfl, rfl, hH, hz, q⟩ := h
  cases rx
  obtain ⟨u, rfl, ru⟩ := rv.one
  obtain ⟨z, its, n, r, hl, e⟩ := I.lstM hH
  refine call_meets F.slot_list_append ⟨_, e, rfl⟩ F.entry_list_append (F.args_list_append_2 _ _) (PySem.list_append l its.toArray n u (by rw [List.size_toArray]; omega)) ⟨e, ?_⟩
  refine ⟨.non, _, I.lset (its' := its ++ [u]) hH e (by simp) (r.append (.cons ru .nil)) ?_, rfl, q⟩
  rw [List.length_append, List.length_singleton]
  omega

def rExtend : V → List V → Hp → VK → Prop := fun x vs H Q => ∃ l b xs zs, x = .ref l ∧ vs = [.ref b] ∧ H l = some (.lst xs) ∧ H b = some (.lst zs) ∧ xs.length + zs.length ≤ sizeLine ∧ Q .non (upd H l (.lst (xs ++ zs)))
theorem mt_extend : MtM X "list.extend" rExtend := by
  intro pins s σ H x vs v us Q I rx rv h
  obtain ⟨l, b, xs, zs, rfl, rfl, hH, hB, hz, q⟩ := h
  cases rx
  obtain ⟨u, rfl, ru⟩ := rv.one
  cases ru
  obtain ⟨z, its, n, r, hl, e⟩ := I.lstM hH
  obtain ⟨z2, its2, n2, r2, hl2, e2⟩ := I.lstM hB
  have hsz : its.toArray.size + its2.toArray.size ≤ sizeLine := by rw [List.size_toArray, List.size_toArray]; omega
  have hlong : ¬ (!its.toArray.isEmpty && Builtin.List.listTooLong (its.toArray.size + its2.toArray.size)) = true := by
    rw [notLongL hsz, Bool.and_false]
    exact Bool.false_ne_true
  refine call_meets F.slot_list_extend ⟨_, e, rfl⟩ F.entry_list_extend (F.args_list_extend_2 _ _)
    (AutoSeq1.list_extend_list_list_0 l its.toArray n b its2.toArray n2 hlong (by rw [List.size_toArray]; omega) (by omega)) ⟨e, e2, ?_⟩
  refine ⟨.non, _, I.lset (its' := its ++ its2) hH e (by simp) (r.append r2) ?_, rfl, q⟩
  rw [List.length_append]
  omega

def rPop : V → List V → Hp → VK → Prop := fun x vs H Q => ∃ l xs y, x = .ref l ∧ vs = [] ∧ H l = some (.lst xs) ∧ xs[xs.length - 1]? = some y ∧ Q y (upd H l (.lst xs.dropLast))
theorem mt_pop : MtM X "list.pop" rPop := by
  intro pins s σ H x vs v us Q I rx rv h
  obtain ⟨l, xs, y, rfl, rfl, hH, hy, q⟩ := h
  cases rx
  have hus := rv.zero
  subst hus
  obtain ⟨z, its, n, r, hl, e⟩ := I.lstM hH
  obtain ⟨u, hu, ru⟩ := r.get hy
  have hy' : its.toArray[its.toArray.size - 1]? = some u := by
    show its.toArray[its.length - 1]? = some u
    rw [← Array.getElem?_toList, ← hl]
    exact hu
  refine call_meets F.slot_list_pop ⟨_, e, rfl⟩ F.entry_list_pop (F.args_list_pop_1 _) (MeetsSeq.list_pop_last l its.toArray n u hy' (by rw [List.size_toArray]; omega)) ⟨e, ?_⟩
  refine ⟨y, _, I.lset (its' := its.dropLast) hH e ?_ r.dropLast ?_, ru, q⟩
  · show its.toArray.eraseIdxIfInBounds (its.toArray.size - 1) = its.dropLast.toArray
    rw [List.size_toArray, List.eraseIdxIfInBounds_toArray, erase_last]
  · rw [List.length_dropLast]
    omega

def rPopAt : V → List V → Hp → VK → Prop := fun x vs H Q => ∃ l xs i k y, x = .ref l ∧ vs = [.int i] ∧ H l = some (.lst xs) ∧ -(2 ^ 63) ≤ i ∧ i < 2 ^ 63 ∧ seqIndex? i xs.length = some k ∧ xs[k]? = some y ∧ Q y (upd H l (.lst (xs.eraseIdx k)))
theorem mt_popAt : MtM X "list.pop" rPopAt := by
  intro pins s σ H x vs v us Q I rx rv h
  obtain ⟨l, xs, i, k, y, rfl, rfl, hH, h1, h2, hk, hy, q⟩ := h
  cases rx
  obtain ⟨u, rfl, ru⟩ := rv.one
  obtain ⟨t, rfl⟩ := ru
  obtain ⟨z, its, n, r, hl, e⟩ := I.lstM hH
  obtain ⟨w, hw, rw'⟩ := r.get hy
  refine call_meets F.slot_list_pop ⟨_, e, rfl⟩ F.entry_list_pop (F.args_list_pop_2 _ _)
    (MeetsSeq.list_pop_at l its.toArray n i t k w (fitsIndex_both h1 h2) (by rw [List.size_toArray, ← hl]; exact hk) (by rw [← Array.getElem?_toList]; exact hw) (by rw [List.size_toArray]; omega)) ⟨e, ?_⟩
  refine ⟨y, _, I.lset (its' := its.eraseIdx k) hH e ?_ (r.eraseIdx k) ?_, rw', q⟩
  · show its.toArray.eraseIdxIfInBounds k = (its.eraseIdx k).toArray
    rw [List.eraseIdxIfInBounds_toArray]
  · have := len_erase xs k
    omega

def rReverse : V → List V → Hp → VK → Prop := fun x vs H Q => ∃ l xs, x = .ref l ∧ vs = [] ∧ H l = some (.lst xs) ∧ Q .non (upd H l (.lst xs.reverse))
theorem mt_reverse : MtM X "list.reverse" rReverse := by
  intro pins s σ H x vs v us Q I rx rv h
  obtain ⟨l, xs, rfl, rfl, hH, q⟩ := h
  cases rx
  have hus := rv.zero
  subst hus
  obtain ⟨z, its, n, r, hl, e⟩ := I.lstM hH
  refine call_meets F.slot_list_reverse ⟨_, e, rfl⟩ F.entry_list_reverse (F.args_list_reverse_1 _) (AutoSeq1.list_reverse_list_0 l its.toArray n (by rw [List.size_toArray]; omega)) ⟨e, ?_⟩
  refine ⟨.non, _, I.lset (its' := its.reverse) hH e (by simp) r.reverse ?_, rfl, q⟩
  rw [List.length_reverse]
  omega

def rClear : V → List V → Hp → VK → Prop := fun x vs H Q => ∃ l xs, x = .ref l ∧ vs = [] ∧ H l = some (.lst xs) ∧ Q .non (upd H l (.lst []))
theorem mt_clear : MtM X "list.clear" rClear := by
  intro pins s σ H x vs v us Q I rx rv h
  obtain ⟨l, xs, rfl, rfl, hH, q⟩ := h
  cases rx
  have hus := rv.zero
  subst hus
  obtain ⟨z, its, n, r, hl, e⟩ := I.lstM hH
  refine call_meets F.slot_list_clear ⟨_, e, rfl⟩ F.entry_list_clear (F.args_list_clear_1 _) (AutoSeq1.list_clear_list_0 l its.toArray n (by rw [List.size_toArray]; omega)) ⟨e, ?_⟩
  exact ⟨.non, _, I.lset (its' := []) (ys := []) hH e rfl .nil (Nat.zero_le _), rfl, q⟩

/-! ### list + list, list += list, list * int -/
def rCat : R2 := fun x y H Q => ∃ l b xs zs, x = .ref l ∧ y = .ref b ∧ H l = some (.lst xs) ∧ H b = some (.lst zs) ∧ xs.length + zs.length ≤ sizeLine ∧ ∀ p, H p = none → Q (.ref p) (upd H p (.lst (xs ++ zs)))
theorem op_cat : OpR X (binaryOp .Add) rCat := by
  intro pins s σ H x y v u Q I rx ry h
  obtain ⟨l, b, xs, zs, rfl, rfl, hH, hB, hz, q⟩ := h
  cases rx
  cases ry
  obtain ⟨z, its, n, r, hl, e⟩ := I.lstM hH
  obtain ⟨z2, its2, n2, r2, hl2, e2⟩ := I.lstM hB
  refine PySem.P.add_list e e2 ?_ (by rw [List.size_toArray, List.size_toArray]; omega)
  have ea : its.toArray ++ its2.toArray = (its ++ its2).toArray := by simp
  rw [ea]
  exact ⟨.ref _, _, I.lnew (t' := s.toks) (r.append r2) (by rw [List.length_append]; omega), rfl, q _ I.fresh⟩
/-- a list times an int (a negative one is nothing) -/
def rRep : R2 := fun x y H Q => ∃ l k xs, x = .ref l ∧ y = .int k ∧ H l = some (.lst xs) ∧ -(2 ^ 63) ≤ k ∧ k < 2 ^ 63 ∧ xs.length * k.toNat ≤ sizeLine ∧
  ∀ p, H p = none → Q (.ref p) (upd H p (.lst (List.replicate k.toNat xs).flatten))
theorem len_rep {α : Type} (xs : List α) (k : Nat) : (List.replicate k xs).flatten.length = k * xs.length := by
  induction k with
  | zero => simp
  | succ k ih => rw [List.replicate_succ, List.flatten_cons, List.length_append, ih, Nat.succ_mul, Nat.add_comm]
theorem op_rep : OpR X (binaryOp .Mult) rRep := by
  intro pins s σ H x y v u Q I rx ry h
  obtain ⟨l, k, xs, rfl, rfl, hH, h1, h2, hz, q⟩ := h
  cases rx
  obtain ⟨t, rfl⟩ := ry
  obtain ⟨z, its, n, r, hl, e⟩ := I.lstM hH
  have hlen : its.toArray.size * k.toNat ≤ sizeLine := by rw [List.size_toArray, ← hl]; exact hz
  have hcap : ¬ its.toArray.size * k.toNat > (2 ^ 63 - 1) / 8 := by
    have : (sizeLine : Nat) ≤ (2 ^ 63 - 1) / 8 := by decide
    omega
  have hfit : ¬ (!Builtin.List.listFitsIndex k) = true := by
    rw [fitsIndex_both h1 h2]
    exact Bool.false_ne_true
  have hlong : ¬ Builtin.List.listTooLong (its.toArray.size * k.toNat) = true := by
    rw [notLongL hlen]
    exact Bool.false_ne_true
  have hnew : List.foldl (fun x1 x2 => x1 ++ x2) #[] (List.replicate (if its.toArray.isEmpty = true then 0 else k.toNat) its.toArray) = (List.replicate k.toNat its).flatten.toArray := by
    have f0 : ∀ m : Nat, List.foldl (fun x1 x2 => x1 ++ x2) #[] (List.replicate m its.toArray) = (List.replicate m its).flatten.toArray := fun m => by
      have := foldl_rep its m []
      rw [List.nil_append] at this
      exact this
    rw [f0]
    cases its with
    | nil => simp
    | cons a r' => rw [if_neg (by simp)]
  refine wpAny_binaryOp_repeat_ref (T := "list") (U := "int") (by decide) ⟨_, e, rfl⟩ (fun s' => typeIs_int s' k t) noFill_list_mul F.fills_int_mul F.slot_int_rmul repeat_list F.slot_int_index.lookup
    (call_meets F.slot_int_rmul (typeIs_int s k t) F.entry_int_rmul (F.args_int_rmul_2 _ _) (int___rmul___int_list k t l its.toArray n)
      ⟨e, rfl, ⟨_, e, rfl⟩, call_meets F.slot_list_mul ⟨_, e, rfl⟩ F.entry_list_mul (F.args_list_mul_2 _ _) (AutoListH.list___mul___list_int_3 l its.toArray n k t hfit hcap hlong) ⟨e, ?_⟩⟩)
  rw [hnew]
  exact ⟨.ref _, _, I.lnew (t' := s.toks) (r.rep k.toNat) (by rw [len_rep, Nat.mul_comm]; exact hz), rfl, q _ I.fresh⟩

/-! ### del xs[i] -/
theorem del_list {pins : List (Addr × Obj)} {s : Shared} {σ : St} {H : Hp} {l : Addr} {xs : List V} {i : Int} {t : Tok} {k : Nat} {Q : Unit → Shared → Prop} (I : Inv X pins σ H s) (hH : H l = some (.lst xs))
    (h1 : -(2 ^ 63) ≤ i) (h2 : i < 2 ^ 63) (hk : seqIndex? i xs.length = some k) (h : ∀ s', Inv X pins σ (upd H l (.lst (xs.eraseIdx k))) s' → Q () s') :
    wpAny (model X.prog X.w) X.A (delItem (.ref l) (.int i t)) Q X.xe s := by
  obtain ⟨z, its, n, r, hl, e⟩ := I.lstM hH
  refine PySem.P.delItem_list (k := k) e (fitsIndex_both h1 h2) (by rw [List.size_toArray, ← hl]; exact hk) (h _ ?_) (by rw [List.size_toArray]; omega)
  refine I.lset (its' := its.eraseIdx k) (t' := s.toks) hH e ?_ (r.eraseIdx k) ?_
  · show its.toArray.eraseIdxIfInBounds k = (its.eraseIdx k).toArray
    rw [List.eraseIdxIfInBounds_toArray]
  · have := len_erase xs k
    omega
end

/-! ### xs[a:b] = ys -/
section
variable {prog : Program} {w : World} {A : Around} {E : Value → Shared → Prop} {s : Shared}
theorem splice_eq (its its2 : List Value) (a c : Nat) : its.toArray.extract 0 a ++ its2.toArray ++ its.toArray.extract c its.toArray.size = (its.take a ++ its2 ++ its.drop c).toArray := by
  apply Array.toList_inj.mp
  first
    | (simp
       exact List.take_of_length_le (by simp))
    | simp [List.take_of_length_le]
    | simp
theorem bounds_run {a c n : Nat} (hac : a ≤ c) (hc : c ≤ n) : sliceBounds (some (a : Int)) (some (c : Int)) none n = ((a : Int), (c : Int), 1) := by
  simp only [sliceBounds, Option.getD_none]
  have h1 : ¬ ((a : Int) < 0) := by omega
  have h2 : ¬ ((c : Int) < 0) := by omega
  simp only [h1, h2, if_false, show (1 : Int) > 0 by decide, if_true]
  congr 1
  · omega
  · congr 1; omega
set_option maxRecDepth 100000 in
/-- list.__setitem__ with a slice of step one and another list -/
theorem setItem_slice {l b sl : Addr} {items new : Array Value} {n n2 : Nat} {vl vu : Value} {a c : Nat} {Q : Unit → Shared → Prop}
    (e : s.heap.get? l = some { cls := .type "list", data := .seq items n }) (e2 : s.heap.get? b = some { cls := .type "list", data := .seq new n2 }) (hne : l ≠ b)
    (hs : s.heap.IsSliceOf sl vl vu .none) (pl : IsPart vl (some (a : Int))) (pu : IsPart vu (some (c : Int))) (hac : a ≤ c) (hc : c ≤ items.size)
    (hsz : items.size + new.size ≤ sizeLine) (h : Q () { s with heap := s.heap.update l (Obj.mapSeq fun xs => xs.extract 0 a ++ new ++ xs.extract c xs.size) }) :
    wpAny (model prog w) A (setItem (.ref l) (.ref sl) (.ref b)) Q E s := by
  have hl : s.heap.IsList l items := PySem.IsL.isList e
  have hb : s.heap.IsList b new := PySem.IsL.isList e2
  obtain ⟨os, hos, hcs, hds⟩ := id hs
  have hTs : s.TypeIs (.ref sl) "slice" := ⟨os, hos, hcs⟩
  have hstep : ¬ ((rawPart none == rawInt 0) = true) := Bool.false_ne_true
  have hsame : Builtin.List.listSameRef (.ref l) (.ref b) = false := by
    unfold Builtin.List.listSameRef
    exact beq_eq_false_iff_ne.mpr hne
  have hmax : (max (a : Int) (c : Int)).toNat = c := by omega
  have hz' : ((fun xs : Array Value => xs.extract 0 a ++ new ++ xs.extract c xs.size) items).size ≤ sizeLine + 1 := by
    simp only [Array.size_append, Array.size_extract]
    omega
  unfold setItem
  try with_reducible refine wpAny_holding ?_
  first | refine wpAny_bind (wpAny_pure ?_) | skip
  refine wpAny_bind (wpAny_sequenceKey hl.typeIs (by decide) ?_)
  refine wpAny_bind (wpAny_callSpecial?_slot (name := Str.ofString "__setitem__") hl.typeIs slot_list_setitem
    (wpAny_call_entry slot_list_setitem hl.typeIs entry_list_setitem ?_ (args_list_setitem _ _ _)))
  show wpAny _ _ (Builtin.List.listSubscript? (.ref sl) >>= _) _ _ s
  refine wpAny_bind ?_
  unfold Builtin.List.listSubscript?
  refine wpAny_bind (wpAny_specialOf hTs slice_no_index ?_)
  simp only [Option.isNone_none, if_true]
  refine wpAny_pure ?_
  show wpAny _ _ (typeOf (.ref sl) >>= _) _ _ s
  refine wpAny_bind (wpAny_typeOf hTs ?_)
  first
    | rw [if_neg (by decide)]
    | refine PySem.W.KFB.if_not (by decide) ?_
  rw [listSliceParts_eq]
  refine wpAny_bind (wpAny_bind (wpAny_field hos hds (x := .none) rfl (wpAny_bind (wpAny_listPart .none ?_))))
  rw [if_neg hstep]
  refine wpAny_bind (wpAny_field hos hds (x := vl) rfl (wpAny_bind (wpAny_listPart pl ?_)))
  refine wpAny_bind (wpAny_field hos hds (x := vu) rfl (wpAny_bind (wpAny_listPart pu (wpAny_pure ?_))))
  first
    | simp only [hsame, Bool.false_eq_true, if_false]
    | refine PySem.W.KFB.if_not hsame ?_
    | (dsimp only
       rw [if_neg (by rw [hsame]; exact Bool.false_ne_true)])
  refine wpAny_bind (m := Builtin.List.listAllItems (.ref b) "must assign iterable to extended slice") ?_
  unfold Builtin.List.listAllItems
  refine wpAny_bind (wpAny_typeOf hb.typeIs ?_)
  first
    | refine PySem.W.KFB.if_so (by decide) ?_
    | rw [if_pos (by decide)]
    | simp only [beq_self_eq_true, Bool.true_or, if_true]
  unfold Builtin.List.listItems
  refine wpAny_bind (wpAny_seqItems e2 rfl (wpAny_pure ?_))
  refine wpAny_bind (wpAny_bind (wpAny_seqItems e rfl (wpAny_pure ?_)))
  refine wpAny_bind (wpAny_of_eq ((sliceIndices_raw (some (a : Int)) (some (c : Int)) none items.size (by simp)).trans (congrArg (pure : Int × Int × Int → Sem (Int × Int × Int)) (bounds_run hac hc))) ?_)
  show wpAny _ _ (if ((1 : Int) == 1) = true then _ else _) _ _ s
  rw [if_pos (by decide)]
  refine wpAny_bind (wpAny_rule ?_)
  first
    | simp only [notLongL hsz, Bool.false_eq_true, if_false]
    | refine PySem.W.KFB.if_not (notLongL hsz) ?_
  first | refine wpAny_bind (wpAny_pure ?_) | skip
  show wpAny _ _ (updateSeq l (fun xs => xs.extract 0 ((a : Int)).toNat ++ new ++ xs.extract (max (a : Int) (c : Int)).toNat xs.size) >>= _) _ _ s
  rw [hmax, Int.toNat_natCast]
  refine wpAny_bind (wpAny_updateSeq (hz := Nat.le_trans (Nat.le_add_right _ _) hsz) (_hz' := hz') e rfl ?_)
  refine wpAny_bind (wpAny_letGo ?_)
  first
    | exact wpAny_bind (wpAny_pure (wpAny_pure ⟨.none, rfl, wpAny_pure h⟩))
    | exact wpAny_pure ⟨.none, rfl, wpAny_pure h⟩
end

section
variable {X : Cx}
/-- xs[a:c] = ys of another list, at the value level: sl is the slice object that was just made -/
theorem set_slice {pins : List (Addr × Obj)} {s : Shared} {σ : St} {H : Hp} {l b sl : Addr} {xs ys : List V} {a c : Int} {vl vu : Value} {Q : Unit → Shared → Prop} (I : Inv X pins σ H s)
    (hH : H l = some (.lst xs)) (hB : H b = some (.lst ys)) (hne : l ≠ b) (hs : s.heap.IsSliceOf sl vl vu .none) (ra : RelV (.int a) vl) (rc : RelV (.int c) vu) (h0 : 0 ≤ a) (hac : a ≤ c) (hc : c ≤ xs.length)
    (hz : xs.length + ys.length ≤ sizeLine) (h : ∀ s', Inv X pins σ (upd H l (.lst (xs.take a.toNat ++ ys ++ xs.drop c.toNat))) s' → Q () s') :
    wpAny (model X.prog X.w) X.A (setItem (.ref l) (.ref sl) (.ref b)) Q X.xe s := by
  obtain ⟨ta, rfl⟩ := ra
  obtain ⟨tc, rfl⟩ := rc
  obtain ⟨z, its, n, r, hl, e⟩ := I.lstM hH
  obtain ⟨z2, its2, n2, r2, hl2, e2⟩ := I.lstM hB
  obtain ⟨a', rfl⟩ := Int.eq_ofNat_of_zero_le h0
  obtain ⟨c', rfl⟩ := Int.eq_ofNat_of_zero_le (Int.le_trans h0 hac)
  simp only [Int.toNat_natCast] at h
  refine setItem_slice (a := a') (c := c') e e2 hne hs (.int _ _) (.int _ _) (by omega) (by rw [List.size_toArray]; omega) (by rw [List.size_toArray, List.size_toArray]; omega) (h _ ?_)
  refine I.lset (its' := its.take a' ++ its2 ++ its.drop c') (t' := s.toks) hH e ?_ (Vals.append (Vals.append (r.take _) r2) (r.drop _)) ?_
  · exact splice_eq its its2 a' c'
  · rw [List.length_append, List.length_append, List.length_take, List.length_drop]
    omega
end
end L2

namespace L2
open PySem PySem.Spec PyProof.Rows

/-! ### lists of pairs as tables -/
section
variable {κ : Type} [DecidableEq κ]
def valV (kvs : List (κ × V)) (k : κ) : Option V := (kvs.find? fun kv => decide (kv.1 = k)).map (·.2)
/-- in its place, or at the end -/
def putK (kvs : List (κ × V)) (k : κ) (v : V) : List (κ × V) :=
  if (kvs.any fun kv => decide (kv.1 = k)) = true then kvs.map (fun kv => if kv.1 = k then (kv.1, v) else kv) else kvs ++ [(k, v)]
def dropK (kvs : List (κ × V)) (k : κ) : List (κ × V) := kvs.filter fun kv => decide (kv.1 ≠ k)

theorem valV_nil {k : κ} : valV ([] : List (κ × V)) k = none := rfl
theorem valV_pos {p : κ × V} {r : List (κ × V)} {k : κ} (e : p.1 = k) : valV (p :: r) k = some p.2 := by simp [valV, List.find?_cons, e]
theorem valV_neg {p : κ × V} {r : List (κ × V)} {k : κ} (e : ¬ p.1 = k) : valV (p :: r) k = valV r k := by simp [valV, List.find?_cons, e]
theorem valV_any (k : κ) : ∀ kvs : List (κ × V), (kvs.any fun kv => decide (kv.1 = k)) = (valV kvs k).isSome
  | [] => rfl
  | p :: r => by
    rw [List.any_cons]
    by_cases e : p.1 = k
    · simp only [valV_pos e, decide_eq_true e, Bool.true_or, Option.isSome_some]
    · rw [valV_neg e, decide_eq_false e, Bool.false_or]; exact valV_any k r
theorem valV_map (k j : κ) (y : V) : ∀ kvs : List (κ × V), valV (kvs.map fun kv => if kv.1 = k then (kv.1, y) else kv) j = (valV kvs j).map fun x => if j = k then y else x
  | [] => rfl
  | p :: r => by
    have ih := valV_map k j y r
    rw [List.map_cons]
    by_cases h : p.1 = k
    · rw [if_pos h]
      by_cases e : p.1 = j
      · rw [valV_pos (p := (p.1, y)) e, valV_pos e, Option.map_some, if_pos (e.symm.trans h)]
      · rw [valV_neg (p := (p.1, y)) e, valV_neg e, ih]
    · rw [if_neg h]
      by_cases e : p.1 = j
      · rw [valV_pos (p := p) e, valV_pos e, Option.map_some, if_neg (fun z => h (e.trans z))]
      · rw [valV_neg (p := p) e, valV_neg e, ih]
theorem valV_snoc (k j : κ) (y : V) : ∀ kvs : List (κ × V), valV kvs k = none → valV (kvs ++ [(k, y)]) j = if j = k then some y else valV kvs j
  | [], _ => by
    by_cases e : k = j
    · rw [if_pos e.symm]; exact valV_pos (p := (k, y)) e
    · rw [if_neg (fun z => e z.symm)]; exact valV_neg (p := (k, y)) e
  | p :: r, hn => by
    rw [List.cons_append]
    have hk : ¬ p.1 = k := fun z => by rw [valV_pos z] at hn; cases hn
    rw [valV_neg hk] at hn
    have ih := valV_snoc k j y r hn
    by_cases e : p.1 = j
    · rw [valV_pos e, valV_pos e, if_neg (fun z => hk (e.trans z))]
    · rw [valV_neg e, valV_neg e, ih]
theorem valV_put (kvs : List (κ × V)) (k j : κ) (y : V) : valV (putK kvs k y) j = if j = k then some y else valV kvs j := by
  unfold putK
  by_cases a : (kvs.any fun kv => decide (kv.1 = k)) = true
  · rw [if_pos a, valV_map]
    rw [valV_any] at a
    by_cases e : j = k
    · obtain ⟨x, hx⟩ := Option.isSome_iff_exists.mp a
      rw [if_pos e, e, hx, Option.map_some, if_pos rfl]
    · rw [if_neg e]
      cases valV kvs j with
      | none => rfl
      | some x => rw [Option.map_some, if_neg e]
  · rw [if_neg a]
    refine valV_snoc k j y kvs ?_
    rw [valV_any] at a
    cases q : valV kvs k with
    | none => rfl
    | some x => rw [q] at a; exact (a rfl).elim
theorem length_putK (kvs : List (κ × V)) (k : κ) (v : V) : (putK kvs k v).length ≤ kvs.length + 1 := by
  unfold putK
  split
  · rw [List.length_map]; omega
  · rw [List.length_append, List.length_cons, List.length_nil]; omega
theorem putK_new {kvs : List (κ × V)} {k : κ} (v : V) (h : valV kvs k = none) : putK kvs k v = kvs ++ [(k, v)] := by
  unfold putK
  rw [valV_any, h]
  exact if_neg (by decide)

theorem RelO.isSome_eq {o : Option V} {u : Option Value} (r : RelO o u) : o.isSome = u.isSome := by
  cases o with
  | none => cases u with
    | none => rfl
    | some _ => exact (show False from r).elim
  | some _ => cases u with
    | none => exact (show False from r).elim
    | some _ => rfl
theorem RelO.getD {o : Option V} {u : Option Value} {d : V} {d' : Value} (r : RelO o u) (rd : RelV d d') : RelV (o.getD d) (u.getD d') := by
  cases o with
  | none => cases u with
    | none => exact rd
    | some _ => exact (show False from r).elim
  | some _ => cases u with
    | none => exact (show False from r).elim
    | some _ => exact r

/-- raw tables of the same keys -/
theorem KV.val {kvs : List (κ × V)} {vs : List (κ × Value)} (r : KV kvs vs) (k : κ) : RelO (valV kvs k) (valueAt vs k) := by
  unfold KV at r
  induction r with
  | nil => exact True.intro
  | @cons p q ps qs h t ih =>
    obtain ⟨h1, h2⟩ := h
    by_cases e : p.1 = k
    · have e' : q.1 = k := h1.symm.trans e
      have b : valueAt (q :: qs) k = some q.2 := by simp [valueAt, List.find?_cons, e']
      rw [valV_pos e, b]; exact h2
    · have e' : ¬ q.1 = k := fun z => e (h1.trans z)
      have b : valueAt (q :: qs) k = valueAt qs k := by simp [valueAt, List.find?_cons, e']
      rw [valV_neg e, b]; exact ih
theorem KV.any {kvs : List (κ × V)} {vs : List (κ × Value)} (r : KV kvs vs) (k : κ) : (kvs.any fun kv => decide (kv.1 = k)) = vs.any fun kv => decide (kv.1 = k) := by
  unfold KV at r
  induction r with
  | nil => rfl
  | cons h t ih => rw [List.any_cons, List.any_cons, ih, h.1]
theorem KV.repl {kvs : List (κ × V)} {vs : List (κ × Value)} (r : KV kvs vs) (k : κ) {y : V} {u : Value} (ry : RelV y u) :
    KV (kvs.map fun kv => if kv.1 = k then (kv.1, y) else kv) (vs.map fun kv => if kv.1 = k then (kv.1, u) else kv) := by
  unfold KV at r ⊢
  induction r with
  | nil => exact .nil
  | @cons p q ps qs h t ih =>
    rw [List.map_cons, List.map_cons]
    refine .cons ?_ ih
    obtain ⟨h1, h2⟩ := h
    by_cases e : p.1 = k
    · rw [if_pos e, if_pos (h1.symm.trans e)]; exact ⟨h1, ry⟩
    · rw [if_neg e, if_neg (fun z => e (h1.trans z))]; exact ⟨h1, h2⟩
theorem KV.put {kvs : List (κ × V)} {vs : List (κ × Value)} (r : KV kvs vs) (k : κ) {y : V} {u : Value} (ry : RelV y u) : KV (putK kvs k y) (stored vs k u) := by
  unfold putK stored
  rw [r.any k]
  by_cases e : (vs.any fun kv => decide (kv.1 = k)) = true
  · rw [if_pos e, if_pos e]; exact r.repl k ry
  · rw [if_neg e, if_neg e]; exact Paired.snoc r ⟨rfl, ry⟩
theorem KV.drop {kvs : List (κ × V)} {vs : List (κ × Value)} (r : KV kvs vs) (k : κ) : KV (dropK kvs k) (without vs k) := by
  unfold KV at r ⊢
  unfold dropK without
  induction r with
  | nil => exact .nil
  | @cons p q ps qs h t ih =>
    obtain ⟨h1, h2⟩ := h
    rw [List.filter_cons, List.filter_cons]
    by_cases e : p.1 = k
    · have a : ¬ decide (p.1 ≠ k) = true := by simp [e]
      have b : ¬ decide (q.1 ≠ k) = true := by simp [h1.symm.trans e]
      rw [if_neg a, if_neg b]; exact ih
    · have e' : ¬ q.1 = k := fun z => e (h1.trans z)
      have a : decide (p.1 ≠ k) = true := by simp [e]
      have b : decide (q.1 ≠ k) = true := by simp [e']
      rw [if_pos a, if_pos b]; exact .cons ⟨h1, h2⟩ ih
theorem KV.keys {kvs : List (κ × V)} {vs : List (κ × Value)} (r : KV kvs vs) : kvs.map (·.1) = vs.map (·.1) := by
  unfold KV at r
  induction r with
  | nil => rfl
  | cons h t ih => rw [List.map_cons, List.map_cons, ih, h.1]
theorem KV.length {kvs : List (κ × V)} {vs : List (κ × Value)} (r : KV kvs vs) : kvs.length = vs.length := Paired.length r
theorem dropK_le (kvs : List (κ × V)) (k : κ) : (dropK kvs k).length ≤ kvs.length := List.length_filter_le _ _
end


/-! ### a tracked dict, its keys ints and texts or tuples of these -/
theorem kV_is {P : Program} {w : World} {k : Key} {u : Value} (r : RelV (kV k) u) : (mixKind P w).is k u = true := by
  cases k with
  | inl i => obtain ⟨t, e⟩ := (show ∃ t, u = Value.int i t from r); subst e; exact mixKind_int P w i t
  | inr x => obtain ⟨t, e⟩ := (show ∃ t, u = Value.str x t from r); subst e; exact mixKind_str P w x t
theorem kV_inj {a b : Key} (e : kV a = kV b) : a = b := by
  cases a with
  | inl i => cases b with
    | inl j => have e' : V.int i = V.int j := e; injection e' with e'; rw [e']
    | inr y => exact nomatch (show V.int i = V.str y from e)
  | inr x => cases b with
    | inl j => exact nomatch (show V.str x = V.int j from e)
    | inr y => have e' : V.str x = V.str y := e; injection e' with e'; rw [e']
theorem kVs_inj : ∀ {a b : List Key}, a.map kV = b.map kV → a = b
  | [], [], _ => rfl
  | [], _ :: _, e => by simp at e
  | _ :: _, [], e => by simp at e
  | x :: xs, y :: ys, e => by
    rw [List.map_cons, List.map_cons] at e
    injection e with e1 e2
    rw [kV_inj e1, kVs_inj e2]
theorem items_are {P : Program} {w : World} : ∀ {ks : List Key} {us : List Value}, Vals (ks.map kV) us → ItemsAre (mixKind P w) ks us
  | [], _, r => by rw [List.map_nil] at r; cases r; exact .nil
  | k :: ks, _, r => by
    rw [List.map_cons] at r
    cases r with
    | cons h t => exact .cons (kV_is h) (items_are t)

/-- raw entries of a dict with tuple keys -/
abbrev KT (H : Hp) : List (List Key × V) → List (List Key × Addr × Value) → Prop := Paired fun p q => p.1 = q.1 ∧ H q.2.1 = some (.tup (p.1.map kV)) ∧ RelV p.2 q.2.2
theorem KT.val {H : Hp} {kvs : List (List Key × V)} {xs : List (List Key × Addr × Value)} (r : KT H kvs xs) (k : List Key) : RelO (valV kvs k) ((atKey xs k).map (·.2)) := by
  induction r with
  | nil => exact True.intro
  | @cons p q ps qs h t ih =>
    obtain ⟨h1, _, h2⟩ := h
    by_cases e : p.1 = k
    · have e' : q.1 = k := h1.symm.trans e
      have b : atKey (q :: qs) k = some q.2 := by simp [atKey, List.find?_cons, e']
      rw [valV_pos e, b]; exact h2
    · have e' : ¬ q.1 = k := fun z => e (h1.trans z)
      have b : atKey (q :: qs) k = atKey qs k := by simp [atKey, List.find?_cons, e']
      rw [valV_neg e, b]; exact ih
theorem KT.repl {H : Hp} {kvs : List (List Key × V)} {xs : List (List Key × Addr × Value)} (r : KT H kvs xs) (k : List Key) {y : V} {u : Value} (ry : RelV y u) :
    KT H (kvs.map fun kv => if kv.1 = k then (kv.1, y) else kv) (xs.map (putAt k u)) := by
  induction r with
  | nil => exact .nil
  | @cons p q ps qs h t ih =>
    rw [List.map_cons, List.map_cons]
    refine .cons ?_ ih
    obtain ⟨h1, h2, h3⟩ := h
    unfold putAt
    by_cases e : p.1 = k
    · rw [if_pos e, if_pos (h1.symm.trans e)]; exact ⟨h1, h2, ry⟩
    · rw [if_neg e, if_neg (fun z => e (h1.trans z))]; exact ⟨h1, h2, h3⟩
theorem KT.put {H : Hp} {kvs : List (List Key × V)} {xs : List (List Key × Addr × Value)} (r : KT H kvs xs) (k : List Key) {b : Addr} {y : V} {u : Value} (hb : H b = some (.tup (k.map kV))) (ry : RelV y u) :
    KT H (putK kvs k y) (storedH xs k b u) := by
  have e : (kvs.any fun kv => decide (kv.1 = k)) = (atKey xs k).isSome := by
    rw [valV_any, (r.val k).isSome_eq, Option.isSome_map]
  unfold putK storedH
  rw [e]
  by_cases q : (atKey xs k).isSome = true
  · rw [if_pos q, if_pos q]; exact r.repl k ry
  · rw [if_neg q, if_neg q]; exact Paired.snoc r ⟨rfl, hb, ry⟩
theorem KT.keeps {H H' : Hp} {kvs : List (List Key × V)} {xs : List (List Key × Addr × Value)} (r : KT H kvs xs) (ht : ∀ b ys, H b = some (.tup ys) → H' b = some (.tup ys)) : KT H' kvs xs :=
  Paired.mapP r fun _ _ z => ⟨z.1, ht _ _ z.2.1, z.2.2⟩

section
variable {P : Program} {w : World} {H : Hp} {h : Heap} {a : Addr}
theorem rd_of {u : HO} (ok : HOk P w H h) (e : Rd H a u) : ObjOk P w H h a u := e.ok ok
theorem dk_rd {kvs : List (Key × V)} (ok : HOk P w H h) (e : Rd H a (.dK kvs)) : kvs.length ≤ sizeLine ∧ (a == sysModules) = false ∧ ∃ vs, KV kvs vs ∧ h.DictOf (mixKind P w) a vs :=
  show ObjOk P w H h a (.dK kvs) from rd_of ok e
theorem dk_of {kvs : List (Key × V)} (ok : HOk P w H h) (e : H a = some (.dK kvs)) : kvs.length ≤ sizeLine ∧ (a == sysModules) = false ∧ ∃ vs, KV kvs vs ∧ h.DictOf (mixKind P w) a vs := dk_rd ok (.inl e)
/-- a tracked tuple of ints and texts is a key -/
theorem key_of {ks : List Key} (ok : HOk P w H h) (e : H a = some (.tup (ks.map kV))) : (tupleKind (mixKind P w)).is h ks a := by
  obtain ⟨_, its, r, o, h1, h2, n, h3⟩ := (show ObjOk P w H h a (.tup (ks.map kV)) from ok a _ e)
  exact ⟨o, its.toArray, n, h1, h2, h3, by simpa using items_are r⟩
theorem dt_rd {kvs : List (List Key × V)} (ok : HOk P w H h) (e : Rd H a (.dT kvs)) : kvs.length ≤ sizeLine ∧ (a == sysModules) = false ∧
    ∃ xs, KT H kvs xs ∧ h.DictOfH (tupleKind (mixKind P w)) a xs := by
  obtain ⟨z, y, xs, r, o, es, ep, h1, h2, h3, h4, h5⟩ := (show ObjOk P w H h a (.dT kvs) from rd_of ok e)
  refine ⟨z, y, xs, r, o, es, ep, h1, h2, h3, h4, fun x hx => ?_, h5⟩
  have all : ∀ {l : List (List Key × V)} {m : List (List Key × Addr × Value)}, KT H l m → ∀ x ∈ m, (tupleKind (mixKind P w)).is h x.1 x.2.1 := by
    intro l m q
    induction q with
    | nil => intro x hx; exact nomatch hx
    | @cons p q ps qs hq t ih =>
      intro x hx
      rcases List.mem_cons.mp hx with e | hx
      · subst e
        exact key_of ok (by rw [← hq.1]; exact hq.2.1)
      · exact ih x hx
  exact all r x hx
theorem dt_of {kvs : List (List Key × V)} (ok : HOk P w H h) (e : H a = some (.dT kvs)) : kvs.length ≤ sizeLine ∧ (a == sysModules) = false ∧
    ∃ xs, KT H kvs xs ∧ h.DictOfH (tupleKind (mixKind P w)) a xs := dt_rd ok (.inl e)
end

/-- what the dict at a holds at the key y -/
def DGet (H : Hp) (a : Addr) (y : V) (r : Option V) : Prop :=
  (∃ kvs k, Rd H a (.dK kvs) ∧ y = kV k ∧ r = valV kvs k) ∨ ∃ kvs k b, Rd H a (.dT kvs) ∧ y = .ref b ∧ H b = some (.tup (k.map kV)) ∧ r = valV kvs k
/-- the heap behind a[y] = v -/
def DPut (H : Hp) (a : Addr) (y v : V) (H' : Hp) : Prop :=
  (∃ kvs k, H a = some (.dK kvs) ∧ y = kV k ∧ kvs.length < sizeLine ∧ H' = upd H a (.dK (putK kvs k v))) ∨
  ∃ kvs k b, H a = some (.dT kvs) ∧ y = .ref b ∧ H b = some (.tup (k.map kV)) ∧ kvs.length < sizeLine ∧ H' = upd H a (.dT (putK kvs k v))
theorem DGet.k {H : Hp} {a : Addr} {kvs : List (Key × V)} {k : Key} (e : H a = some (.dK kvs)) : DGet H a (kV k) (valV kvs k) := .inl ⟨kvs, k, .inl e, rfl, rfl⟩
theorem DGet.t {H : Hp} {a b : Addr} {kvs : List (List Key × V)} {k : List Key} (e : H a = some (.dT kvs)) (eb : H b = some (.tup (k.map kV))) : DGet H a (.ref b) (valV kvs k) := .inr ⟨kvs, k, b, .inl e, rfl, eb, rfl⟩
theorem DPut.k {H : Hp} {a : Addr} {kvs : List (Key × V)} {k : Key} {v : V} (e : H a = some (.dK kvs)) (hl : kvs.length < sizeLine) : DPut H a (kV k) v (upd H a (.dK (putK kvs k v))) := .inl ⟨kvs, k, e, rfl, hl, rfl⟩
theorem DPut.t {H : Hp} {a b : Addr} {kvs : List (List Key × V)} {k : List Key} {v : V} (e : H a = some (.dT kvs)) (eb : H b = some (.tup (k.map kV))) (hl : kvs.length < sizeLine) :
    DPut H a (.ref b) v (upd H a (.dT (putK kvs k v))) := .inr ⟨kvs, k, b, e, rfl, eb, hl, rfl⟩


section
variable {X : Cx} {pins : List (Addr × Obj)} {σ : St} {H : Hp} {s : Shared} {a : Addr} {y v : V} {u r : Value} {o : Option V} {A : Around} {E : Value → Shared → Prop}

theorem Inv.big (I : Inv X pins σ H s) : sysModules < s.heap.objs.size := by
  have h : mainGlobals < s.heap.objs.size := (I.mod.glob.keeps I.bk).lt
  exact Nat.lt_trans (by decide) h

/-- d[y], there -/
theorem d_getItem {Q : Value → Shared → Prop} (hu : A.units + 1 < cLine) (I : Inv X pins σ H s) (g : DGet H a y (some v)) (ry : RelV y u) (h : ∀ w' s', Inv X pins σ H s' → RelV v w' → Q w' s') :
    wpAny (model X.prog X.w) A (getItem (.ref a) u) Q E s := by
  rcases g with ⟨kvs, k, e, ey, l⟩ | ⟨kvs, k, b, e, ey, eb, l⟩
  · subst ey
    obtain ⟨z, hd, vs, rel, dd⟩ := dk_rd I.hok e
    obtain ⟨w', hw, rw'⟩ := RelO.some_of (v := v) (o := valueAt vs k) (by rw [l]; exact rel.val k)
    exact wpAny_getItem_of (kV_is ry) dd.mapOf hw (h w' _ (I.tok _) rw')
  · subst ey
    cases (show u = Value.ref b from ry)
    obtain ⟨z, hd, xs, rel, dd⟩ := dt_rd I.hok e
    obtain ⟨w', hw, rw'⟩ := RelO.some_of (v := v) (o := (atKey xs k).map (·.2)) (by rw [l]; exact rel.val k)
    obtain ⟨p, hp, hp2⟩ := Option.map_eq_some_iff.mp hw
    refine wpAny_getItem_heap (tupleKind_room_in1 hu) (key_of I.hok eb) dd hp ?_
    rw [hp2]
    exact h w' _ (I.tok _) rw'
/-- y in d -/
theorem d_in {Q : Value → Shared → Prop} (hu : A.units + 1 < cLine) (I : Inv X pins σ H s) (g : DGet H a y o) (ry : RelV y u) (h : ∀ s', Inv X pins σ H s' → Q (.bool o.isSome) s') :
    wpAny (model X.prog X.w) A (compareOp .In u (.ref a)) Q E s := by
  rcases g with ⟨kvs, k, e, ey, l⟩ | ⟨kvs, k, b, e, ey, eb, l⟩
  · subst ey
    obtain ⟨z, hd, vs, rel, dd⟩ := dk_rd I.hok e
    refine wpAny_in_of (kV_is ry) hd dd.mapOf ?_
    rw [← (rel.val k).isSome_eq, ← l]
    exact h _ (I.tok _)
  · subst ey
    cases (show u = Value.ref b from ry)
    obtain ⟨z, hd, xs, rel, dd⟩ := dt_rd I.hok e
    refine wpAny_in_heap (tupleKind_room_in1 hu) (key_of I.hok eb) hd dd ?_
    have q := (rel.val k).isSome_eq
    rw [Option.isSome_map] at q
    rw [← q, ← l]
    exact h _ (I.tok _)
theorem d_notIn {Q : Value → Shared → Prop} (hu : A.units + 1 < cLine) (I : Inv X pins σ H s) (g : DGet H a y o) (ry : RelV y u) (h : ∀ s', Inv X pins σ H s' → Q (.bool (!o.isSome)) s') :
    wpAny (model X.prog X.w) A (compareOp .NotIn u (.ref a)) Q E s := by
  rcases g with ⟨kvs, k, e, ey, l⟩ | ⟨kvs, k, b, e, ey, eb, l⟩
  · subst ey
    obtain ⟨z, hd, vs, rel, dd⟩ := dk_rd I.hok e
    refine wpAny_notIn_of (kV_is ry) hd dd.mapOf ?_
    rw [← (rel.val k).isSome_eq, ← l]
    exact h _ (I.tok _)
  · subst ey
    cases (show u = Value.ref b from ry)
    obtain ⟨z, hd, xs, rel, dd⟩ := dt_rd I.hok e
    refine wpAny_notIn_heap (tupleKind_room_in1 hu) (key_of I.hok eb) hd dd ?_
    have q := (rel.val k).isSome_eq
    rw [Option.isSome_map] at q
    rw [← q, ← l]
    exact h _ (I.tok _)
/-- a dict's object is replaced -/
theorem d_write {h' : Heap} {t' : Nat} {ob : HO} (I : Inv X pins σ H s) (mu : Mut (H a)) (hs : Heap.SameBut a s.heap h') (he : ∃ q, h'.get? a = some q) (new : ObjOk X.prog X.w (upd H a ob) h' a ob) :
    Inv X pins σ (upd H a ob) { s with heap := h', toks := t' } :=
  I.write (x := a) (e := a) mu (.inl rfl) (fun b q hb z => (hs.2 b hb).trans z) he new
theorem dk_new {P : Program} {w : World} {H' : Hp} {h' : Heap} {kvs : List (Key × V)} {vs : List (Key × Value)} (z : kvs.length ≤ sizeLine) (hd : (a == sysModules) = false) (rel : KV kvs vs) (dd : h'.DictOf (mixKind P w) a vs) :
    ObjOk P w H' h' a (.dK kvs) := ⟨z, hd, vs, rel, dd⟩
/-- d[y] = v -/
theorem d_setItem {H' : Hp} {Q : Unit → Shared → Prop} (hu : A.units + 1 < cLine) (I : Inv X pins σ H s) (g : DPut H a y v H') (ry : RelV y u) (rv : RelV v r) (h : ∀ s', Inv X pins σ H' s' → Q () s') :
    wpAny (model X.prog X.w) A (setItem (.ref a) u r) Q E s := by
  rcases g with ⟨kvs, k, e, ey, l, eH⟩ | ⟨kvs, k, b, e, ey, eb, l, eH⟩
  · subst ey eH
    obtain ⟨z, hd, vs, rel, dd⟩ := dk_of I.hok e
    have hz : vs.length ≤ sizeLine := by rw [← rel.length]; exact z
    have hl : (putK kvs k v).length ≤ sizeLine := by have := length_putK kvs k v; omega
    refine wpAny_setItem_pairs (hsz := hz) (kV_is ry) dd fun h' dd' hs => h _ ?_
    have he : ∃ q, h'.get? a = some q := let ⟨q, _, _, hq, _⟩ := dd'; ⟨q, hq⟩
    exact d_write I (by rw [e]; exact True.intro) hs he (dk_new hl hd (rel.put k rv) dd')
  · subst ey eH
    cases (show u = Value.ref b from ry)
    obtain ⟨z, hd, xs, rel, dd⟩ := dt_of I.hok e
    have hz : xs.length ≤ sizeLine := by rw [← Paired.length rel]; exact z
    have hl : (putK kvs k v).length ≤ sizeLine := by have := length_putK kvs k v; omega
    refine wpAny_setItem_heap (hsz := hz) (tupleKind_room_in1 hu) (key_of I.hok eb) dd fun h' dd' hs => h _ ?_
    obtain ⟨q, es, ep, hq, h2, h3, h4, _, h5⟩ := dd'
    refine d_write I (by rw [e]; exact True.intro) hs ⟨q, hq⟩ ⟨hl, hd, _, (rel.put k eb rv).keeps fun c ys ec => ?_, q, es, ep, hq, h2, h3, h4, h5⟩
    rw [upd_ne (ne_of ec e (fun z => nomatch z))]
    exact ec
end

section
variable {X : Cx} {pins : List (Addr × Obj)} {σ : St} {H : Hp} {s : Shared} {a : Addr} {kvs : List (Key × V)} {k : Key} {u : Value} {A : Around} {E : Value → Shared → Prop}
/-- del d[k] -/
theorem d_delItem {Q : Unit → Shared → Prop} (I : Inv X pins σ H s) (e : H a = some (.dK kvs)) (ry : RelV (kV k) u) (l : (valV kvs k).isSome = true) (h : ∀ s', Inv X pins σ (upd H a (.dK (dropK kvs k))) s' → Q () s') :
    wpAny (model X.prog X.w) A (delItem (.ref a) u) Q E s := by
  obtain ⟨z, hd, vs, rel, dd⟩ := dk_of I.hok e
  refine wpAny_delItem_slot dd.typeIs (by decide) PySem.F.slot_dict_delitem
    (call_meetsIn PySem.F.slot_dict_delitem dd.typeIs PySem.F.entry_dict_delitem (PySem.F.args_dict_delitem_2 _ _) (meets_dict_delitem_pairs (mixKind X.prog X.w) a (kV_is ry)) ⟨vs, dd, by rw [← rel.length]; exact z, by rw [← (rel.val k).isSome_eq]; exact l, fun h' dd' hs => h _ ?_⟩)
  have he : ∃ q, h'.get? a = some q := let ⟨q, _, _, hq, _⟩ := dd'; ⟨q, hq⟩
  exact d_write I (by rw [e]; exact True.intro) hs he (dk_new (Nat.le_trans (dropK_le kvs k) z) hd (rel.drop k) dd')
/-- d.pop(k[, x]), there -/
theorem d_pop {v : V} {more : List Value} {Q : Value → Shared → Prop} (I : Inv X pins σ H s) (e : H a = some (.dK kvs)) (ry : RelV (kV k) u) (l : valV kvs k = some v) (hm : more = [] ∨ ∃ x, more = [x])
    (h : ∀ w' s', Inv X pins σ (upd H a (.dK (dropK kvs k))) s' → RelV v w' → Q w' s') : wpAny (model X.prog X.w) A (call (.builtin "dict.pop") (.ref a :: u :: more)) Q E s := by
  obtain ⟨z, hd, vs, rel, dd⟩ := dk_of I.hok e
  obtain ⟨w', hw, rw'⟩ := RelO.some_of (v := v) (o := valueAt vs k) (by rw [← l]; exact rel.val k)
  have hp : (keyPart u).isSome = true := by
    cases k with
    | inl i => obtain ⟨t, q⟩ := (show ∃ t, u = Value.int i t from ry); subst q; rfl
    | inr x => obtain ⟨t, q⟩ := (show ∃ t, u = Value.str x t from ry); subst q; rfl
  have ha : argsOk "dict.pop" ⟨.ref a :: u :: more, []⟩ := by
    rcases hm with q | ⟨x, q⟩
    · subst q; exact PySem.F.args_dict_pop_2 _ _
    · subst q; exact PySem.F.args_dict_pop_3 _ _ _
  refine call_meetsIn PySem.F.slot_dict_pop dd.typeIs PySem.F.entry_dict_pop ha (meets_dict_pop_there (mixKind X.prog X.w) a (kV_is ry) more hm hp)
    ⟨vs, w', dd, by rw [← rel.length]; exact z, hw, fun h' dd' hs => h w' _ ?_ rw'⟩
  have he : ∃ q, h'.get? a = some q := let ⟨q, _, _, hq, _⟩ := dd'; ⟨q, hq⟩
  exact d_write I (by rw [e]; exact True.intro) hs he (dk_new (Nat.le_trans (dropK_le kvs k) z) hd (rel.drop k) dd')
/-- d.pop(k, x), not there -/
theorem d_popD {r : Value} {Q : Value → Shared → Prop} (I : Inv X pins σ H s) (e : H a = some (.dK kvs)) (ry : RelV (kV k) u) (l : valV kvs k = none) (h : ∀ s', Inv X pins σ H s' → Q r s') :
    wpAny (model X.prog X.w) A (call (.builtin "dict.pop") [.ref a, u, r]) Q E s := by
  obtain ⟨z, hd, vs, rel, dd⟩ := dk_of I.hok e
  have hn : valueAt vs k = none := RelO.none_of (by rw [← l]; exact rel.val k)
  have hp : (keyPart u).isSome = true := by
    cases k with
    | inl i => obtain ⟨t, q⟩ := (show ∃ t, u = Value.int i t from ry); subst q; rfl
    | inr x => obtain ⟨t, q⟩ := (show ∃ t, u = Value.str x t from ry); subst q; rfl
  exact call_meetsIn PySem.F.slot_dict_pop dd.typeIs PySem.F.entry_dict_pop (PySem.F.args_dict_pop_3 _ _ _) (meets_dict_pop_default (mixKind X.prog X.w) a (kV_is ry) hd hp r) ⟨vs, dd, hn, h _ (I.tok _)⟩
/-- d.clear() -/
theorem d_clear {Q : Value → Shared → Prop} (I : Inv X pins σ H s) (e : H a = some (.dK kvs)) (h : ∀ s', Inv X pins σ (upd H a (.dK [])) s' → Q .none s') : wpAny (model X.prog X.w) A (call (.builtin "dict.clear") [.ref a]) Q E s := by
  obtain ⟨z, hd, vs, rel, dd⟩ := dk_of I.hok e
  refine call_meetsIn PySem.F.slot_dict_clear dd.typeIs PySem.F.entry_dict_clear (PySem.F.args_dict_clear_1 _) (meets_dict_clear (mixKind X.prog X.w) a) ⟨vs, dd, by rw [← rel.length]; exact z, fun h' dd' hs => h _ ?_⟩
  have he : ∃ q, h'.get? a = some q := let ⟨q, _, _, hq, _⟩ := dd'; ⟨q, hq⟩
  exact d_write (t' := s.toks) I (by rw [e]; exact True.intro) hs he (dk_new (Nat.zero_le _) hd .nil dd')
/-- len(d) -/
theorem d_len {Q : Value → Shared → Prop} (I : Inv X pins σ H s) (e : Rd H a (.dK kvs)) (h : ∀ t s', Inv X pins σ H s' → Q (.int kvs.length t) s') : wpAny (model X.prog X.w) A (call (.builtin "len") [.ref a]) Q E s := by
  obtain ⟨z, hd, vs, rel, dd⟩ := dk_rd I.hok e
  refine call_len_dict hd dd (by rw [← rel.length]; rw [sizeLine_eq] at z; omega) ?_
  rw [← rel.length]
  exact h _ _ (I.tok _)
/-- if d -/
theorem d_truth {Q : Bool → Shared → Prop} (I : Inv X pins σ H s) (e : Rd H a (.dK kvs)) (h : ∀ s', Inv X pins σ H s' → Q (!kvs.isEmpty) s') : wpAny (model X.prog X.w) A (truthy (.ref a)) Q E s := by
  obtain ⟨z, hd, vs, rel, dd⟩ := dk_rd I.hok e
  refine wpAny_truthy_dict hd dd (by rw [← rel.length]; rw [sizeLine_eq] at z; omega) ?_
  have q : kvs.isEmpty = vs.isEmpty := by cases rel <;> rfl
  rw [← q]
  exact h _ (I.tok _)
end


/-! ### readings and rules -/
/-- the element of a subscription, not a slice -/
def NoSl (i : Expr) : Prop := ∀ ov iv, subscripted i false ov iv = operate [ov, iv] (getItem ov iv)
theorem subD_of {prog : Program} {w : World} {A : Around} {E : Value → Shared → Prop} {s : Shared} {env : Env} {value slice : Expr} {pos : Pos} {T id : String} {Q : Value → Shared → Prop}
    (hl : typeLookup (.type T) "__getitem__" = pure (some (.builtin id))) (hs : NoSl slice)
    (h : wpAny (model prog w) A (eval value env) (fun o s₁ => wpAny (model prog w) A (eval slice env) (fun i s₂ => s₂.TypeIs o T ∧ wpAny (model prog w) A (getItem o i) Q E s₂) E s₁) E s) :
    wpAny (model prog w) A (eval (.Subscript value slice pos) env) Q E s := by
  refine Subscript_ (wpAny_mono h (fun o s₁ h₁ => wpAny_mono h₁ (fun i s₂ h₂ => ?_) fun _ _ x => x) fun _ _ x => x)
  obtain ⟨hT, h₂⟩ := h₂
  unfold subscriptTail
  refine wpAny_bind ?_
  rw [getitemInPython_of_ne hT.not_modules]
  refine wpAny_bind (wpAny_specialOf hT hl ?_)
  have fin : wpAny (model prog w) A (subscripted slice false o i) (fun r s₃ => wpAny (model prog w) A (letTemporaryGo value o r >>= fun _ => pure r) Q E s₃) E s₂ := by
    rw [hs o i]
    exact wpAny_operating (wpAny_mono h₂ (fun r s₃ h₃ => wpAny_bind (wpAny_letTemporaryGo (wpAny_pure h₃))) fun _ _ x => x)
  first
    | exact wpAny_pure (wpAny_bind fin)
    | exact wpAny_bind (wpAny_pure (wpAny_bind fin))
    | exact wpAny_bind fin

theorem dict_typeIs {X : Cx} {pins : List (Addr × Obj)} {σ : St} {H : Hp} {s : Shared} {a : Addr} {y : V} {o : Option V} (I : Inv X pins σ H s) (g : DGet H a y o) : s.TypeIs (.ref a) "dict" := by
  rcases g with ⟨kvs, k, e, _, _⟩ | ⟨kvs, k, b, e, _, _, _⟩
  · obtain ⟨_, _, vs, _, dd⟩ := dk_rd I.hok e
    exact dd.typeIs
  · obtain ⟨_, _, xs, _, dd⟩ := dt_rd I.hok e
    exact dd.typeIs
theorem dict_noDict {X : Cx} {pins : List (Addr × Obj)} {σ : St} {H : Hp} {s : Shared} {a : Addr} {y : V} {o : Option V} (I : Inv X pins σ H s) (g : DGet H a y o) :
    ∀ b, Value.ref a = .ref b → ∃ ob, s.heap.get? b = some ob ∧ ob.dict = none := fun b q => by
  cases q
  rcases g with ⟨kvs, k, e, _, _⟩ | ⟨kvs, k, b, e, _, _, _⟩
  · obtain ⟨_, _, vs, _, ob, _, _, h1, h2, _⟩ := dk_rd I.hok e
    exact ⟨ob, h1, h2.2.1⟩
  · obtain ⟨_, _, xs, _, ob, _, _, h1, h2, _⟩ := dt_rd I.hok e
    exact ⟨ob, h1, h2.2.1⟩

/-- d[y] -/
def tDGet (td ty : TE) : TE := fun σ H Q => td σ H fun x H1 => ty σ H1 fun y H2 => ∃ a v, x = .ref a ∧ DGet H2 a y (some v) ∧ Q v H2
/-- y in d, y not in d -/
def tDIn (ty td : TE) : TE := fun σ H Q => ty σ H fun y H1 => td σ H1 fun x H2 => ∃ a o, x = .ref a ∧ DGet H2 a y o ∧ Q (.bl o.isSome) H2
def tDNotIn (ty td : TE) : TE := fun σ H Q => ty σ H fun y H1 => td σ H1 fun x H2 => ∃ a o, x = .ref a ∧ DGet H2 a y o ∧ Q (.bl (!o.isSome)) H2
/-- d[y] = v -/
def sDPut (td ty tv : TE) : TS := fun D σ H => tv σ H fun v H1 => td σ H1 fun x H2 => ty σ H2 fun y H3 => ∃ a H4, x = .ref a ∧ DPut H3 a y v H4 ∧ D.nx σ H4
/-- d[y] op= v -/
def sDAug (td ty tv : TE) (rd : V → V → Hp → VK → Prop) : TS := fun D σ H => td σ H fun x H1 => ty σ H1 fun y H2 => ∃ a v, x = .ref a ∧ DGet H2 a y (some v) ∧
  tv σ H2 fun y2 H3 => rd v y2 H3 fun z H4 => ∃ H5, DPut H4 a y z H5 ∧ D.nx σ H5
/-- del d[y] -/
def sDDel (td ty : TE) : TS := fun D σ H => td σ H fun x H1 => ty σ H1 fun y H2 => ∃ a kvs k, x = .ref a ∧ H2 a = some (.dK kvs) ∧ y = kV k ∧ (valV kvs k).isSome = true ∧ D.nx σ (upd H2 a (.dK (dropK kvs k)))

section
variable {X : Cx} {o i e value : Expr} {pos pos' tpos : Pos} {td ty tv : TE}
theorem pe_dget (hu : X.A.units + 1 < cLine) (ho : PE X o td) (hi : PE X i ty) (hs : NoSl i) : PE X (.Subscript o i pos) (tDGet td ty) := by
  intro pins s σ H Q I h
  refine subD_of PySem.F.slot_dict_getitem.lookup hs (thn (ho pins s σ H _ I h) fun u s1 ⟨x, H1, I1, rx, q1⟩ => thn (hi pins s1 σ H1 _ I1 q1) fun iv s2 ⟨y, H2, I2, ry, a, v, ex, g, q2⟩ => ?_)
  subst ex
  obtain rfl : u = Value.ref a := rx
  exact ⟨dict_typeIs I2 g, d_getItem hu I2 g ry fun w' s3 I3 rw' => ⟨v, H2, I3, rw', q2⟩⟩
theorem pc_din (hu : X.A.units + 1 < cLine) (hi : PE X i ty) (ho : PE X o td) : PC X .In i o (tDIn ty td) := by
  intro pins s σ H Q I h
  refine thn (hi pins s σ H _ I h) fun iv s1 ⟨y, H1, I1, ry, q1⟩ => thn (ho pins s1 σ H1 _ I1 q1) fun u s2 ⟨x, H2, I2, rx, a, ov, ex, g, q2⟩ => ?_
  subst ex
  obtain rfl : u = Value.ref a := rx
  exact d_in hu I2 g ry fun s3 I3 => ⟨.bl ov.isSome, H2, I3, rfl, q2⟩
theorem pc_dnotin (hu : X.A.units + 1 < cLine) (hi : PE X i ty) (ho : PE X o td) : PC X .NotIn i o (tDNotIn ty td) := by
  intro pins s σ H Q I h
  refine thn (hi pins s σ H _ I h) fun iv s1 ⟨y, H1, I1, ry, q1⟩ => thn (ho pins s1 σ H1 _ I1 q1) fun u s2 ⟨x, H2, I2, rx, a, ov, ex, g, q2⟩ => ?_
  subst ex
  obtain rfl : u = Value.ref a := rx
  exact d_notIn hu I2 g ry fun s3 I3 => ⟨.bl (!ov.isSome), H2, I3, rfl, q2⟩
theorem ps_dput (hu : X.A.units + 1 < cLine) (ho : PE X o td) (hi : PE X i ty) (hv : PE X value tv) (hs : swapsWith value (some (.Subscript o i pos')) pos.line X.env = pure false) :
    PS X (.Assign [.Subscript o i pos'] value pos) (sDPut td ty tv) := by
  intro pins s σ H D I h
  refine wpAny_Assign_Subscript (thn (hv pins s σ H _ I h) fun r s1 ⟨v, H1, I1, rv, q1⟩ => thn (ho pins s1 σ H1 _ I1 q1) fun u s2 ⟨x, H2, I2, rx, q2⟩ => thn (hi pins s2 σ H2 _ I2 q2) fun iv s3 ⟨y, H3, I3, ry, a, H4, ex, g, q3⟩ => ?_) hs
  subst ex
  obtain rfl : u = Value.ref a := rx
  exact d_setItem hu I3 g ry rv fun s4 I4 => ⟨σ, H4, I4, q3⟩
theorem ps_daug {op : Operator} {rd : V → V → Hp → VK → Prop} (hu : X.A.units + 1 < cLine) (ho : PE X o td) (hi : PE X i ty) (hv : PE X value tv) (hop : InOp X op rd)
    (ha : ∀ ov iv new, augStore i ov iv new = (do holding [new, ov, iv] (setItem ov iv new); release [new, ov, iv] []; pure .next)) : PS X (.AugAssign (.Subscript o i tpos) op value pos) (sDAug td ty tv rd) := by
  intro pins s σ H D I h
  refine wpAny_AugAssign_SubscriptAny (thn (ho pins s σ H _ I h) fun u s1 ⟨x, H1, I1, rx, q1⟩ => thn (hi pins s1 σ H1 _ I1 q1) fun iv s2 ⟨y, H2, I2, ry, a, v, ex, g, q2⟩ => ?_) ha
  subst ex
  obtain rfl : u = Value.ref a := rx
  refine d_getItem hu I2 g ry fun w' s3 I3 rw' => thn (hv pins s3 σ H2 _ I3 q2) fun w2 s4 ⟨y2, H3, I4, ry2, q3⟩ => thn (hop pins s4 σ H3 v y2 w' w2 _ I4 rw' ry2 q3) fun w3 s5 ⟨z, H4, I5, rz, H5, g5, q4⟩ => ?_
  exact d_setItem hu I5 g5 ry rz fun s6 I6 => ⟨σ, H5, I6, q4⟩
theorem ps_ddel (ho : PE X o td) (hi : PE X i ty) : PS X (.Delete [.Subscript o i tpos] pos) (sDDel td ty) := by
  intro pins s σ H D I h
  refine wpAny_Delete (wpAny_deleteEach_cons (wpAny_delete_Subscript (thn (ho pins s σ H _ I h) fun u s1 ⟨x, H1, I1, rx, q1⟩ => thn (hi pins s1 σ H1 _ I1 q1) fun iv s2 ⟨y, H2, I2, ry, a, kvs, k, ex, e, ey, l, q2⟩ => ?_)))
  subst ex ey
  obtain rfl : u = Value.ref a := rx
  exact d_delItem I2 e ry l fun s3 I3 => wpAny_deleteEach_nil ⟨σ, _, I3, q2⟩
end


/-! ### displays -/
theorem dk_empty {P : Program} {w : World} {H : Hp} (h : Heap) (hb : sysModules < h.objs.size) : ObjOk P w H (h.push { cls := .type "dict", data := .dict #[] }) h.objs.size (.dK []) :=
  ⟨Nat.zero_le _, beq_eq_false_iff_ne.mpr (Ne.symm (Nat.ne_of_lt hb)), [], .nil, Heap.DictOf.new h⟩
theorem dt_empty {P : Program} {w : World} {H : Hp} (h : Heap) (hb : sysModules < h.objs.size) : ObjOk P w H (h.push { cls := .type "dict", data := .dict #[] }) h.objs.size (.dT []) :=
  ⟨Nat.zero_le _, beq_eq_false_iff_ne.mpr (Ne.symm (Nat.ne_of_lt hb)), [], .nil, _, #[], 0, Heap.get?_push_size _ rfl, ⟨rfl, rfl, rfl⟩, rfl, rfl, List.nodup_nil⟩
/-- {}, to be a dict of the kind that is wanted -/
def tDNewK : TE := fun _ H Q => ∀ p, H p = none → Q (.ref p) (upd H p (.dK []))
def tDNewT : TE := fun _ H Q => ∀ p, H p = none → Q (.ref p) (upd H p (.dT []))
section
variable {X : Cx} {pos : Pos}
theorem pe_dnewK : PE X (.Dict [] [] pos) tDNewK := fun pins s σ H Q I h =>
  wpAny_Dict_empty ⟨.ref s.heap.objs.size, _, I.laid (a := s.heap.objs.size) (o := .dK []) (t' := s.toks) (fun _ _ q => Heap.get?_push_of_some _ q) (Nat.le_refl _) (dk_empty s.heap I.big), rfl, h _ (I.hok.fresh (Nat.le_refl _))⟩
theorem pe_dnewT : PE X (.Dict [] [] pos) tDNewT := fun pins s σ H Q I h =>
  wpAny_Dict_empty ⟨.ref s.heap.objs.size, _, I.laid (a := s.heap.objs.size) (o := .dT []) (t' := s.toks) (fun _ _ q => Heap.get?_push_of_some _ q) (Nat.le_refl _) (dt_empty s.heap I.big), rfl, h _ (I.hok.fresh (Nat.le_refl _))⟩
end

/-- the pairs of a display, from the left -/
def tPairs : List (TE × TE) → St → Hp → (List (V × V) → Hp → Prop) → Prop
  | [], _, H, Q => Q [] H
  | (tk, tv) :: r, σ, H, Q => tk σ H fun x H1 => tv σ H1 fun y H2 => tPairs r σ H2 fun ps H3 => Q ((x, y) :: ps) H3
abbrev VV : List (V × V) → List (Value × Value) → Prop := Paired fun p q => RelV p.1 q.1 ∧ RelV p.2 q.2
def PPs (X : Cx) (pos : Pos) (keys : List (Option Expr)) (values : List Expr) (trs : List (TE × TE)) : Prop :=
  ∀ (pins : List (Addr × Obj)) (s : Shared) (σ : St) (H : Hp) (Q : List (V × V) → Hp → Prop), Inv X pins σ H s → tPairs trs σ H Q →
    wpAny (model X.prog X.w) X.A (evalPairs (pairTrees keys values X.env pos)) (fun vs s' => ∃ ps H', Inv X pins σ H' s' ∧ VV ps vs ∧ Q ps H') X.xe s
theorem pps_nil {X : Cx} {pos : Pos} : PPs X pos [] [] [] := fun pins s σ H Q I h => pairTrees_nil_walk ⟨[], H, I, .nil, h⟩
theorem pps_cons {X : Cx} {pos : Pos} {k v : Expr} {ks : List (Option Expr)} {vs : List Expr} {tk tv : TE} {trs : List (TE × TE)} (hk : PE X k tk) (hv : PE X v tv) (hr : PPs X pos ks vs trs) :
    PPs X pos (some k :: ks) (v :: vs) ((tk, tv) :: trs) := fun pins s σ H Q I h =>
  pairTrees_cons_walk (thn (hk pins s σ H _ I h) fun u s1 ⟨x, H1, I1, rx, q1⟩ => thn (hv pins s1 σ H1 _ I1 q1) fun w2 s2 ⟨y, H2, I2, ry, q2⟩ =>
    thn (hr pins s2 σ H2 _ I2 q2) fun ws s3 ⟨ps, H3, I3, rel, q3⟩ => ⟨(x, y) :: ps, H3, I3, .cons ⟨rx, ry⟩ rel, q3⟩)

def mergeK (kvs more : List (Key × V)) : List (Key × V) := more.foldl (fun acc kv => putK acc kv.1 kv.2) kvs
theorem KV.merge : ∀ {more : List (Key × V)} {rs : List (Key × Value)} {kvs : List (Key × V)} {vs : List (Key × Value)}, KV more rs → KV kvs vs → KV (mergeK kvs more) (merged vs rs) := by
  intro more rs kvs vs r
  unfold KV at r
  induction r generalizing kvs vs with
  | nil => intro q; exact q
  | @cons p q ps qs h t ih =>
    intro r0
    have e : KV (putK kvs p.1 p.2) (stored vs q.1 q.2) := by
      have := r0.put p.1 h.2
      rw [← h.1]; exact this
    exact ih e
theorem length_mergeK : ∀ (more kvs : List (Key × V)), (mergeK kvs more).length ≤ kvs.length + more.length
  | [], kvs => by show kvs.length ≤ kvs.length + 0; omega
  | p :: r, kvs => by
    have h1 := length_mergeK r (putK kvs p.1 p.2)
    have h2 := length_putK kvs p.1 p.2
    show (mergeK (putK kvs p.1 p.2) r).length ≤ _
    rw [List.length_cons]; omega
theorem carries_of {P : Program} {w : World} : ∀ {kvs : List (Key × V)} {ws : List (Value × Value)}, VV (kvs.map fun kv => (kV kv.1, kv.2)) ws → ∃ rs, Carries (mixKind P w) ws rs ∧ KV kvs rs
  | [], _, r => by rw [List.map_nil] at r; cases r; exact ⟨[], True.intro, .nil⟩
  | p :: kvs, _, r => by
    rw [List.map_cons] at r
    cases r with
    | @cons a b as bs h t =>
      obtain ⟨rs, c, q⟩ := carries_of (P := P) (w := w) t
      obtain ⟨b1, b2⟩ := b
      exact ⟨(p.1, b2) :: rs, ⟨kV_is h.1, rfl, c⟩, .cons ⟨rfl, h.2⟩ q⟩
/-- {k: v, ..} with keys ints and texts; the new dict stands empty while the pairs are made -/
def tDisp (trs : List (TE × TE)) : TE := fun σ H Q => ∀ p, H p = none → tPairs trs σ (upd H p (.dK [])) fun ps H2 => H2 p = some (.dK []) ∧ ∃ kvs : List (Key × V), ps = kvs.map (fun kv => (kV kv.1, kv.2)) ∧ kvs.length ≤ 15 ∧ Q (.ref p) (upd H2 p (.dK (mergeK [] kvs)))
theorem pe_disp {X : Cx} {pos : Pos} {keys : List (Option Expr)} {values : List Expr} {trs : List (TE × TE)} (h : PPs X pos keys values trs) (hall : keys.all (·.isSome) = true) (hl : keys.length = values.length) (h0 : keys ≠ [])
    (h15 : keys.length ≤ 15) : PE X (.Dict keys values pos) (tDisp trs) := by
  intro pins s σ H Q I q
  have hn := I.hok.fresh (Nat.le_refl s.heap.objs.size)
  have I1 := I.laid (a := s.heap.objs.size) (o := .dK []) (h' := s.heap.push { cls := .type "dict", data := .dict #[] }) (t' := s.toks) (fun _ _ q => Heap.get?_push_of_some _ q) (Nat.le_refl _) (dk_empty s.heap I.big)
  refine wpAny_Dict_walk (knd := mixKind X.prog X.w) hall hl h0 h15 (thn (h pins _ σ _ _ I1 (q _ hn)) fun ws s2 ⟨ps, H2, I2, rel, e, kvs, ep, lk, q2⟩ => ?_)
  subst ep
  obtain ⟨rs, c, rk⟩ := carries_of (P := X.prog) (w := X.w) rel
  obtain ⟨z, hd, vs0, r0, dd⟩ := dk_of I2.hok e
  cases r0
  refine ⟨rs, c, dd, fun h' dd' hs => ⟨.ref s.heap.objs.size, _, ?_, rfl, q2⟩⟩
  have hz : (mergeK [] kvs).length ≤ sizeLine := by
    have h1 := length_mergeK kvs []
    rw [List.length_nil] at h1
    rw [sizeLine_eq]; omega
  have he : ∃ q, h'.get? s.heap.objs.size = some q := let ⟨q, _, _, hq, _⟩ := dd'; ⟨q, hq⟩
  exact d_write I2 (by rw [e]; exact True.intro) hs he (dk_new hz hd (rk.merge .nil) dd')


/-! ### methods -/
/-- a method call o.m(e) of a built-in, with one argument: what must be seen of the text -/
structure M1 (X : Cx) (o : Expr) (m : Str) (apos : Pos) (e : Expr) (cpos : Pos) : Prop where
  base : attributeBase o m X.env (eval o X.env) = eval o X.env
  few : ((backTo cpos (starEach [e] X.env)).all (fun x => !x.1) && (backToKw cpos (keywordEach [] X.env)).all (fun x => x.1.isSome)
    && decide (([e] : List Expr).length + ([] : List Keyword).length + (if ([] : List Keyword).isEmpty then 0 else 1) < 30)) = true
  line : (apos.endLine == cpos.line) = true
  trees : backTo cpos (starEach [e] X.env) = [(false, eval e X.env)]
structure M2 (X : Cx) (o : Expr) (m : Str) (apos : Pos) (e f : Expr) (cpos : Pos) : Prop where
  base : attributeBase o m X.env (eval o X.env) = eval o X.env
  few : ((backTo cpos (starEach [e, f] X.env)).all (fun x => !x.1) && (backToKw cpos (keywordEach [] X.env)).all (fun x => x.1.isSome)
    && decide (([e, f] : List Expr).length + ([] : List Keyword).length + (if ([] : List Keyword).isEmpty then 0 else 1) < 30)) = true
  line : (apos.endLine == cpos.line) = true
  trees : backTo cpos (starEach [e, f] X.env) = [(false, eval e X.env), (false, eval f X.env)]

/-- a is a dict, whatever its keys -/
def IsD (H : Hp) (a : Addr) : Prop := (∃ kvs, Rd H a (.dK kvs)) ∨ ∃ kvs, Rd H a (.dT kvs)
theorem isD_at {X : Cx} {pins : List (Addr × Obj)} {σ : St} {H : Hp} {s : Shared} {a : Addr} (I : Inv X pins σ H s) (d : IsD H a) :
    s.TypeIs (.ref a) "dict" ∧ (∀ b, Value.ref a = .ref b → ∃ ob, s.heap.get? b = some ob ∧ ob.dict = none) ∧ (a == sysModules) = false := by
  rcases d with ⟨kvs, e⟩ | ⟨kvs, e⟩
  · obtain ⟨_, hd, vs, _, dd⟩ := dk_rd I.hok e
    refine ⟨dd.typeIs, fun b q => ?_, hd⟩
    cases q
    obtain ⟨ob, _, _, h1, h2, _⟩ := dd
    exact ⟨ob, h1, h2.2.1⟩
  · obtain ⟨_, hd, xs, _, dd⟩ := dt_rd I.hok e
    refine ⟨dd.typeIs, fun b q => ?_, hd⟩
    cases q
    obtain ⟨ob, _, _, h1, h2, _⟩ := dd
    exact ⟨ob, h1, h2.2.1⟩

section
variable {X : Cx} {pins : List (Addr × Obj)} {σ : St} {H : Hp} {s : Shared} {a : Addr} {y d : V} {u r : Value} {o : Option V} {A : Around} {E : Value → Shared → Prop}
/-- d.get(y) -/
theorem d_get1 {Q : Value → Shared → Prop} (hu : A.units + 1 < cLine) (I : Inv X pins σ H s) (g : DGet H a y o) (ry : RelV y u) (h : ∀ w' s', Inv X pins σ H s' → RelV (o.getD .non) w' → Q w' s') :
    wpAny (model X.prog X.w) A (call (.builtin "dict.get") [.ref a, u]) Q E s := by
  rcases g with ⟨kvs, k, e, ey, l⟩ | ⟨kvs, k, b, e, ey, eb, l⟩
  · subst ey
    obtain ⟨z, hd, vs, rel, dd⟩ := dk_rd I.hok e
    refine call_meetsIn PySem.F.slot_dict_get dd.typeIs PySem.F.entry_dict_get (PySem.F.args_dict_get_2 _ _) (meets_dict_get (mixKind X.prog X.w) a (kV_is ry) hd) ⟨_, dd.mapOf, h _ _ (I.tok _) ?_⟩
    rw [l]
    exact (rel.val k).getD rfl
  · subst ey
    cases (show u = Value.ref b from ry)
    obtain ⟨z, hd, xs, rel, dd⟩ := dt_rd I.hok e
    refine call_meetsIn PySem.F.slot_dict_get dd.typeIs PySem.F.entry_dict_get (PySem.F.args_dict_get_2 _ _) (meetsH_dict_get (tupleKind (mixKind X.prog X.w)) a b hd) ⟨tupleKind_room_in1 hu, k, xs, key_of I.hok eb, dd, h _ _ (I.tok _) ?_⟩
    rw [l]
    exact (rel.val k).getD rfl
/-- d.get(y, x) -/
theorem d_get2 {Q : Value → Shared → Prop} (hu : A.units + 1 < cLine) (I : Inv X pins σ H s) (g : DGet H a y o) (ry : RelV y u) (rd : RelV d r) (h : ∀ w' s', Inv X pins σ H s' → RelV (o.getD d) w' → Q w' s') :
    wpAny (model X.prog X.w) A (call (.builtin "dict.get") [.ref a, u, r]) Q E s := by
  rcases g with ⟨kvs, k, e, ey, l⟩ | ⟨kvs, k, b, e, ey, eb, l⟩
  · subst ey
    obtain ⟨z, hd, vs, rel, dd⟩ := dk_rd I.hok e
    refine call_meetsIn PySem.F.slot_dict_get dd.typeIs PySem.F.entry_dict_get (PySem.F.args_dict_get_3 _ _ _) (meets_dict_get_default (mixKind X.prog X.w) a (kV_is ry) hd r) ⟨_, dd.mapOf, h _ _ (I.tok _) ?_⟩
    rw [l]
    exact (rel.val k).getD rd
  · subst ey
    cases (show u = Value.ref b from ry)
    obtain ⟨z, hd, xs, rel, dd⟩ := dt_rd I.hok e
    refine call_meetsIn PySem.F.slot_dict_get dd.typeIs PySem.F.entry_dict_get (PySem.F.args_dict_get_3 _ _ _) (meetsH_dict_get_default (tupleKind (mixKind X.prog X.w)) a b hd r) ⟨tupleKind_room_in1 hu, k, xs, key_of I.hok eb, dd, h _ _ (I.tok _) ?_⟩
    rw [l]
    exact (rel.val k).getD rd
end

def tDGet1 (td ty : TE) : TE := fun σ H Q => td σ H fun x H1 => ∃ a, x = .ref a ∧ IsD H1 a ∧ ty σ H1 fun y H2 => ∃ o, DGet H2 a y o ∧ Q (o.getD .non) H2
def tDGet2 (td ty tx : TE) : TE := fun σ H Q => td σ H fun x H1 => ∃ a, x = .ref a ∧ IsD H1 a ∧ ty σ H1 fun y H2 => tx σ H2 fun z H3 => ∃ o, DGet H3 a y o ∧ Q (o.getD z) H3
/-- d.pop(k): there; d.pop(k, x): there or not -/
def tDPop1 (td ty : TE) : TE := fun σ H Q => td σ H fun x H1 => ∃ a, x = .ref a ∧ IsD H1 a ∧ ty σ H1 fun y H2 => ∃ kvs k v, H2 a = some (.dK kvs) ∧ y = kV k ∧ valV kvs k = some v ∧ Q v (upd H2 a (.dK (dropK kvs k)))
def tDPop2 (td ty tx : TE) : TE := fun σ H Q => td σ H fun x H1 => ∃ a, x = .ref a ∧ IsD H1 a ∧ ty σ H1 fun y H2 => tx σ H2 fun z H3 => ∃ kvs k, H3 a = some (.dK kvs) ∧ y = kV k ∧
  (∀ v, valV kvs k = some v → Q v (upd H3 a (.dK (dropK kvs k)))) ∧ (valV kvs k = none → Q z H3)
section
variable {X : Cx} {o e f : Expr} {apos cpos : Pos} {td ty tx : TE}
theorem pe_dget1 (hu : X.A.units + 1 < cLine) (ho : PE X o td) (he : PE X e ty) (m : M1 X o "get" apos e cpos) : PE X (.Call (.Attribute o "get" apos) [e] [] cpos) (tDGet1 td ty) := by
  intro pins s σ H Q I h
  refine wpAny_Call_method m.base m.few m.line PySem.F.plainAttrs_dict PySem.F.slot_dict_get PySem.F.type_dict_get (thn (ho pins s σ H _ I h) fun u s1 ⟨x, H1, I1, rx, a, ex, d, q1⟩ => ?_)
  subst ex
  obtain rfl : u = Value.ref a := rx
  obtain ⟨t1, t2, _⟩ := isD_at I1 d
  refine ⟨t1, t2, ?_⟩
  rw [m.trees]
  refine Calls.callWith_builtin rfl (Calls.evalArgs_plain (Calls.spliced_cons (thn (he pins s1 σ H1 _ I1 q1) fun iv s2 ⟨y, H2, I2, ry, ov, g, q2⟩ => Calls.spliced_nil ?_)))
  exact d_get1 hu I2 g ry fun w' s3 I3 rw' => ⟨_, H2, I3, rw', q2⟩
theorem pe_dget2 (hu : X.A.units + 1 < cLine) (ho : PE X o td) (he : PE X e ty) (hf : PE X f tx) (m : M2 X o "get" apos e f cpos) : PE X (.Call (.Attribute o "get" apos) [e, f] [] cpos) (tDGet2 td ty tx) := by
  intro pins s σ H Q I h
  refine wpAny_Call_method m.base m.few m.line PySem.F.plainAttrs_dict PySem.F.slot_dict_get PySem.F.type_dict_get (thn (ho pins s σ H _ I h) fun u s1 ⟨x, H1, I1, rx, a, ex, d, q1⟩ => ?_)
  subst ex
  obtain rfl : u = Value.ref a := rx
  obtain ⟨t1, t2, _⟩ := isD_at I1 d
  refine ⟨t1, t2, ?_⟩
  rw [m.trees]
  refine Calls.callWith_builtin rfl (Calls.evalArgs_plain (Calls.spliced_cons (thn (he pins s1 σ H1 _ I1 q1) fun iv s2 ⟨y, H2, I2, ry, q2⟩ =>
    Calls.spliced_cons (thn (hf pins s2 σ H2 _ I2 q2) fun fv s3 ⟨z, H3, I3, rz, ov, g, q3⟩ => Calls.spliced_nil ?_))))
  exact d_get2 hu I3 g ry rz fun w' s4 I4 rw' => ⟨_, H3, I4, rw', q3⟩
theorem pe_dpop1 (ho : PE X o td) (he : PE X e ty) (m : M1 X o "pop" apos e cpos) : PE X (.Call (.Attribute o "pop" apos) [e] [] cpos) (tDPop1 td ty) := by
  intro pins s σ H Q I h
  refine wpAny_Call_method m.base m.few m.line PySem.F.plainAttrs_dict PySem.F.slot_dict_pop PySem.F.type_dict_pop (thn (ho pins s σ H _ I h) fun u s1 ⟨x, H1, I1, rx, a, ex, d, q1⟩ => ?_)
  subst ex
  obtain rfl : u = Value.ref a := rx
  obtain ⟨t1, t2, _⟩ := isD_at I1 d
  refine ⟨t1, t2, ?_⟩
  rw [m.trees]
  refine Calls.callWith_builtin rfl (Calls.evalArgs_plain (Calls.spliced_cons (thn (he pins s1 σ H1 _ I1 q1) fun iv s2 ⟨y, H2, I2, ry, kvs, k, v, ea, ey, l, q2⟩ => Calls.spliced_nil ?_)))
  subst ey
  exact d_pop I2 ea ry l (.inl rfl) fun w' s3 I3 rw' => ⟨v, _, I3, rw', q2⟩
theorem pe_dpop2 (ho : PE X o td) (he : PE X e ty) (hf : PE X f tx) (m : M2 X o "pop" apos e f cpos) : PE X (.Call (.Attribute o "pop" apos) [e, f] [] cpos) (tDPop2 td ty tx) := by
  intro pins s σ H Q I h
  refine wpAny_Call_method m.base m.few m.line PySem.F.plainAttrs_dict PySem.F.slot_dict_pop PySem.F.type_dict_pop (thn (ho pins s σ H _ I h) fun u s1 ⟨x, H1, I1, rx, a, ex, d, q1⟩ => ?_)
  subst ex
  obtain rfl : u = Value.ref a := rx
  obtain ⟨t1, t2, _⟩ := isD_at I1 d
  refine ⟨t1, t2, ?_⟩
  rw [m.trees]
  refine Calls.callWith_builtin rfl (Calls.evalArgs_plain (Calls.spliced_cons (thn (he pins s1 σ H1 _ I1 q1) fun iv s2 ⟨y, H2, I2, ry, q2⟩ =>
    Calls.spliced_cons (thn (hf pins s2 σ H2 _ I2 q2) fun fv s3 ⟨z, H3, I3, rz, kvs, k, ea, ey, q3, q4⟩ => Calls.spliced_nil ?_))))
  subst ey
  cases l : valV kvs k with
  | some v => exact d_pop I3 ea ry l (.inr ⟨fv, rfl⟩) fun w' s4 I4 rw' => ⟨v, _, I4, rw', q3 v l⟩
  | none => exact d_popD I3 ea ry l fun s4 I4 => ⟨z, H3, I4, rz, q4 l⟩
end

/-! ### dict(d): a copy -/
section
variable {X : Cx} {pins : List (Addr × Obj)} {σ : St} {H : Hp} {s : Shared} {a : Addr} {kvs : List (Key × V)} {A : Around} {E : Value → Shared → Prop}
theorem d_copyOf {Q : Value → Shared → Prop} (I : Inv X pins σ H s) (e : Rd H a (.dK kvs)) (h : ∀ p s', H p = none → Inv X pins σ (upd H p (.dK kvs)) s' → Q (.ref p) s') : wpAny (model X.prog X.w) A (call (.type "dict") [.ref a]) Q E s := by
  obtain ⟨z, hd, vs, rel, dd⟩ := dk_rd I.hok e
  refine kt_call_dict hd dd (by rw [← rel.length]; exact z) fun h' dd' hs => ?_
  refine h _ _ (I.hok.fresh (Nat.le_refl _)) (I.laid (a := s.heap.objs.size) (o := .dK kvs) (t' := s.toks) (fun b q hq => ?_) (Nat.le_refl _) (dk_new z (beq_eq_false_iff_ne.mpr (Ne.symm (Nat.ne_of_lt I.big))) rel dd'))
  exact (hs.2 b (Nat.ne_of_lt (Heap.lt_size hq))).trans (Heap.get?_push_of_some _ hq)
end


section
variable {X : Cx} {pins : List (Addr × Obj)} {σ : St} {H : Hp} {s : Shared} {a : Addr} {y : V} {u : Value} {A : Around} {E : Value → Shared → Prop}
/-- d[y], not there: a KeyError -/
theorem d_missing {Q : Value → Shared → Prop} (hu : A.units + 1 < cLine) (hh : A.handled = none) (I : Inv X pins σ H s) (g : DGet H a y none) (ry : RelV y u)
    (h : ∀ h' e t', Heap.NewExc s.heap h' e "KeyError" → E (.ref e) { s with heap := h', toks := t' }) : wpAny (model X.prog X.w) A (getItem (.ref a) u) Q E s := by
  rcases g with ⟨kvs, k, e, ey, l⟩ | ⟨kvs, k, b, e, ey, eb, l⟩
  · subst ey
    obtain ⟨z, hd, vs, rel, dd⟩ := dk_rd I.hok e
    have hn : valueAt vs k = none := RelO.none_of (by rw [l]; exact rel.val k)
    exact wpAny_getItem_missing_of (kV_is ry) hd hh dd.mapOf hn fun h' ex ne => h h' ex _ ne
  · subst ey
    cases (show u = Value.ref b from ry)
    obtain ⟨z, hd, xs, rel, dd⟩ := dt_rd I.hok e
    have hn : (atKey xs k).map (·.2) = none := RelO.none_of (by rw [l]; exact rel.val k)
    exact wpAny_getItem_missing_heap (tupleKind_room_in1 hu) (key_of I.hok eb) hd hh dd (Option.map_eq_none_iff.mp hn) fun h' ex ne => h h' ex _ ne
end
end L2

namespace Att
open PySem PySem.W PySem.Calls PyProof.Rows

/-! ### the script -/
theorem ints_of_wellAll {P : Params} {h : Heap} : ∀ (ns : List Int) (vs : List Value), WellAll P h vs (ns.map WData.int) → IntsAre vs ns := by
  intro ns
  induction ns with
  | nil =>
    intro vs w
    rw [List.map_nil] at w
    cases w
    exact .nil
  | cons n ns ih =>
    intro vs w
    rw [List.map_cons] at w
    cases w with
    | cons a b =>
      cases a
      exact .cons _ _ (ih _ b)

theorem script_of {l : OpenLaw} {n : Nat} (hn : l.most = some n) {P : Params} {h : Heap} {args : List WData} {vals : List Value}
    (hpre : l.row.toRowW.claim.pre args = true) (hwl : WellAll P h vals args) :
    ∃ a vs ns, vals = [Value.ref a] ∧ args = [WData.list (ns.map WData.int)] ∧ h.get? a = some { cls := .type "list", data := .seq vs.toArray } ∧ IntsAre vs ns ∧ ns.length ≤ n := by
  have hsh : WShape.hasAll [] args [.list .int] = true := (pre_splitW hpre).1
  have hc : l.pre.holds [] { args := args } = true := (pre_splitW hpre).2
  obtain ⟨d, r, rfl, h1, h2⟩ := hasAllW_cons hsh
  obtain rfl := hasAllW_nil h2
  obtain ⟨xs, rfl, h3⟩ := hasW_list h1
  obtain ⟨ns, rfl⟩ := items_int h3
  have hlen : ns.length ≤ n := by
    unfold OpenLaw.pre at hc
    have h4 : (WTm.not (.lt (.lit (.int (n : Int))) (.len (.arg 0)))).holds [] { args := [.list (ns.map .int)] } = true := by
      have h4 := (holds_andW hc).1
      rw [hn] at h4
      exact h4
    have h5 := condW_of h4 (w_not (w_lt w_lit (w_len_list (w_arg rfl))))
    rw [List.length_map] at h5
    refine Nat.le_of_not_lt fun q => ?_
    have q' : (n : Int) < ((ns.length : Nat) : Int) := by omega
    first
      | (rw [decide_eq_true q'] at h5; exact absurd h5 (by decide))
      | (simp at h5; omega)
  cases hwl with
  | cons w1 w2 =>
    cases w2
    cases w1 with
    | list ho hall => exact ⟨_, _, ns, rfl, rfl, ho, ints_of_wellAll ns _ hall, hlen⟩

theorem post_true (l : OpenLaw) (args : List WData) : l.row.toRowW.claim.post args (.bool true) args = true :=
  postW_of (r := l.row.toRowW) (X := (true == true))
    (show WShape.has [] (.bool true) .bool = true by first | rfl | decide | simp [WShape.has, WShape.arms, WShape.armsAll])
    (show (WTm.eq .res (.lit (.bool true))).value [] { args := args, res := some (.bool true), after := args } = some (.bool (true == true)) from w_eq_bool (w_res rfl) w_lit) rfl

/-! ### the attachment: holds_open's last premise (the goal 'hc' behind k_head) from a wpAny of the law's body -/
theorem attach {l : OpenLaw} {n : Nat} {q : Program} {loose : List Str} {XP : (Str → Option Value) → Heap → Prop} {YP : World → Heap → Prop} {d : DefRec} {x : Str}
    (hn : l.most = some n) (hdf : d.params.defaults = [])
    (hbind : ∀ pm cd doc v : Value, bindArgs (docDef d.name d.params d.body d.scope pm cd doc) ⟨[v], []⟩ = pure [(x, v)])
    (hx : d.scope.names.lookup x = some .local ∨ d.scope.names.lookup x = some .cell)
    (hk : d.scope.kind = .function) (hco : d.scope.isCoroutine = false) (hgen : d.scope.isGenerator = false)
    (body : ∀ (w : World) (s₀ s₁ s : Shared) (mg mb : Str → Option Value) (fa : Addr) (o : Obj) (pm cd doc : Value) (a : Addr) (vs : List Value) (ns : List Int),
      Ground q loose [] XP w s₀ mg mb s₁.heap → YP w s₁.heap →
      s₁.heap.get? fa = some o → o.data = .func (docDef d.name d.params d.body d.scope pm cd doc) → s₁.heap.CodeRec cd d.name → mg d.name = some (.ref fa) →
      s₁.heap.get? a = some { cls := .type "list", data := .seq vs.toArray } → IntsAre vs ns → ns.length ≤ n →
      s.gens = #[] → s.os = s₁.os →
      Fr s₁.heap s₁.heap.objs.size s.heap (bindL (envOfC d.name d.scope s₁.heap.objs.size fa cd).kindOf [(x, .ref a)] fun _ => none) →
      Cl s₁.heap.objs.size (cellsFrom (s₁.heap.objs.size + 1) d.scope.names []) s.heap (bindC (envOfC d.name d.scope s₁.heap.objs.size fa cd).kindOf [(x, .ref a)] fun _ => none) →
      wpAny (model l.prog w) (callerA.deeper (envOfC d.name d.scope s₁.heap.objs.size fa cd)) (execs d.body (envOfC d.name d.scope s₁.heap.objs.size fa cd))
        (fun f s' => f = .ret (.bool true) ∧ OldK s₁.heap s'.heap ∧ s'.os = s₁.os ∧ AllBare s'.gens) (fun _ _ => False) s) :
    WalkO q loose XP YP l.row.toRowW d [] (fun f vs => PySem.call f vs) := by
  intro w s₀ s₁ mg mb G Y fa o pm cd doc dV kV ho hd hcd hD hmg hg args vals as hpre hlay hrd hwl hlo
  obtain rfl : dV = .none := Dflts.none hD hdf
  obtain rfl : kV = .none := Dflts.noKw hD
  obtain ⟨a, vs, ns, rfl, rfl, hobj, hints, hlen⟩ := script_of hn hpre hwl
  refine enter_call ?_
  refine call_cells_ret (o := o) (by rw [depth_caller]; decide) ho (fd_plain hd) G.T.nolimit hcd (hbind pm cd doc (.ref a)) (fun y hy => ?_) (fun h₁ tk F X => ?_) hco hgen hk
  · obtain rfl : y = (x, Value.ref a) := List.mem_singleton.mp hy
    rcases hx with e | e
    · exact .inl e
    · exact .inr ⟨e, cellsFrom_some _ _ _ (.inl e)⟩
  · refine wpAny_mono (body w s₀ s₁ { s₁ with heap := h₁, toks := tk } mg mb fa o pm cd doc a vs ns G Y ho (fd_plain hd) hcd hmg hobj hints hlen hg rfl F X) (fun f s' hq => ?_) (fun _ _ hq => hq)
    obtain ⟨rfl, h2, h3, h4⟩ := hq
    exact ⟨.inl ⟨.bool true, .bool true, [], rfl, fun _ => rfl, .bool true, post_true l _, fun _ => ⟨List.Pairwise.nil, fun _ hm => (nomatch hm)⟩⟩, h2, h3, h4⟩

/-- the same from a codeAny of the CALL (for a layer whose function contracts speak of calls) -/
theorem attach_call {l : OpenLaw} {n : Nat} {q : Program} {loose : List Str} {XP : (Str → Option Value) → Heap → Prop} {YP : World → Heap → Prop} {d : DefRec}
    (hn : l.most = some n) (hdf : d.params.defaults = [])
    (call : ∀ (w : World) (s₀ s₁ : Shared) (mg mb : Str → Option Value) (fa : Addr) (o : Obj) (pm cd doc : Value) (a : Addr) (vs : List Value) (ns : List Int),
      Ground q loose [] XP w s₀ mg mb s₁.heap → YP w s₁.heap →
      s₁.heap.get? fa = some o → o.data = .func (docDef d.name d.params d.body d.scope pm cd doc) → s₁.heap.CodeRec cd d.name → mg d.name = some (.ref fa) →
      s₁.heap.get? a = some { cls := .type "list", data := .seq vs.toArray } → IntsAre vs ns → ns.length ≤ n → s₁.gens = #[] →
      codeAny (model l.prog w) callerA (.call (.ref fa) ⟨[.ref a], []⟩) (fun r s' => r = .ok (.ret (.bool true)) ∧ OldK s₁.heap s'.heap ∧ s'.os = s₁.os ∧ AllBare s'.gens) s₁) :
    WalkO q loose XP YP l.row.toRowW d [] (fun f vs => PySem.call f vs) := by
  intro w s₀ s₁ mg mb G Y fa o pm cd doc dV kV ho hd hcd hD hmg hg args vals as hpre hlay hrd hwl hlo
  obtain rfl : dV = .none := Dflts.none hD hdf
  obtain rfl : kV = .none := Dflts.noKw hD
  obtain ⟨a, vs, ns, rfl, rfl, hobj, hints, hlen⟩ := script_of hn hpre hwl
  refine enter_call (codeAny_mono (call w s₀ s₁ mg mb fa o pm cd doc a vs ns G Y ho (fd_plain hd) hcd hmg hobj hints hlen hg) fun r s' hq => ?_)
  obtain ⟨rfl, h2, h3, h4⟩ := hq
  exact ⟨.inl ⟨.bool true, .bool true, [], rfl, fun _ => rfl, .bool true, post_true l _, fun _ => ⟨List.Pairwise.nil, fun _ hm => (nomatch hm)⟩⟩, h2, h3, h4⟩

/-- the same where the top left finished generators (o_head chose holds_openN): nothing may have changed at all and no generator may be left -/
theorem attachN {l : OpenLaw} {n : Nat} {q : Program} {loose : List Str} {XP : (Str → Option Value) → Heap → Prop} {YP : World → Heap → Prop} {d : DefRec} {x : Str}
    (hn : l.most = some n) (hdf : d.params.defaults = [])
    (hbind : ∀ pm cd doc v : Value, bindArgs (docDef d.name d.params d.body d.scope pm cd doc) ⟨[v], []⟩ = pure [(x, v)])
    (hx : d.scope.names.lookup x = some .local ∨ d.scope.names.lookup x = some .cell)
    (hk : d.scope.kind = .function) (hco : d.scope.isCoroutine = false) (hgen : d.scope.isGenerator = false)
    (body : ∀ (w : World) (s₀ s₁ s : Shared) (mg mb : Str → Option Value) (fa : Addr) (o : Obj) (pm cd doc : Value) (a : Addr) (vs : List Value) (ns : List Int),
      Ground q loose [] XP w s₀ mg mb s₁.heap → YP w s₁.heap →
      s₁.heap.get? fa = some o → o.data = .func (docDef d.name d.params d.body d.scope pm cd doc) → s₁.heap.CodeRec cd d.name → mg d.name = some (.ref fa) →
      s₁.heap.get? a = some { cls := .type "list", data := .seq vs.toArray } → IntsAre vs ns → ns.length ≤ n →
      s.gens = #[] → s.os = s₁.os →
      Fr s₁.heap s₁.heap.objs.size s.heap (bindL (envOfC d.name d.scope s₁.heap.objs.size fa cd).kindOf [(x, .ref a)] fun _ => none) →
      Cl s₁.heap.objs.size (cellsFrom (s₁.heap.objs.size + 1) d.scope.names []) s.heap (bindC (envOfC d.name d.scope s₁.heap.objs.size fa cd).kindOf [(x, .ref a)] fun _ => none) →
      wpAny (model l.prog w) (callerA.deeper (envOfC d.name d.scope s₁.heap.objs.size fa cd)) (execs d.body (envOfC d.name d.scope s₁.heap.objs.size fa cd))
        (fun f s' => f = .ret (.bool true) ∧ (∀ b o, s₁.heap.get? b = some o → s'.heap.get? b = some o) ∧ s'.os = s₁.os ∧ s'.gens = #[]) (fun _ _ => False) s) :
    WalkN q loose XP YP l.row.toRowW d [] (fun f vs => PySem.call f vs) := by
  intro w s₀ s₁ mg mb G Y fa o pm cd doc dV kV ho hd hcd hD hmg hg args vals as hpre hlay hrd hwl hlo
  obtain rfl : dV = .none := Dflts.none hD hdf
  obtain rfl : kV = .none := Dflts.noKw hD
  obtain ⟨a, vs, ns, rfl, rfl, hobj, hints, hlen⟩ := script_of hn hpre hwl
  refine enter_callW ?_
  refine call_cells_ret (o := o) (by rw [depth_caller]; decide) ho (fd_plain hd) G.T.nolimit hcd (hbind pm cd doc (.ref a)) (fun y hy => ?_) (fun h₁ tk F X => ?_) hco hgen hk
  · obtain rfl : y = (x, Value.ref a) := List.mem_singleton.mp hy
    rcases hx with e | e
    · exact .inl e
    · exact .inr ⟨e, cellsFrom_some _ _ _ (.inl e)⟩
  · refine wpAny_mono (body w s₀ s₁ { s₁ with heap := h₁, toks := tk } mg mb fa o pm cd doc a vs ns G Y ho (fd_plain hd) hcd hmg hobj hints hlen hg rfl F X) (fun f s' hq => ?_) (fun _ _ hq => hq)
    obtain ⟨rfl, h2, h3, h4⟩ := hq
    exact ⟨.inl ⟨.bool true, .bool true, [], rfl, fun _ => rfl, .bool true, post_true l _, fun _ => ⟨List.Pairwise.nil, fun _ hm => (nomatch hm)⟩⟩, h2, h3, h4⟩

/-! ### rules over ANY heap (no ledger) from facts about the written part K: the library's own take a ledger (News) for what they write -/
section
variable {prog : Program} {w : World} {A : Around} {E : Value → Shared → Prop} {s : Shared} {K : Frag}

/-- a def of the module, or a method (qual 'C.m'), entered: the frame is the next address; cells behind it -/
theorem call_fn {R : Result → Shared → Prop} {name qual : Str} {params : Arguments} {body : List Stmt} {scope : Scope} {dV kV doc pm cdv ct oc : Value} {an od : Option Addr} {osl : Array (Option Value)} {f : Addr} {args : Args} {binds : List (Str × Value)}
    (X : K.In s.heap) (hlim : s.heap.NoLimit) (ho : K.lookup f = some ⟨oc, od, .func (fnOf name qual params body scope dV kV doc pm an cdv ct), osl⟩) (hcd : codeIn K cdv qual = true) (hroom : A.depth < recursionLimit)
    (hbind : BindsTo s (fnOf name qual params body scope dV kV doc pm an cdv ct) args binds)
    (hkind : (binds.all fun y => scope.names.lookup y.1 == some .local || scope.names.lookup y.1 == some .cell) = true)
    (h : ∀ s₁, InCallC s s.heap.objs.size (bindL (envOfC qual scope s.heap.objs.size f cdv).kindOf binds fun _ => none) (cellsFrom (s.heap.objs.size + 1) scope.names [])
        (bindC (envOfC qual scope s.heap.objs.size f cdv).kindOf binds fun _ => none) s₁ →
      wpAny (model prog w) (A.deeper (envOfC qual scope s.heap.objs.size f cdv)) (execs body (envOfC qual scope s.heap.objs.size f cdv))
        (fun fl s' => R (.ok (.ret (match fl with | .ret v => v | _ => .none))) s')
        (fun e s' => wpAny (model prog w) (A.deeper (envOfC qual scope s.heap.objs.size f cdv)) (leaving (envOfC qual scope s.heap.objs.size f cdv) e) (fun _ s'' => R (.error e) s'') (fun e' s'' => R (.error e') s'') s') s₁)
    (hco : scope.isCoroutine = false) (hgen : scope.isGenerator = false) (hk : scope.kind = .function) : codeAny (model prog w) A (.call (.ref f) args) R s := by
  refine codeAny_call_function hroom (X _ _ ho) rfl hco hgen rfl (codeRec_of X hcd) (hbind _ _ _ _ ?_)
  refine wpAny_newFunctionEnv_cells hk (kindsX hkind _) fun env he s₁ x => ?_
  subst he
  exact ⟨hlim.keeps x.toInCall.keep, codeAny_func (h s₁ x)⟩

/-- C(..): dict at size, instance at size + 1, then __init__ -/
theorem make_obj {R : Result → Shared → Prop} {C fI : Addr} {rest : List Value} {kw : List (Str × Value)}
    (X : K.In s.heap) (hm : makesIn K C = true) (hi : findIn K (.ref C) "__init__" = some (some (.ref fI))) (hf : isFn K (.ref fI) = true)
    (h : codeAny (model prog w) (A.under (.builtin "type.__call__" ⟨.ref C :: rest, kw⟩)) (.call (.ref fI) ⟨.ref (s.heap.objs.size + 1) :: rest, kw⟩) (InitBack (s.heap.objs.size + 1) R)
      { s with heap := (s.heap.push emptyDict).push (instObj C s.heap.objs.size) }) : codeAny (model prog w) A (.call (.ref C) ⟨rest, kw⟩) R s := by
  obtain ⟨hh, g, d, t, os⟩ := s
  exact make_core (makes_of X hm) (looks_findIn X hi) (fun self => bind_fn X self (beq_iff_eq.mp hf)) (.inl rfl) h

/-- x.name where the instance's dict holds the name and the class does not -/
theorem get_field {x C : Addr} {ox : Obj} {es : List DictEntry} {n : Nat} {name : Str} {expr : Bool} {v : Value} {Q : Value → Shared → Prop}
    (X : K.In s.heap) (I : PySem.W.InstAt s.heap x ox C (some (dictOf es n))) (hg : plainGet K C name = true) (hh : hasDictIn K C = true) (ha : findIn K (.ref C) name = some none)
    (hl : getL name es = some (some v)) (hv : handedIn v = true) (h : Q v { s with toks := s.toks + 1 }) : wpAny (model prog w) A (getAttr (.ref x) name expr) Q E s :=
  get_value X I (plainGet_of hg).1 (findObj_own hh ha rfl hl) hv h

/-- x.m(..): the method found in the class -/
theorem get_method {x C f : Addr} {ox : Obj} {es : List DictEntry} {n : Nat} {name : Str} {pl : Sem Bool} {Q : Value × List Value → Shared → Prop}
    (X : K.In s.heap) (I : PySem.W.InstAt s.heap x ox C (some (dictOf es n))) (hg : plainGet K C name = true) (hf : findIn K (.ref C) name = some (some (.ref f))) (ht : isFn K (.ref f) = true)
    (hl : getL name es = some none) (h : Q (.ref f, [.ref x]) s) : wpAny (model prog w) A (getMethod (.ref x) name pl) Q E s :=
  method_fn X I (plainGet_of hg).1 (plainGet_of hg).2 hf (beq_iff_eq.mp ht) (by show (lookIn name (dictOf es n)).map _ = _; rw [lookIn_dict, hl]; rfl) h

/-! the whole heap as the ledger: makes every rule that writes through a ledger a rule over any heap -/
def noObjs (h : Heap) : Heap := { h with objs := #[] }
theorem noObjs_get (h : Heap) (b : Addr) : (noObjs h).get? b = none := by
  cases e : (noObjs h).get? b with
  | none => rfl
  | some o => exact absurd (Heap.lt_size e) (Nat.not_lt_zero _)
def ledger (h : Heap) (L d : Addr) : List (Addr × Obj) := (List.range h.objs.size).filterMap fun a => if a = L ∨ a = d then none else (h.get? a).map fun o => (a, o)
theorem mem_ledger {h : Heap} {L d a : Addr} {o : Obj} : (a, o) ∈ ledger h L d ↔ a ≠ L ∧ a ≠ d ∧ h.get? a = some o := by
  unfold ledger
  rw [List.mem_filterMap]
  constructor
  · rintro ⟨b, _, e⟩
    split at e
    · cases e
    · rename_i hb
      obtain ⟨o', ho, e'⟩ := Option.map_eq_some_iff.mp e
      cases e'
      exact ⟨fun q => hb (.inl q), fun q => hb (.inr q), ho⟩
  · rintro ⟨n1, n2, ho⟩
    refine ⟨a, List.mem_range.mpr (Heap.lt_size ho), ?_⟩
    rw [if_neg (show ¬ (a = L ∨ a = d) from fun q => q.elim n1 n2), ho] <;> rfl
theorem news_ledger {h : Heap} {L d : Addr} {od : Obj} (hne : d ≠ L) (ho : h.get? d = some od) : News (noObjs h) L h ([] ++ (d, od) :: ledger h L d) := by
  rintro ⟨a, o⟩ hp
  rcases List.mem_cons.mp hp with e | hp
  · cases e
    exact ⟨ho, hne, noObjs_get _ _⟩
  · obtain ⟨n1, n2, e⟩ := mem_ledger.mp hp
    exact ⟨e, n1, noObjs_get _ _⟩
theorem fr_all {h : Heap} {L : Addr} {m : Str → Option Value} (n : h.Ns L m) : Fr (noObjs h) L h m :=
  ⟨n, fun b o e => (by rw [noObjs_get] at e; cases e), Nat.zero_le _⟩
/-- Upd of the head entry (for append_K, setItem_K ..) -/
theorem upd_ledger {h : Heap} {L d : Addr} {o o' : Obj} : Upd d o o' ((d, o) :: ledger h L d) ((d, o') :: ledger h L d) :=
  .head fun ⟨_, _⟩ hp => (mem_ledger.mp hp).2.1

/-- x.name = v over any heap: L is any namespace of the heap (the frame's, say): its map stays, its object is not told; all else but the dict stays -/
theorem set_field {x C dx L : Addr} {ox : Obj} {m : Str → Option Value} {es es' : List DictEntry} {n n' : Nat} {name : Str} {v : Value} {Q : Unit → Shared → Prop}
    (X : K.In s.heap) (I : PySem.W.InstAt s.heap x ox C (some (dictOf es n))) (hd : ox.dict = some dx) (hL : s.heap.Ns L m) (hne : dx ≠ L)
    (hs : findIn K (.ref C) "__setattr__" = some (some (.builtin "object.__setattr__"))) (hp : plainOver K C = true) (ht : takerIn K C name = some none) (hh : hasDictIn K C = true) (hl : (getL name es).isSome = true)
    (e : (putL name (PyData.keyHash w.params name) (.str name (s.toks + 1)) v es, putN name es n) = (es', n')) (hz : es'.length ≤ 1000)
    (h : ∀ h' : Heap, h'.Ns L m → h'.get? dx = some (dictOf es' n') → (∀ b o, b ≠ dx → b ≠ L → s.heap.get? b = some o → h'.get? b = some o) → Q () { s with heap := h', toks := s.toks + 2 }) :
    wpAny (model prog w) A (setAttr (.ref x) name v) Q E s := by
  obtain ⟨e1, e2⟩ := Prod.mk.inj e
  have hdx : s.heap.get? dx = some (dictOf es n) := by
    have := I.dict
    rw [hd] at this
    exact this
  refine set_plain X I hs (osa_dict (s := { s with toks := s.toks + 1 }) (h₀ := noObjs s.heap) (L := L) (m := m) (od := dictOf es n) (od' := dictOf es' n') (es := es') (n := n') (pre := []) (post := ledger s.heap L dx)
    (fr_all hL) (news_ledger hne hdx) X I hd hp ht hh hl (fun _ q => nomatch q) (fun ⟨_, _⟩ q => (mem_ledger.mp q).2.1) (by rw [putName_dict, e1, e2]) rfl hz fun h' F' N' => ?_)
  exact h h' F'.ns (N'.get (List.Mem.head _)) fun b o n1 n2 ho => N'.get (List.Mem.tail _ (mem_ledger.mpr ⟨n2, n1, ho⟩))
end
end Att

namespace L2
open PySem PySem.Spec PyProof.Rows

theorem vals_ints : ∀ {vs : List Value} {ns : List Int}, IntsAre vs ns → Vals (ns.map V.int) vs
  | _, _, .nil => .nil
  | _, _, .cons n t h => .cons ⟨t, rfl⟩ (vals_ints h)

/-- nothing is tracked but the script, known to the object (or it is an object of the module) -/
def Only (H : Hp) : Prop := ∀ b, H b = none ∨ ∃ o xs, H b = some (.frz o (.lst xs))

/-- THE HEAD: the law's promise, at the heap behind the top. F, the promise of the law's def, may use that base is part of the heap (so K.In base, base.Ns mainGlobals mg stand in Mod) -/
theorem law_call {P : Program} {w : World} {K : PySem.W.Frag} {mg mb : Str → Option Value} {CX : CXT} {k : Nat} {fa a : Addr} {fd : FuncData} {x : Str} {sp : Sp} {s₁ : Shared} {vs : List Value} {ns : List Int}
    (KX : K.In s₁.heap) (hns : s₁.heap.Ns mainGlobals mg) (hb : s₁.heap.Ns builtinsNs mb) (hbb : ∀ x : Str, x ≠ "__name__" → mb x = bootBuiltins x) (hlim : s₁.heap.NoLimit) (hg : s₁.gens = #[])
    (ha : s₁.heap.get? a = some { cls := .type "list", data := .seq vs.toArray }) (hi : IntsAre vs ns) (hl : ns.length ≤ sizeLine) (hr : Room k callerA)
    (F : ∀ base : Heap, K.In base → base.Ns mainGlobals mg → FnOk P w K mg base CX k fa fd [x] sp) (hbind : ∀ (s : Shared) (u : Value), BindsTo s fd ⟨[u], []⟩ [(x, u)])
    (hsp : ∀ H : Hp, Only H → SqL K H a (ns.map V.int) → sp [.ref a] H (fun v _ => v = .bl true) fun _ _ _ => False)
    (hCX : ∀ H e s', CX [] H s₁ (fun _ _ _ => False) e s' → False) :
    codeAny (model P w) callerA (.call (.ref fa) ⟨[.ref a], []⟩) (fun r s' => r = .ok (.ret (.bool true)) ∧ OldK s₁.heap s'.heap ∧ s'.os = s₁.os ∧ AllBare s'.gens) s₁ := by
  have rv := vals_ints hi
  have lenV := hi.length
  -- from an abstract heap in which nothing but the script may be tracked
  have core : ∀ H : Hp, Only H → SqL K H a (ns.map V.int) → HOk P w H s₁.heap → (∀ b, H b ≠ none → b = a) → (H a ≠ none → K.lookup a = none) →
      codeAny (model P w) callerA (.call (.ref fa) ⟨[.ref a], []⟩) (fun r s' => r = .ok (.ret (.bool true)) ∧ OldK s₁.heap s'.heap ∧ s'.os = s₁.os ∧ AllBare s'.gens) s₁ := by
    intro H hO hS hok hA hK
    have base_of : ∀ {b : Addr} {o : Obj}, s₁.heap.get? b = some o → H b = none → (hidT s₁.heap H).get? b = some o := fun e n => hidT_get e n
    have noA : ∀ {b : Addr} {o : Obj} {es : Array DictEntry} {ep : Nat}, s₁.heap.get? b = some o → o.data = .dict es ep → H b = none := fun {b o es ep} e d => by
      cases q : H b with
      | none => rfl
      | some u =>
        have e' : b = a := hA b (by rw [q]; simp)
        subst e'
        rw [ha] at e; cases e
        have d' : Data.seq vs.toArray _ = Data.dict es ep := d
        cases d'
    have nsK : ∀ {b : Addr} {m : Str → Option Value}, s₁.heap.Ns b m → (hidT s₁.heap H).Ns b m := fun {b m} ⟨o, es, ep, e, d, r⟩ => ⟨o, es, ep, base_of e (noA e d), d, r⟩
    have hKb : K.In (hidT s₁.heap H) := fun b o e => base_of (KX b o e) (by
      cases q : H b with
      | none => rfl
      | some u =>
        have e' : b = a := hA b (by rw [q]; simp)
        subst e'
        rw [hK (by rw [q]; simp)] at e; cases e)
    have hM : Mod K mg (hidT s₁.heap H) := ⟨hKb, nsK hns, ⟨mb, nsK hb, hbb⟩, let ⟨mc, h1, h2⟩ := hlim; ⟨mc, nsK h1, h2⟩⟩
    have e0 : Env0 P w K mg (hidT s₁.heap H) callerA [] s₁ H := ⟨rfl, hM, fun b o e => of_hidT e, Nat.le_of_eq (hidT_size _ _), trivial, fun b hb => absurd (show b ∈ ([] : List Addr) from hb) (by simp), hok, .of_eq hg⟩
    refine codeAny_mono ((F _ hKb (nsK hns)).run callerA [] s₁ H ⟨[.ref a], []⟩ [.ref a] [.ref a] _ _ hr e0 (hbind s₁ (.ref a)) (.cons rfl .nil) (hsp H hO hS)) fun r s' h => ?_
    cases r with
    | error e => exact (hCX H e s' h).elim
    | ok fl =>
      cases fl with
      | next => exact False.elim h
      | brk => exact False.elim h
      | cont => exact False.elim h
      | ret u =>
        obtain ⟨v, H', os, bare, un, hok', r', q⟩ := h
        have q' : v = .bl true := q
        subst q'
        obtain rfl : u = Value.bool true := r'
        refine ⟨rfl, OldK.of_keep fun b o e => ?_, os, bare⟩
        cases q : H b with
        | none => exact un.keep b o e q (by intro z; exact absurd (show b ∈ ([] : List Addr) from z) (by simp)) (by simp)
        | some u =>
          rcases hO b with z | ⟨ob, xs, z⟩
          · rw [q] at z; cases z
          · have z2 := un.frzs b ob _ z
            obtain ⟨e1, _⟩ := hok b _ z
            obtain ⟨e2, _⟩ := hok' b _ z2
            rw [e] at e1; cases e1
            exact e2
  cases hk : K.lookup a with
  | some o =>
    -- the script is one of the module's own objects
    have e := KX a o hk
    rw [ha] at e
    cases e
    refine core (fun _ => none) (fun _ => .inl rfl) (.inr ⟨_, vs.toArray, _, hk, rfl, rfl, rfl, by rw [List.size_toArray, lenV]; exact hl, by simpa using rv⟩) (fun b u z => by have z' : (none : Option HO) = some u := z; cases z') (fun b z => absurd rfl z) fun z => absurd rfl z
  | none =>
    refine core (fun b => if b = a then some (.frz { cls := .type "list", data := .seq vs.toArray } (.lst (ns.map V.int))) else none) (fun b => ?_) (.inl (.inr ⟨{ cls := .type "list", data := .seq vs.toArray }, if_pos rfl⟩)) (fun b u z => ?_) (fun b z => ?_) fun _ => hk
    · by_cases hb : b = a
      · exact .inr ⟨_, _, if_pos hb⟩
      · exact .inl (if_neg hb)
    · by_cases hb : b = a
      · have z' := (if_pos hb).symm.trans z
        cases z'
        subst hb
        exact ⟨ha, by rw [List.length_map]; exact hl, vs, _, rv, ha⟩
      · have z' := (if_neg hb).symm.trans z
        cases z'
    · by_cases hb : b = a
      · exact hb
      · exact absurd (if_neg hb) z
end L2

namespace L2
open PySem PySem.Spec PyProof.Rows

abbrev KOf {K : PySem.W.Frag} {h : Heap} (_ : K.In h) : PySem.W.Frag := K

/-- the goal that k_head leaves (case hc), from the law's promise. F gives the function object fd (K's own) once, then the promise over every base -/
theorem walk_of {l : PySem.W.OpenLaw} {n k : Nat} {q : Program} {loose : List Str} {XP : (Str → Option Value) → Heap → Prop} {YP : World → Heap → Prop} {d : DefRec} {K : Params → PySem.W.Frag} {CX : World → CXT} {sp : World → Sp} {x : Str}
    (hn : l.most = some n) (hn2 : n ≤ sizeLine) (hdf : d.params.defaults = []) (hr : Room k callerA)
    (hY : ∀ (w : World) (h : Heap), YP w h → (K w.params).In h)
    (F : ∀ (w : World) (mg : Str → Option Value) (fa : Addr) (h : Heap), (K w.params).In h → h.Ns mainGlobals mg → mg d.name = some (.ref fa) →
      ∃ fd : FuncData, (∀ (s : Shared) (u : Value), BindsTo s fd ⟨[u], []⟩ [(x, u)]) ∧
        ∀ base : Heap, (K w.params).In base → base.Ns mainGlobals mg → FnOk l.prog w (K w.params) mg base (CX w) k fa fd [x] (sp w))
    (hsp : ∀ (w : World) (H : Hp) (a : Addr) (ns : List Int), ns.length ≤ n → Only H → SqL (K w.params) H a (ns.map V.int) → sp w [.ref a] H (fun v _ => v = .bl true) fun _ _ _ => False)
    (hCX : ∀ (w : World) (H : Hp) (s : Shared) (e : Value) (s' : Shared), CX w [] H s (fun _ _ _ => False) e s' → False) :
    PySem.W.WalkO q loose XP YP l.row.toRowW d [] (fun f vs => PySem.call f vs) := by
  refine Att.attach_call hn hdf fun w s₀ s₁ mg mb fa o pm cd doc a vs ns G Y ho hd hcd hmg hobj hints hlen hg => ?_
  have KX := hY w _ Y
  obtain ⟨fd, hb, hF⟩ := F w mg fa _ KX G.T.g hmg
  exact law_call KX G.T.g G.T.b G.T.builtins G.T.nolimit hg hobj hints (Nat.le_trans hlen hn2) hr hF hb (fun H hO hS => hsp w H a ns hlen hO hS) fun H e s' => hCX w H s₁ e s'
/-- the same where the promise hangs on the written part alone: (sp := My.sp_law), no hole under a binder -/
theorem walk_ofK {l : PySem.W.OpenLaw} {n k : Nat} {q : Program} {loose : List Str} {XP : (Str → Option Value) → Heap → Prop} {YP : World → Heap → Prop} {d : DefRec} {K : Params → PySem.W.Frag} {CX : CXT} {sp : PySem.W.Frag → Sp} {x : Str}
    (hn : l.most = some n) (hn2 : n ≤ sizeLine) (hdf : d.params.defaults = []) (hr : Room k callerA)
    (hY : ∀ (w : World) (h : Heap), YP w h → (K w.params).In h)
    (F : ∀ (w : World) (mg : Str → Option Value) (fa : Addr) (h : Heap), (K w.params).In h → h.Ns mainGlobals mg → mg d.name = some (.ref fa) →
      ∃ fd : FuncData, (∀ (s : Shared) (u : Value), BindsTo s fd ⟨[u], []⟩ [(x, u)]) ∧
        ∀ base : Heap, (K w.params).In base → base.Ns mainGlobals mg → FnOk l.prog w (K w.params) mg base CX k fa fd [x] (sp (K w.params)))
    (hsp : ∀ (K : PySem.W.Frag) (H : Hp) (a : Addr) (ns : List Int), ns.length ≤ n → Only H → SqL K H a (ns.map V.int) → sp K [.ref a] H (fun v _ => v = .bl true) fun _ _ _ => False)
    (hCX : ∀ (H : Hp) (s : Shared) (e : Value) (s' : Shared), CX [] H s (fun _ _ _ => False) e s' → False) :
    PySem.W.WalkO q loose XP YP l.row.toRowW d [] (fun f vs => PySem.call f vs) :=
  walk_of (K := K) (CX := fun _ => CX) (sp := fun w => sp (K w.params)) hn hn2 hdf hr hY F (fun w H a ns h1 h2 h3 => hsp (K w.params) H a ns h1 h2 h3) fun _ H s e s' => hCX H s e s'
end L2

/- THE LAST THEOREM (shape; LID, My.* are yours):
   My.Adr: a structure of the addresses that your layer names (classes, functions); My.Txt K t: a structure (Prop) of the equations over K;
   My.txt_mk : {K} {implicit addresses ..} (e1 : nsIn K mainGlobals "law" = some (some (.ref f))) (e2 : K.lookup f = some ⟨oc, od, .func (fnOf "law" "law" params body scope dV kV doc pm an cdv ct), sl⟩) (e3 : codeIn K cdv "law" = true) .. : ∃ t, My.Txt K t

set_option maxRecDepth 100000 in
set_option maxHeartbeats 0 in
theorem PySem.Challenge.cw_LID_holds : PySem.Challenge.rw_LID.Holds := by
  w_on; o_law; k_head; (case hw => w_witness2)
  k_fill
  refine L2.walk_of (l := PySem.Challenge.rw_LID) (n := 63) (k := 40) (x := "script") (CX := fun w => ..) (sp := fun _ => My.sp_law) rfl (by decide) rfl ⟨rfl, by decide, by decide⟩ (fun w h Y => PySem.W.kIn_of Y) ?F ?S ?C
  case F =>
    intro w mg fa h KX G hmg
    have T : ∃ t, My.Txt (L2.KOf KX) t := by
      dsimp only [L2.KOf]                          -- K must stand as «<heap const> w.params» for k_is
      refine' My.txt_mk ?e1 ?e2 ?e3 ..
      (case e1 => PySem.W.k_is)                    -- in the order: a name -> its address -> its object -> its parts
      (case e2 => PySem.W.k_is)
      ..
    obtain ⟨t, T⟩ := T
    have e0 := hmg.symm.trans (PySem.W.mg_of KX G T.law)
    cases e0                                       -- fa is the law's own address
    exact ⟨_, fun s u => .of_eq rfl, fun base kb nb => My.law_fn T kb nb⟩     -- if «.of_eq rfl» comes too early: refine' ⟨_, ?b, fun base kb nb => My.law_fn T kb nb⟩; exact fun s u => .of_eq rfl
  case S => exact fun w H a ns hl hO hS => ..
  case C => exact ..
(the tactic k_is has no namespace: write k_is) -/

/-! SHORT WORDS over the layer: a def of the text, its body, what a loop and a test want. -/
namespace L2
open PySem PySem.Spec PyProof.Rows

/-! ### the text by places -/
/-- the j-th statement of a class's body -/
def inClass (s : Stmt) (j : Nat) : Stmt := match s with
  | .ClassDef _ _ _ body _ _ _ _ _ _ _ => body.getD j (.Pass ⟨0, 0, 0, 0⟩)
  | _ => .Pass ⟨0, 0, 0, 0⟩
def defArgs (s : Stmt) : Arguments := match s with
  | .FunctionDef _ a _ _ _ _ _ _ _ _ => a
  | _ => { posonlyargs := [], args := [], vararg := none, kwonlyargs := [], kw_defaults := [], kwarg := none, defaults := [] }
def defBody (s : Stmt) : List Stmt := match s with
  | .FunctionDef _ _ b _ _ _ _ _ _ _ => b
  | _ => []
def defScope (s : Stmt) : Scope := match s with
  | .FunctionDef _ _ _ _ _ _ sc _ _ _ => sc
  | _ => { kind := .function, names := [], isGenerator := false, isCoroutine := false }

/-! ### no exception leaves a def -/
abbrev CX0 : CXT := fun _ _ _ _ _ _ => False
abbrev E0 : XK := fun _ _ _ => False
theorem pass0 {X : Cx} : Passes CX0 X E0 := fun _ _ _ _ _ _ _ h => h.elim

/-! ### a def (or method) of the text as it stands behind the top -/
structure Fun (K : PySem.W.Frag) (x qual : Str) (st : Stmt) (f : Addr) (fd : FuncData) : Prop where
  ex : ∃ (oc : Value) (od : Option Addr) (kV doc pm : Value) (an : Option Addr) (cdv ct : Value) (osl : Array (Option Value)),
    fd = PySem.W.fnOf x qual (defArgs st) (defBody st) (defScope st) .none kV doc pm an cdv ct ∧ K.lookup f = some ⟨oc, od, .func fd, osl⟩ ∧ PySem.W.codeIn K cdv qual = true
  kp : PySem.W.keepIn K (.ref f) = true
section
variable {P : Program} {w : World} {K : PySem.W.Frag} {mg : Str → Option Value} {base : Heap}
/-- THE RULE for a def: its body as a term of rules, and the reading of that term -/
theorem Fun.ok {x qual : Str} {st : Stmt} {f : Addr} {fd : FuncData} {N ps : List Str} {k : Nat} {sp : Sp} (F : Fun K x qual st f fd) (S : FnScope N ps (defScope st)) (len : ∀ vs H Q E, sp vs H Q E → vs.length = ps.length)
    (hbody : ∀ (cdv : Value) (A : Around) (outer : List Env) (s : Shared) (H : Hp) (vs : List V) (Q : VK) (E : XK), Room k (A.deeper (envOfC qual (defScope st) s.heap.objs.size f cdv)) → sp vs H Q E →
      ∃ t, PSs (cxOf CX0 P w K mg base N qual (defScope st) f cdv A outer s H E).nox (defBody st) t ∧ t { nx := fun _ H' => Q .non H', rt := Q } (start N vs) H) : FnOk P w K mg base CX0 (k + 1) f fd ps sp := by
  obtain ⟨oc, od, kV, doc, pm, an, cdv, ct, osl, rfl, lk, hcd⟩ := F.ex
  refine fn_of lk hcd S len fun A outer s H vs Q E hr hsp => ?_
  obtain ⟨t, h, q⟩ := hbody cdv A outer s H vs Q E hr hsp
  exact ⟨t, h.nox, q⟩
/-- how its arguments bind (no defaults): h is «fun _ _ _ _ _ _ us hl => match us, hl with | [_, _], _ => rfl», one _ a parameter -/
theorem Fun.binds {x qual : Str} {st : Stmt} {f : Addr} {fd : FuncData} {ps : List Str} (F : Fun K x qual st f fd)
    (h : ∀ (kV doc pm : Value) (an : Option Addr) (cdv ct : Value) (us : List Value), us.length = ps.length → bindArgs (PySem.W.fnOf x qual (defArgs st) (defBody st) (defScope st) .none kV doc pm an cdv ct) ⟨us, []⟩ = pure (ps.zip us)) : Binds K fd ps [] := by
  obtain ⟨oc, od, kV, doc, pm, an, cdv, ct, osl, rfl, lk, hcd⟩ := F.ex
  exact .all (h kV doc pm an cdv ct)
theorem fun_mk {x qual : Str} {st : Stmt} {f : Addr} {oc : Value} {od an : Option Addr} {osl : Array (Option Value)} {kV doc pm cdv ct : Value} (l : K.lookup f = some ⟨oc, od, .func (PySem.W.fnOf x qual (defArgs st) (defBody st) (defScope st) .none kV doc pm an cdv ct), osl⟩)
    (c : PySem.W.codeIn K cdv qual = true) (k : PySem.W.keepIn K (.ref f) = true) : Fun K x qual st f (PySem.W.fnOf x qual (defArgs st) (defBody st) (defScope st) .none kV doc pm an cdv ct) := ⟨⟨oc, od, kV, doc, pm, an, cdv, ct, osl, rfl, l, c⟩, k⟩
end
theorem hu_of {A : Around} {k : Nat} (hr : Room k A) : A.units + 1 < cLine := Nat.lt_of_le_of_lt (Nat.add_le_add_left (by decide : 1 ≤ 64) _) hr.units
theorem small1000 {n : Nat} (h : n ≤ 1000) : n < sizeLine := Nat.lt_of_le_of_lt h (by decide)

/-! ### expressions in short: the name that stands in the i-th slot -/
section
variable {X : Cx}
theorem pv (i : Nat) {x : Str} {pos : Pos} (hN : X.N[i]? = some x := by rfl) (hv : Vis X.env.scope x := by first | exact Or.inl rfl | exact Or.inr (Or.inl rfl) | exact Or.inr (Or.inr rfl)) (hd : (x == ("__debug__" : Str)) = false := by decide)
    (hcd : (x == ("__classdict__" : Str)) = false := by decide) : PE X (.Name x pos) (tVar i) := pe_var hN hv hd hcd
/-- len of a dict -/
theorem call_lenD : CallR X (.builtin "len") (fun xs H Q => ∃ a kvs, xs = [V.ref a] ∧ H a = some (.dK kvs) ∧ Q (.int kvs.length) H) := by
  intro pins s σ H xs us Q I r h
  obtain ⟨a, kvs, rfl, ha, q⟩ := h
  obtain ⟨u, rfl, ru⟩ := vals1 r
  cases ru
  exact d_len I (.inl ha) fun t s' I' => ⟨.int kvs.length, H, I', ⟨t, rfl⟩, q⟩
end

/-! ### tests -/
theorem iteF {A B : Prop} (h : B) : if false = true then A else B := by
  rw [if_neg Bool.false_ne_true]
  exact h
theorem iteT {A B : Prop} (h : A) : if true = true then A else B := by
  rw [if_pos rfl]
  exact h
theorem ite2 {c A B : Prop} [Decidable c] (h1 : c → A) (h2 : ¬ c → B) : if c then A else B := by
  by_cases h : c
  · rw [if_pos h]
    exact h1 h
  · rw [if_neg h]
    exact h2 h
theorem iteNS {c A B : Prop} [Decidable c] (hc : c) (h : B) : if (!decide c) = true then A else B := by
  rw [decide_eq_true hc]
  exact iteF h

/-! ### heaps -/
/-- all that was tracked is as it was -/
def Same (H H' : Hp) : Prop := ∀ b o, H b = some o → H' b = some o
theorem Same.refl (H : Hp) : Same H H := fun _ _ h => h
theorem Same.trans {H H1 H2 : Hp} (a : Same H H1) (b : Same H1 H2) : Same H H2 := fun c o h => b c o (a c o h)
theorem Same.free {H H' : Hp} (e : Same H H') {l : Addr} (h : H' l = Option.none) : H l = Option.none := by
  cases q : H l with
  | none => rfl
  | some o =>
    rw [e l o q] at h
    cases h
theorem Same.seq {K : PySem.W.Frag} {H H' : Hp} {a : Addr} {xs : List V} (e : Same H H') (h : SqL K H a xs) : SqL K H' a xs := by
  rcases h with (h | ⟨o, h⟩) | h
  · exact .inl (.inl (e _ _ h))
  · exact .inl (.inr ⟨o, e _ _ h⟩)
  · exact .inr h

/-! ### a dict's pairs: keys that differ -/
section
variable {κ : Type} [DecidableEq κ]
theorem valV_not {kvs : List (κ × V)} {k : κ} (h : valV kvs k = none) : ¬ k ∈ kvs.map (·.1) := by
  intro m
  obtain ⟨p, hp, e⟩ := List.mem_map.mp m
  have q : (kvs.any fun kv => decide (kv.1 = k)) = true := List.any_eq_true.mpr ⟨p, hp, decide_eq_true e⟩
  rw [valV_any, h] at q
  exact absurd q (by simp)
theorem valV_in {kvs : List (κ × V)} {k : κ} {v : V} (h : valV kvs k = some v) : k ∈ kvs.map (·.1) := by
  have q : (kvs.any fun kv => decide (kv.1 = k)) = true := by
    rw [valV_any, h]
    all_goals rfl
  obtain ⟨p, hp, e⟩ := List.any_eq_true.mp q
  exact List.mem_map.mpr ⟨p, hp, of_decide_eq_true e⟩
theorem nd_snoc : ∀ {l : List κ} {k : κ}, l.Nodup → ¬ k ∈ l → (l ++ [k]).Nodup
  | [], k, _, _ => by simp
  | a :: r, k, h, hk => by
    obtain ⟨h1, h2⟩ := List.nodup_cons.mp h
    show (a :: (r ++ [k])).Nodup
    refine List.nodup_cons.mpr ⟨fun m => ?_, nd_snoc h2 fun m => hk (List.mem_cons.mpr (Or.inr m))⟩
    rcases List.mem_append.mp m with q | q
    · exact h1 q
    · exact hk (List.mem_cons.mpr (Or.inl (List.mem_singleton.mp q).symm))
theorem nd_putK {kvs : List (κ × V)} {k : κ} (v : V) (hn : (kvs.map (·.1)).Nodup) (h : valV kvs k = none) : ((putK kvs k v).map (·.1)).Nodup := by
  rw [putK_new v h, List.map_append]
  exact nd_snoc hn (valV_not h)
theorem dropK_pos {p : κ × V} {r : List (κ × V)} {k : κ} (e : p.1 = k) : dropK (p :: r) k = dropK r k := by
  unfold dropK
  rw [List.filter_cons, if_neg (by simp [e])]
theorem dropK_neg {p : κ × V} {r : List (κ × V)} {k : κ} (e : ¬ p.1 = k) : dropK (p :: r) k = p :: dropK r k := by
  unfold dropK
  rw [List.filter_cons, if_pos (by simp [e])]
theorem dropK_no : ∀ {kvs : List (κ × V)} {k : κ}, ¬ k ∈ kvs.map (·.1) → dropK kvs k = kvs
  | [], _, _ => rfl
  | p :: r, k, h => by
    have h' : ¬ k ∈ r.map (·.1) := fun m => by
      obtain ⟨q, hq, e⟩ := List.mem_map.mp m
      exact h (List.mem_map.mpr ⟨q, List.mem_cons.mpr (Or.inr hq), e⟩)
    rw [dropK_neg fun e => h (List.mem_map.mpr ⟨p, List.mem_cons.mpr (Or.inl rfl), e⟩), dropK_no h']
theorem dropK_mem {kvs : List (κ × V)} {k : κ} {p : κ × V} (h : p ∈ dropK kvs k) : p ∈ kvs := (List.mem_filter.mp h).1
theorem nd_dropK : ∀ {kvs : List (κ × V)} {k : κ}, (kvs.map (·.1)).Nodup → ((dropK kvs k).map (·.1)).Nodup
  | [], _, _ => List.nodup_nil
  | p :: r, k, h => by
    have h : (p.1 :: r.map (·.1)).Nodup := h
    obtain ⟨h1, h2⟩ := List.nodup_cons.mp h
    by_cases e : p.1 = k
    · rw [dropK_pos e]
      exact nd_dropK h2
    · rw [dropK_neg e]
      show (p.1 :: (dropK r k).map (·.1)).Nodup
      refine List.nodup_cons.mpr ⟨fun m => h1 ?_, nd_dropK h2⟩
      obtain ⟨q, hq, eq⟩ := List.mem_map.mp m
      exact List.mem_map.mpr ⟨q, dropK_mem hq, eq⟩
theorem dropK_len : ∀ {kvs : List (κ × V)} {k : κ}, (kvs.map (·.1)).Nodup → k ∈ kvs.map (·.1) → (dropK kvs k).length + 1 = kvs.length
  | [], _, _, m => by simp at m
  | p :: r, k, h, m => by
    have h : (p.1 :: r.map (·.1)).Nodup := h
    have m : k = p.1 ∨ k ∈ r.map (·.1) := List.mem_cons.mp m
    obtain ⟨h1, h2⟩ := List.nodup_cons.mp h
    by_cases e : p.1 = k
    · subst e
      rw [dropK_pos rfl, dropK_no h1]
      all_goals rfl
    · have m' : k ∈ r.map (·.1) := m.resolve_left fun z => e z.symm
      have q := dropK_len h2 m'
      rw [dropK_neg e, List.length_cons, List.length_cons]
      omega
end
end L2

namespace Gb
/-! ### the greatest power of two below n -/
def spl (n : Nat) : Nat := 2 ^ Nat.log2 (n - 1)
theorem spl_pos (n : Nat) : 1 ≤ spl n := Nat.one_le_two_pow
theorem spl_lt {n : Nat} (h : 2 ≤ n) : spl n < n := by
  have := Nat.log2_self_le (n := n - 1) (by omega)
  unfold spl; omega
theorem spl_ge {n : Nat} (h : 2 ≤ n) : n ≤ 2 * spl n := by
  have := Nat.lt_log2_self (n := n - 1)
  unfold spl
  rw [Nat.pow_succ] at this
  omega
theorem spl_unique {n j : Nat} (h1 : 2 ^ j < n) (h2 : n ≤ 2 * 2 ^ j) : 2 ^ j = spl n := by
  unfold spl
  have hp : 1 ≤ 2 ^ j := Nat.one_le_two_pow
  have e : Nat.log2 (n - 1) = j := (Nat.log2_eq_iff (by omega)).mpr ⟨by omega, by rw [Nat.pow_succ]; omega⟩
  rw [e]
section
variable {α : Type} (nl : α) (pr : α → α → α)
/-! ### tops, growths, paths -/
def topT (ts : List α) : α :=
  if h : ts.length < 2 then ts.headD nl
  else pr (topT (ts.take (spl ts.length))) (topT (ts.drop (spl ts.length)))
termination_by ts.length
decreasing_by
  · have := spl_lt (n := ts.length) (by omega); simp; omega
  · have := spl_pos ts.length; simp; omega
theorem topT_nil : topT nl pr [] = nl := by unfold topT; rfl
theorem topT_one (t : α) : topT nl pr [t] = t := by unfold topT; rfl
theorem topT_more {ts : List α} (h : 2 ≤ ts.length) : topT nl pr ts = pr (topT nl pr (ts.take (spl ts.length))) (topT nl pr (ts.drop (spl ts.length))) := by
  rw [topT, dif_neg (by omega)]
def growT (ts : List α) (old : Nat) : List α :=
  if old = 0 then []
  else if h : ts.length ≤ old then [topT nl pr ts]
  else if old ≤ spl ts.length then growT (ts.take (spl ts.length)) old ++ [topT nl pr (ts.drop (spl ts.length))]
  else growT (ts.drop (spl ts.length)) (old - spl ts.length) ++ [topT nl pr (ts.take (spl ts.length))]
termination_by ts.length
decreasing_by
  · have := spl_lt (n := ts.length) (by omega); simp; omega
  · have := spl_pos ts.length; simp; omega
theorem growT_zero (ts : List α) : growT nl pr ts 0 = [] := by rw [growT, if_pos rfl]
theorem growT_all {ts : List α} {old : Nat} (h0 : old ≠ 0) (h : ts.length ≤ old) : growT nl pr ts old = [topT nl pr ts] := by rw [growT, if_neg h0, dif_pos h]
theorem growT_low {ts : List α} {old : Nat} (h0 : old ≠ 0) (h : old < ts.length) (h2 : old ≤ spl ts.length) : growT nl pr ts old = growT nl pr (ts.take (spl ts.length)) old ++ [topT nl pr (ts.drop (spl ts.length))] := by
  rw [growT, if_neg h0, dif_neg (by omega), if_pos h2]
theorem growT_high {ts : List α} {old : Nat} (h0 : old ≠ 0) (h : old < ts.length) (h2 : ¬ old ≤ spl ts.length) : growT nl pr ts old = growT nl pr (ts.drop (spl ts.length)) (old - spl ts.length) ++ [topT nl pr (ts.take (spl ts.length))] := by
  rw [growT, if_neg h0, dif_neg (by omega), if_neg h2]
/-- its length: with ts.length ≤ 2 ^ j at most j + 1 -/
theorem growT_len : ∀ (j : Nat) (ts : List α) (old : Nat), ts.length ≤ 2 ^ j → (growT nl pr ts old).length ≤ j + 1
  | j, ts, old, h => by
    by_cases h0 : old = 0
    · subst h0; rw [growT_zero]; simp
    by_cases h1 : ts.length ≤ old
    · rw [growT_all nl pr h0 h1]; simp
    have h2 : 2 ≤ ts.length := by omega
    have a := spl_lt h2
    have b := spl_ge h2
    match j, h with
    | 0, h => simp at h; omega
    | j + 1, h =>
      have c : spl ts.length ≤ 2 ^ j := by
        unfold spl
        refine Nat.pow_le_pow_right (by omega) ?_
        have : 2 ^ Nat.log2 (ts.length - 1) < 2 ^ (j + 1) := Nat.lt_of_lt_of_le (spl_lt h2) h
        have := (Nat.pow_lt_pow_iff_right (by omega : 1 < 2)).mp this
        omega
      by_cases h3 : old ≤ spl ts.length
      · rw [growT_low nl pr h0 (by omega) h3]
        have := growT_len j (ts.take (spl ts.length)) old (by simp; omega)
        simp; omega
      · rw [growT_high nl pr h0 (by omega) h3]
        have := growT_len j (ts.drop (spl ts.length)) (old - spl ts.length) (by simp; omega)
        simp; omega
def pathT (ts : List α) (place : Nat) : List α :=
  if h : ts.length < 2 then []
  else if place < spl ts.length then pathT (ts.take (spl ts.length)) place ++ [topT nl pr (ts.drop (spl ts.length))]
  else pathT (ts.drop (spl ts.length)) (place - spl ts.length) ++ [topT nl pr (ts.take (spl ts.length))]
termination_by ts.length
decreasing_by
  · have := spl_lt (n := ts.length) (by omega); simp; omega
  · have := spl_pos ts.length; simp; omega
theorem pathT_few {ts : List α} {place : Nat} (h : ts.length < 2) : pathT nl pr ts place = [] := by rw [pathT, dif_pos h]
theorem pathT_low {ts : List α} {place : Nat} (h : 2 ≤ ts.length) (h2 : place < spl ts.length) : pathT nl pr ts place = pathT nl pr (ts.take (spl ts.length)) place ++ [topT nl pr (ts.drop (spl ts.length))] := by
  rw [pathT, dif_neg (by omega), if_pos h2]
theorem pathT_high {ts : List α} {place : Nat} (h : 2 ≤ ts.length) (h2 : ¬ place < spl ts.length) : pathT nl pr ts place = pathT nl pr (ts.drop (spl ts.length)) (place - spl ts.length) ++ [topT nl pr (ts.take (spl ts.length))] := by
  rw [pathT, dif_neg (by omega), if_neg h2]
end
end Gb

namespace Gb
section
variable {α : Type} (nl : α) (pr : α → α → α)
/-! ### full stretches -/
/-- the greatest power of two up to n -/
def hp (n : Nat) : Nat := 2 ^ Nat.log2 n
theorem hp_pos (n : Nat) : 1 ≤ hp n := Nat.one_le_two_pow
theorem hp_le {n : Nat} (h : 1 ≤ n) : hp n ≤ n := Nat.log2_self_le (by omega)
theorem hp_gt (n : Nat) : n < 2 * hp n := by have := Nat.lt_log2_self (n := n); unfold hp; rw [Nat.pow_succ] at this; omega
theorem hp_unique {n j : Nat} (h1 : 2 ^ j ≤ n) (h2 : n < 2 * 2 ^ j) : 2 ^ j = hp n := by
  unfold hp
  have hp : 1 ≤ 2 ^ j := Nat.one_le_two_pow
  have e : Nat.log2 n = j := (Nat.log2_eq_iff (by omega)).mpr ⟨h1, by rw [Nat.pow_succ]; omega⟩
  rw [e]
def strT (ts : List α) : List α :=
  if h : ts.length = 0 then [] else topT nl pr (ts.take (hp ts.length)) :: strT (ts.drop (hp ts.length))
termination_by ts.length
decreasing_by have := hp_pos ts.length; simp; omega
theorem strT_nil : strT nl pr [] = [] := by rw [strT, dif_pos (show ([] : List α).length = 0 from rfl)]
theorem strT_more {ts : List α} (h : 1 ≤ ts.length) : strT nl pr ts = topT nl pr (ts.take (hp ts.length)) :: strT nl pr (ts.drop (hp ts.length)) := by rw [strT, dif_neg (by omega)]
/-- one full stretch -/
theorem strT_full {ts : List α} {k : Nat} (h : ts.length = 2 ^ k) : strT nl pr ts = [topT nl pr ts] := by
  have hp1 : 1 ≤ 2 ^ k := Nat.one_le_two_pow
  rw [strT_more nl pr (by omega)]
  have e : hp ts.length = ts.length := by rw [h]; exact (hp_unique (Nat.le_refl _) (by omega)).symm
  rw [e, List.take_length, List.drop_length, strT_nil]
/-- a shorter full stretch behind longer ones -/
theorem strT_snoc {us : List α} {k : Nat} (hu : us.length = 2 ^ k) : ∀ (n : Nat) (ts : List α), ts.length = n → (∃ m, ts.length = 2 * m * 2 ^ k) → strT nl pr (ts ++ us) = strT nl pr ts ++ [topT nl pr us] := by
  intro n
  induction n using Nat.strongRecOn with
  | ind n ih =>
    intro ts hn ⟨m, hm⟩
    have hp1 : 1 ≤ 2 ^ k := Nat.one_le_two_pow
    by_cases h0 : ts.length = 0
    · have e := List.eq_nil_of_length_eq_zero h0
      subst e
      rw [List.nil_append, strT_nil, strT_full nl pr hu]; rfl
    · -- the first stretch is the same
      have hm0 : 1 ≤ m := by
        rcases Nat.eq_zero_or_pos m with z | z
        · subst z; rw [Nat.mul_zero, Nat.zero_mul] at hm; exact absurd hm h0
        · exact z
      have a1 := hp_le (n := ts.length) (by omega)
      have a2 := hp_gt ts.length
      -- hp ts.length = 2 ^ L with k + 1 ≤ L
      have hL : k + 1 ≤ Nat.log2 ts.length := by
        have : 2 ^ (k + 1) ≤ ts.length := by rw [hm, Nat.pow_succ]; have := Nat.mul_le_mul_right (2 ^ k) (show 2 * 1 ≤ 2 * m by omega); omega
        exact (Nat.le_log2 (by omega)).mpr this
      obtain ⟨j, hj⟩ : ∃ j, Nat.log2 ts.length = k + 1 + j := ⟨Nat.log2 ts.length - (k + 1), by omega⟩
      have eh : hp ts.length = 2 * 2 ^ j * 2 ^ k := by
        unfold hp; rw [hj, Nat.pow_add, Nat.pow_succ, Nat.mul_comm (2 ^ k * 2) (2 ^ j), Nat.mul_comm (2 ^ k) 2, ← Nat.mul_assoc, Nat.mul_comm (2 ^ j) 2]
      -- adding 2 ^ k does not reach the next power
      have small : ts.length + 2 ^ k < 2 * hp ts.length := by
        have b1 : 2 * m * 2 ^ k < 2 * (2 * 2 ^ j * 2 ^ k) := by rw [← eh, ← hm]; exact a2
        rw [eh, hm]
        have b2 : 2 * m < 2 * (2 * 2 ^ j) := by
          have : 2 * m * 2 ^ k < 2 * (2 * 2 ^ j) * 2 ^ k := by rw [Nat.mul_assoc 2 (2 * 2 ^ j)]; exact b1
          exact Nat.lt_of_mul_lt_mul_right this
        have b3 : (2 * m + 2) * 2 ^ k ≤ 2 * (2 * 2 ^ j) * 2 ^ k := Nat.mul_le_mul_right _ (by omega)
        have b4 : (2 * m + 2) * 2 ^ k = 2 * m * 2 ^ k + 2 * 2 ^ k := by rw [Nat.add_mul]
        rw [Nat.mul_assoc 2 (2 * 2 ^ j)] at b3
        omega
      have e2 : hp (ts ++ us).length = hp ts.length := by
        rw [List.length_append, hu]
        show _ = 2 ^ Nat.log2 ts.length
        exact (hp_unique (show 2 ^ Nat.log2 ts.length ≤ _ from by have : hp ts.length ≤ ts.length := a1; unfold hp at this; omega) small).symm
      rw [strT_more nl pr (by rw [List.length_append]; omega), e2, List.take_append_of_le_length a1, List.drop_append_of_le_length a1, strT_more nl pr (ts := ts) (by omega), List.cons_append]
      have a3 := hp_pos ts.length
      congr 1
      refine ih (ts.drop (hp ts.length)).length (by rw [List.length_drop]; omega) _ rfl ⟨m - 2 ^ j, ?_⟩
      rw [List.length_drop, eh, hm, Nat.mul_sub, Nat.sub_mul]
/-- adding one, as a counter does -/
def incr (n : Nat) (tops : List α) (t : α) : List α :=
  if h : n % 2 = 1 then incr (n / 2) tops.dropLast (pr (tops.getLastD nl) t) else tops ++ [t]
termination_by n
theorem incr_odd {n : Nat} (h : n % 2 = 1) (tops : List α) (t : α) : incr nl pr n tops t = incr nl pr (n / 2) tops.dropLast (pr (tops.getLastD nl) t) := by rw [incr, dif_pos h]
theorem incr_even {n : Nat} (h : ¬ n % 2 = 1) (tops : List α) (t : α) : incr nl pr n tops t = tops ++ [t] := by rw [incr, dif_neg h]
theorem topT_pow {vs us : List α} {k : Nat} (hv : vs.length = 2 ^ k) (hu : us.length = 2 ^ k) : topT nl pr (vs ++ us) = pr (topT nl pr vs) (topT nl pr us) := by
  have hp1 : 1 ≤ 2 ^ k := Nat.one_le_two_pow
  have hl : (vs ++ us).length = 2 ^ k + 2 ^ k := by rw [List.length_append, hv, hu]
  have e : spl (vs ++ us).length = 2 ^ k := (spl_unique (by omega) (by omega)).symm
  rw [topT_more nl pr (by omega), e, ← hv, List.take_left, List.drop_left]
theorem incr_str : ∀ (n k : Nat) (ts us : List α), ts.length = n * 2 ^ k → us.length = 2 ^ k → incr nl pr n (strT nl pr ts) (topT nl pr us) = strT nl pr (ts ++ us) := by
  intro n
  induction n using Nat.strongRecOn with
  | ind n ih =>
    intro k ts us ht hu
    by_cases h : n % 2 = 1
    · obtain ⟨m, rfl⟩ : ∃ m, n = 2 * m + 1 := ⟨n / 2, by omega⟩
      rw [incr_odd nl pr h]
      have e1 : (2 * m + 1) * 2 ^ k = 2 * m * 2 ^ k + 2 ^ k := by rw [Nat.add_mul, Nat.one_mul]
      rw [e1] at ht
      have hs : ts = ts.take (2 * m * 2 ^ k) ++ ts.drop (2 * m * 2 ^ k) := (List.take_append_drop _ _).symm
      generalize hA : ts.take (2 * m * 2 ^ k) = as at hs
      generalize hB : ts.drop (2 * m * 2 ^ k) = vs at hs
      have la : as.length = 2 * m * 2 ^ k := by rw [← hA, List.length_take]; omega
      have lv : vs.length = 2 ^ k := by rw [← hB, List.length_drop]; omega
      subst hs
      rw [strT_snoc nl pr lv _ as rfl ⟨m, la⟩, List.dropLast_concat, List.getLastD_concat, ← topT_pow nl pr lv hu, List.append_assoc]
      rw [show (2 * m + 1) / 2 = m by omega]
      refine ih m (by omega) (k + 1) as (vs ++ us) ?_ ?_
      · rw [la, Nat.pow_succ, Nat.mul_comm 2 m, Nat.mul_assoc, Nat.mul_comm (2 ^ k) 2]
      · rw [List.length_append, lv, hu, Nat.pow_succ]; omega
    · rw [incr_even nl pr h]
      obtain ⟨m, rfl⟩ : ∃ m, n = 2 * m := ⟨n / 2, by omega⟩
      exact (strT_snoc nl pr hu _ ts rfl ⟨m, ht⟩).symm
theorem str_odd {n k : Nat} {ts : List α} (h : n % 2 = 1) (ht : ts.length = n * 2 ^ k) : ∃ as vs, ts = as ++ vs ∧ vs.length = 2 ^ k ∧ as.length = n / 2 * 2 ^ (k + 1) ∧ strT nl pr ts = strT nl pr as ++ [topT nl pr vs] := by
  obtain ⟨m, rfl⟩ : ∃ m, n = 2 * m + 1 := ⟨n / 2, by omega⟩
  have hm2 : (2 * m + 1) / 2 = m := by omega
  have hp1 : 1 ≤ 2 ^ k := Nat.one_le_two_pow
  have e1 : (2 * m + 1) * 2 ^ k = 2 * m * 2 ^ k + 2 ^ k := by rw [Nat.add_mul, Nat.one_mul]
  rw [e1] at ht
  have hs : ts = ts.take (2 * m * 2 ^ k) ++ ts.drop (2 * m * 2 ^ k) := (List.take_append_drop _ _).symm
  generalize hA : ts.take (2 * m * 2 ^ k) = as at hs
  generalize hB : ts.drop (2 * m * 2 ^ k) = vs at hs
  have la : as.length = 2 * m * 2 ^ k := by rw [← hA, List.length_take]; omega
  have lv : vs.length = 2 ^ k := by rw [← hB, List.length_drop]; omega
  refine ⟨as, vs, hs, lv, ?_, ?_⟩
  · rw [la, hm2, Nat.pow_succ, Nat.mul_comm 2 m, Nat.mul_assoc, Nat.mul_comm (2 ^ k) 2]
  · rw [hs]; exact strT_snoc nl pr lv _ as rfl ⟨m, la⟩
theorem str_even {n k : Nat} {ts us : List α} (h : ¬ n % 2 = 1) (ht : ts.length = n * 2 ^ k) (hu : us.length = 2 ^ k) : strT nl pr (ts ++ us) = strT nl pr ts ++ [topT nl pr us] := by
  obtain ⟨m, rfl⟩ : ∃ m, n = 2 * m := ⟨n / 2, by omega⟩
  exact strT_snoc nl pr hu _ ts rfl ⟨m, ht⟩
theorem incr_one (ts : List α) (t : α) : incr nl pr ts.length (strT nl pr ts) t = strT nl pr (ts ++ [t]) := by
  have := incr_str nl pr ts.length 0 ts [t] (by simp) rfl
  rwa [topT_one] at this
/-- as many stretches as ones in the count -/
theorem str_last {n k : Nat} {ts : List α} (hn : n % 2 = 1) (ht : ts.length = n * 2 ^ k) : strT nl pr ts ≠ [] := by
  have hp1 : 1 ≤ 2 ^ k := Nat.one_le_two_pow
  have : 1 * 1 ≤ n * 2 ^ k := Nat.mul_le_mul (by omega) hp1
  rw [strT_more nl pr (by omega)]; simp
/-- the whole from the stretches -/
def fr : List α → α
  | [] => nl
  | [x] => x
  | x :: y :: r => pr x (fr (y :: r))
theorem strT_ne {ts : List α} (h : 1 ≤ ts.length) : strT nl pr ts ≠ [] := by rw [strT_more nl pr h]; simp
theorem fr_cons (x : α) {l : List α} (h : l ≠ []) : fr nl pr (x :: l) = pr x (fr nl pr l) := by
  cases l with
  | nil => exact absurd rfl h
  | cons y r => rfl
theorem fr_str : ∀ (n : Nat) (ts : List α), ts.length = n → fr nl pr (strT nl pr ts) = topT nl pr ts := by
  intro n
  induction n using Nat.strongRecOn with
  | ind n ih =>
    intro ts hn
    by_cases h0 : ts.length = 0
    · have e := List.eq_nil_of_length_eq_zero h0
      subst e
      rw [strT_nil, topT_nil]; rfl
    · have a1 := hp_le (n := ts.length) (by omega)
      have a2 := hp_gt ts.length
      have a3 := hp_pos ts.length
      by_cases he : hp ts.length = ts.length
      · rw [strT_full nl pr (k := Nat.log2 ts.length) he.symm]; rfl
      · have e : hp ts.length = spl ts.length := spl_unique (j := Nat.log2 ts.length) (show hp ts.length < ts.length by omega) (show ts.length ≤ 2 * hp ts.length by omega)
        rw [strT_more nl pr (by omega), fr_cons nl pr _ (strT_ne nl pr (by rw [List.length_drop]; omega)), ih _ (by rw [List.length_drop]; omega) (ts.drop (hp ts.length)) rfl, topT_more nl pr (ts := ts) (by omega), ← e]
theorem strT_len : ∀ (n : Nat) (ts : List α), ts.length ≤ n → (strT nl pr ts).length ≤ n
  | n, ts, h => by
    by_cases h0 : ts.length = 0
    · have e := List.eq_nil_of_length_eq_zero h0
      subst e
      rw [strT_nil]; simp
    · cases n with
      | zero => omega
      | succ n =>
        have a3 := hp_pos ts.length
        rw [strT_more nl pr (by omega)]
        have := strT_len n (ts.drop (hp ts.length)) (by rw [List.length_drop]; omega)
        simp; exact this
end
end Gb

set_option Elab.async false
set_option linter.all false
set_option maxRecDepth 100000
namespace L2
open PySem PySem.Spec PyProof.Rows
/-! ### A. what a name holds is called -/
/-- a promise of whatever may stand at an address -/
def CallOk (P : Program) (w : World) (K : PySem.W.Frag) (mg : Str → Option Value) (base : Heap) (CX : CXT) (k : Nat) (sp : Addr → Sp) : Prop :=
  ∀ (f : Addr) (A : Around) (outer : List Env) (s : Shared) (H : Hp) (us : List Value) (vs : List V) (Q : VK) (E : XK), Room k A → Env0 P w K mg base A outer s H → Vals vs us → sp f vs H Q E →
    codeAny (model P w) A (.call (.ref f) ⟨us, []⟩) (CR CX outer P w H s Q E) s
theorem CallOk.mono {P : Program} {w : World} {K : PySem.W.Frag} {mg : Str → Option Value} {base : Heap} {CX : CXT} {j k : Nat} {sp : Addr → Sp} (F : CallOk P w K mg base CX j sp) (h : j ≤ k) : CallOk P w K mg base CX k sp :=
  fun f A outer s H us vs Q E hr => F f A outer s H us vs Q E (hr.mono h)
theorem FnOk.called {P : Program} {w : World} {K : PySem.W.Frag} {mg : Str → Option Value} {base : Heap} {CX : CXT} {k : Nat} {f : Addr} {fd : FuncData} {ps : List Str} {sp : Sp} (F : FnOk P w K mg base CX k f fd ps sp) (hb : Binds K fd ps [])
    {A : Around} {outer : List Env} {s : Shared} {H : Hp} {us : List Value} {vs : List V} {Q : VK} {E : XK} (hr : Room k A) (e0 : Env0 P w K mg base A outer s H) (r : Vals vs us) (h : sp vs H Q E) :
    codeAny (model P w) A (.call (.ref f) ⟨us, []⟩) (CR CX outer P w H s Q E) s := by
  have KX : K.In s.heap := e0.mod.kin.keeps fun b o e => (e0.bs b o e).1
  have hl : (us ++ []).length = ps.length := by rw [List.append_nil, ← r.length]; exact F.len _ _ _ _ h
  have b := hb s us KX hl
  rw [List.append_nil] at b
  exact F.run A outer s H ⟨us, []⟩ us vs Q E hr e0 b r h
/-- a function object that stands in the text, or one that is kept -/
def Fny (K : PySem.W.Frag) (H : Hp) (f : Addr) : Prop :=
  (∃ oc od fd sl, K.lookup f = some ⟨oc, od, .func fd, sl⟩) ∨ ∃ oc od fd sl u, H f = some (.frz ⟨oc, od, .func fd, sl⟩ u)
section
variable {X : Cx} {CX : CXT} {k : Nat} {f : Addr} {sp : Addr → Sp} {E : XK} {x : Str} {p pos : Pos} {e : Expr} {es : List Expr} {t : TA} {i : Nat}
theorem Inv.fnAt {pins : List (Addr × Obj)} {σ : St} {H : Hp} {s : Shared} (I : Inv X pins σ H s) (h : Fny X.K H f) : PySem.W.FnAt f s.heap := by
  rcases h with ⟨oc, od, fd, sl, e⟩ | ⟨oc, od, fd, sl, u, e⟩
  · exact ⟨oc, od, fd, sl, I.kIn _ _ e⟩
  · exact ⟨oc, od, fd, sl, (I.hok _ _ e).1⟩
theorem run_fnV {pins : List (Addr × Obj)} {σ : St} {H : Hp} {s : Shared} {Q : VK} {us : List Value} {vs : List V} (F : CallOk X.prog X.w X.K X.mg X.base CX k sp) (hr : Room k X.A) (hx : Passes CX X E)
    (I : Inv X pins σ H s) (r : Vals vs us) (h : sp f vs H Q E) : wpAny (model X.prog X.w) X.A (call (.ref f) us) (EP X pins σ Q) X.xe s := by
  refine wpAny_call (codeAny_mono (F f X.A X.stack s H us vs Q E hr I.env0 r h) fun r s' hq => ?_)
  cases r with
  | error e => exact hx pins σ H s e s' I hq
  | ok fl =>
    cases fl with
    | ret u => exact I.after hq
    | next => exact False.elim hq
    | brk => exact False.elim hq
    | cont => exact False.elim hq
def tCallV (K : PySem.W.Frag) (i : Nat) (sp : Addr → Sp) (E : XK) (t : TA) : TE := fun σ H Q => ∃ f, σ[i]? = some (some (.ref f)) ∧ Fny K H f ∧ t σ H fun vs H1 => Fny K H1 f ∧ sp f vs H1 Q E
theorem pe_callV (F : CallOk X.prog X.w X.K X.mg X.base CX k sp) (hr : Room k X.A) (hx : Passes CX X E) (hN : X.N[i]? = some x) (hv : Vis X.env.scope x) (ha : PA X (e :: es) t)
    (hdb : (x == ("__debug__" : Str)) = false := by decide) (hcd : (x == ("__classdict__" : Str)) = false := by decide)
    (he : starEach (e :: es) X.env = (false, eval e X.env) :: starEach es X.env := by rfl) (hpl : (backTo pos (starEach es X.env)).any (·.1) = false := by rfl) :
    PE X (.Call (.Name x p) (e :: es) [] pos) (tCallV X.K i sp E t) := by
  intro pins s σ H Q I h
  obtain ⟨f, ef, hf, h⟩ := h
  refine wpAny_Call_Name_kw (thn (pe_var (i := i) hN hv hdb hcd pins s σ H (fun v H' => v = .ref f ∧ H' = H) I ⟨_, ef, rfl, rfl⟩) fun u s1 ⟨v, H1, I1, r1, e1, e2⟩ => ?_)
  subst e1 e2
  obtain rfl : u = Value.ref f := r1
  refine PySem.W.callWith_F (first := []) (I1.fnAt hf) (thn (ha pos pins s1 σ H1 _ I1 h) fun us s2 ⟨vs, H2, I2, r, hf2, q⟩ => ⟨I2.fnAt hf2, ?_⟩) he hpl
  exact run_fnV F hr hx I2 r q
end

/-! ### B. small rules -/
section
variable {X : Cx}
theorem mt_bitlen : MtR X "int.bit_length" (fun x vs H Q => ∃ i, x = .int i ∧ vs = [] ∧ Q (.int (Builtin.Int.intBits i : Nat)) H) := by
  intro pins s σ H x vs v us Q I rx rv h
  obtain ⟨i, rfl, rfl, q⟩ := h
  obtain ⟨t, rfl⟩ := rx
  cases rv.zero
  exact call_int_bit_length ⟨.int _, H, I.tok _, ⟨_, rfl⟩, q⟩
/-- isinstance(x, T), T a built-in type -/
theorem call_isinst : CallR X (.builtin "isinstance") (fun xs H Q => ∃ x t c b, xs = [x, .ty c] ∧ TyOf X.K H x t ∧ PySem.W.kitOne X.K t (.type c) = some b ∧ Q (.bl b) H) := by
  intro pins s σ H xs us Q I r h
  obtain ⟨x, t, c, b, rfl, ty, e, q⟩ := h
  obtain ⟨u, w', rfl, rx, rc⟩ := vals2 r
  obtain rfl : w' = Value.type c := rc
  exact isinst_ok I rx ty e fun tk => ⟨.bl b, H, I.tok tk, rfl, q⟩
/-- list + list, the left one the script (or any whose object is known) -/
def Scr (K : PySem.W.Frag) (H : Hp) (a : Addr) (xs : List V) : Prop :=
  ∃ (its : List Value) (n : Nat), Vals xs its ∧ xs.length ≤ sizeLine ∧ ((∃ u, H a = some (.frz { cls := .type "list", data := .seq its.toArray n } u)) ∨ K.lookup a = some { cls := .type "list", data := .seq its.toArray n })
theorem op_catS : OpR X (binaryOp .Add) (fun x y H Q => ∃ l b xs zs, x = .ref l ∧ y = .ref b ∧ Scr X.K H l xs ∧ H b = some (.lst zs) ∧ xs.length + zs.length ≤ sizeLine ∧ ∀ p, H p = none → Q (.ref p) (upd H p (.lst (xs ++ zs)))) := by
  intro pins s σ H x y v u Q I rx ry h
  obtain ⟨l, b, xs, zs, rfl, rfl, ⟨its, n, r, hz0, hS⟩, hB, hz, q⟩ := h
  cases rx
  cases ry
  have e : s.heap.get? l = some { cls := .type "list", data := .seq its.toArray n } := by
    rcases hS with ⟨u, hS⟩ | hS
    · exact (I.hok _ _ hS).1
    · exact I.kIn _ _ hS
  have hl := r.length
  obtain ⟨z2, its2, n2, r2, hl2, e2⟩ := I.lstM hB
  refine PySem.P.add_list e e2 ?_ (by rw [List.size_toArray, List.size_toArray]; omega)
  have ea : its.toArray ++ its2.toArray = (its ++ its2).toArray := by simp
  rw [ea]
  exact ⟨.ref _, _, I.lnew (t' := s.toks) (r.append r2) (by rw [List.length_append]; omega), rfl, q _ I.fresh⟩
/-- list(range(n)) -/
def tRng1 (ta : TA) : TE := fun σ H Q => ta σ H fun vs H1 => ∃ j : Int, vs = [.int j] ∧ 0 ≤ j ∧ j ≤ 1000000 ∧ ∀ p, H1 p = none → Q (.ref p) (upd H1 p (.rng 0 j))
theorem call_range_new : CallR X (.type "range") (fun xs H Q => ∃ j : Int, xs = [.int j] ∧ ∀ p, H p = none → Q (.ref p) (upd H p (.rng 0 j))) := by
  intro pins s σ H xs us Q I r h
  obtain ⟨j, rfl, q⟩ := h
  obtain ⟨u, rfl, rx⟩ := vals1 r
  obtain ⟨t, rfl⟩ := rx
  exact call_range_1 ⟨.ref s.heap.objs.size, _, I.laid (fun _ _ q => Heap.get?_push_of_some _ q) (Nat.le_refl _) (show ObjOk X.prog X.w _ _ _ (.rng 0 j) from ⟨_, _, _, Heap.get?_push_size _ rfl⟩), rfl, q _ (I.hok.fresh (Nat.le_refl _))⟩
theorem call_list_rng (hc : X.calm = true) : CallR X (.type "list") (fun xs H Q => ∃ (p : Addr) (j : Int), xs = [.ref p] ∧ H p = some (.rng 0 j) ∧ 0 ≤ j ∧ j ≤ 1000000 ∧
    ∀ l, H l = none → Q (.ref l) (upd H l (.lst ((List.range j.toNat).map fun i => .int (i : Nat))))) := by
  intro pins s σ H xs us Q I r h
  obtain ⟨p, j, rfl, hp, h0, h1, q⟩ := h
  obtain ⟨u, rfl, rx⟩ := vals1 r
  cases rx
  obtain ⟨t1, t2, t3, e⟩ := I.hok _ _ hp
  refine call_list_range (n := j.toNat) (I.ok.hd hc) (a := 0) (b := j) (c := 1) (t := t1) (u := t2) (v := t3) e (small_one (by omega) (by omega) (by omega) (by omega)) (by rw [rangeSize_one]; split <;> omega) (by omega) fun h' tk acc' c' hk e' hit => ?_
  have hv : Vals ((List.range j.toNat).map fun i => V.int (i : Nat)) acc'.toList := by
    obtain ⟨hs, hi⟩ := hit
    have go : ∀ (l : List Value) (i0 : Nat), (∀ (i : Nat) v, l[i]? = some v → ∃ t, v = Value.int ((i0 + i : Nat) : Int) t) → Vals ((List.range' i0 l.length).map fun i => V.int (i : Nat)) l := by
      intro l
      induction l with
      | nil => intro _ _; exact .nil
      | cons v r ih =>
        intro i0 hv
        rw [List.length_cons, List.range'_succ, List.map_cons]
        refine .cons ?_ (ih (i0 + 1) fun i u e2 => ?_)
        · obtain ⟨t, e3⟩ := hv 0 v rfl
          exact ⟨t, by rw [e3]; rfl⟩
        · obtain ⟨t, e3⟩ := hv (i + 1) u (by simpa using e2)
          exact ⟨t, by rw [e3, show i0 + (i + 1) = i0 + 1 + i by omega]⟩
    have z := go acc'.toList 0 fun i v e2 => by
      have := hi i v (by rw [← Array.getElem?_toList]; exact e2)
      simpa using this
    rw [Array.length_toList, hs, ← List.range_eq_range'] at z
    exact z
  have e'' : h'.get? s.heap.objs.size = some { cls := .type "list", data := .seq acc'.toList.toArray c' } := by simpa using e'
  exact ⟨.ref s.heap.objs.size, _, I.laid (t' := tk) hk (Nat.le_refl _) (show ObjOk X.prog X.w _ h' _ (.lst _) from ⟨by simp; rw [sizeLine_eq]; omega, acc'.toList, c', hv, e''⟩), rfl, q _ (I.hok.fresh (Nat.le_refl _))⟩
end
end L2

set_option Elab.async false
set_option linter.all false
set_option maxRecDepth 100000
namespace L2
open PySem PySem.Spec PyProof.Rows
/-! ### C. == of trees -/
def EqV (H : Hp) : Nat → V → V → Prop
  | 0, x, y => x = y ∧ flatV x = true
  | n + 1, x, y => (x = y ∧ flatV x = true) ∨ ∃ a b xs ys, x = .ref a ∧ y = .ref b ∧ H a = some (.tup xs) ∧ H b = some (.tup ys) ∧ xs.length = ys.length ∧ ∀ (i : Nat) u v, xs[i]? = some u → ys[i]? = some v → EqV H n u v
theorem EqV.flat {H : Hp} {x : V} (h : flatV x = true) : ∀ n, EqV H n x x
  | 0 => ⟨rfl, h⟩
  | _ + 1 => .inl ⟨rfl, h⟩
theorem EqV.up {H : Hp} : ∀ {n m : Nat} {x y : V}, n ≤ m → EqV H n x y → EqV H m x y
  | 0, m, x, y, _, h => by obtain ⟨rfl, f⟩ := h; exact EqV.flat f m
  | n + 1, 0, _, _, h, _ => by omega
  | n + 1, m + 1, x, y, h, q => by
    rcases q with q | ⟨a, b, xs, ys, e1, e2, e3, e4, e5, e6⟩
    · exact .inl q
    · exact .inr ⟨a, b, xs, ys, e1, e2, e3, e4, e5, fun i u v h1 h2 => EqV.up (Nat.le_of_succ_le_succ h) (e6 i u v h1 h2)⟩
theorem eqV_self {x : V} (h : flatV x = true) : eqV x x = true := by
  cases x <;> first | rfl | exact beq_self_eq_true _ | cases h
theorem all_true (n : Nat) : (List.range n).all (fun _ => true) = true := by simp
theorem Vals.at {xs : List V} {its : List Value} (r : Vals xs its) {j : Nat} (h : j < its.toArray.size) : ∃ x, xs[j]? = some x ∧ RelV x its.toArray[j] := by
  have hl := r.length
  have hj : j < xs.length := by simp at h; omega
  obtain ⟨u, hu, ru⟩ := r.get (i := j) (x := xs[j]) (by simp [hj])
  refine ⟨xs[j], by simp [hj], ?_⟩
  have : its.toArray[j] = u := by
    have h2 : j < its.length := by simpa using h
    rw [List.getElem_toArray]
    rw [List.getElem?_eq_getElem h2] at hu
    exact Option.some.inj hu
  rw [this]; exact ru
theorem eqAt_of {P : Program} {w : World} {H : Hp} {s : Shared} (ok : HOk P w H s.heap) : ∀ (n : Nat) (x y : V) (u v : Value) (A : Around), EqV H n x y → RelV x u → RelV y v → A.units + n < cLine → SeqAt.EqAt A s u v true
  | 0, x, y, u, v, A, h, rx, ry, _ => by
    obtain ⟨rfl, f⟩ := h
    have := eqAt_V (A := A) (s := s) rx ry f f
    rw [eqV_self f] at this
    exact this
  | n + 1, x, y, u, v, A, h, rx, ry, hu => by
    rcases h with ⟨rfl, f⟩ | ⟨a, b, xs, ys, rfl, rfl, ha, hb, hl, hi⟩
    · have := eqAt_V (A := A) (s := s) rx ry f f
      rw [eqV_self f] at this
      exact this
    · obtain rfl : u = Value.ref a := rx
      obtain rfl : v = Value.ref b := ry
      by_cases e : a = b
      · subst e; exact SeqAt.EqAt.same _
      obtain ⟨za, its, r, pa⟩ := ok _ _ ha
      obtain ⟨zb, its2, r2, pb⟩ := ok _ _ hb
      have q := SeqAt.RcAt.tuples (A := A) (s := s) (e := fun _ => true) (show s.heap.IsTuple a its.toArray from pa) (show s.heap.IsTuple b its2.toArray from pb) (by omega) fun j h1 h2 => by
        obtain ⟨x1, e1, q1⟩ := r.at h1
        obtain ⟨y1, e2, q2⟩ := r2.at h2
        exact eqAt_of ok n x1 y1 _ _ A.in1 (hi j x1 y1 e1 e2) q1 q2 (by show A.units + 1 + n < cLine; omega)
      have e3 : ((List.range (min its.toArray.size its2.toArray.size)).all (fun _ => true) && its.toArray.size == its2.toArray.size) = true := by
        have h1 := r.length; have h2 := r2.length
        rw [all_true, Bool.true_and]
        simp; omega
      rw [e3] at q
      exact SeqAt.EqAt.of_refs e q
section
variable {X : Cx}
/-- t != u, t == u of two like trees -/
theorem op_neT : OpR X (compareOp .NotEq) (fun x y H Q => ∃ n, EqV H n x y ∧ X.A.units + n + 1 < cLine ∧ Q (.bl false) H) := by
  intro pins s σ H x y v u Q I rx ry h
  obtain ⟨n, h, hu, q⟩ := h
  have flat : ∀ {x : V} {v u : Value}, flatV x = true → RelV x v → RelV x u → Q (.bl false) H → wpAny (model X.prog X.w) X.A (compareOp .NotEq v u) (EP X pins σ Q) X.xe s := fun {x v u} f rx ry q => by
    refine op_ne pins s σ H x x v u Q I rx ry ⟨?_, ?_⟩
    · cases x <;> first | rfl | cases f
    · rw [decide_eq_true (rfl : x = x)]; exact q
  cases n with
  | zero => obtain ⟨rfl, f⟩ := h; exact flat f rx ry q
  | succ n =>
    rcases h with ⟨rfl, f⟩ | ⟨a, b, xs, ys, rfl, rfl, ha, hb, hl, hi⟩
    · exact flat f rx ry q
    obtain rfl : v = Value.ref a := rx
    obtain rfl : u = Value.ref b := ry
    obtain ⟨za, its, r, pa⟩ := I.hok _ _ ha
    obtain ⟨zb, its2, r2, pb⟩ := I.hok _ _ hb
    have q2 := SeqAt.RcNeAt.tuples (A := X.A) (s := s) (e := fun _ => true) (show s.heap.IsTuple a its.toArray from pa) (show s.heap.IsTuple b its2.toArray from pb) (by omega) fun j h1 h2 => by
      obtain ⟨x1, e1, q1⟩ := r.at h1
      obtain ⟨y1, e2, q2⟩ := r2.at h2
      exact eqAt_of I.hok n x1 y1 _ _ X.A.in1 (hi j x1 y1 e1 e2) q1 q2 (by show X.A.units + 1 + n < cLine; omega)
    have e3 : (!((List.range (min its.toArray.size its2.toArray.size)).all (fun _ => true) && its.toArray.size == its2.toArray.size)) = false := by
      have h1 := r.length; have h2 := r2.length
      rw [all_true, Bool.true_and]
      simp; omega
    rw [e3] at q2
    exact q2 X.prog X.w X.xe _ ⟨.bl false, H, I, rfl, q⟩
theorem op_eqT : OpR X (compareOp .Eq) (fun x y H Q => ∃ n, EqV H n x y ∧ X.A.units + n + 1 < cLine ∧ Q (.bl true) H) := by
  intro pins s σ H x y v u Q I rx ry h
  obtain ⟨n, h, hu, q⟩ := h
  have flat : ∀ {x : V} {v u : Value}, flatV x = true → RelV x v → RelV x u → Q (.bl true) H → wpAny (model X.prog X.w) X.A (compareOp .Eq v u) (EP X pins σ Q) X.xe s := fun {x v u} f rx ry q => by
    refine op_eq pins s σ H x x v u Q I rx ry ⟨?_, ?_⟩
    · cases x <;> first | rfl | cases f
    · rw [decide_eq_true (rfl : x = x)]; exact q
  cases n with
  | zero => obtain ⟨rfl, f⟩ := h; exact flat f rx ry q
  | succ n =>
    rcases h with ⟨rfl, f⟩ | ⟨a, b, xs, ys, rfl, rfl, ha, hb, hl, hi⟩
    · exact flat f rx ry q
    obtain rfl : v = Value.ref a := rx
    obtain rfl : u = Value.ref b := ry
    obtain ⟨za, its, r, pa⟩ := I.hok _ _ ha
    obtain ⟨zb, its2, r2, pb⟩ := I.hok _ _ hb
    have q2 := SeqAt.RcAt.tuples (A := X.A) (s := s) (e := fun _ => true) (show s.heap.IsTuple a its.toArray from pa) (show s.heap.IsTuple b its2.toArray from pb) (by omega) fun j h1 h2 => by
      obtain ⟨x1, e1, q1⟩ := r.at h1
      obtain ⟨y1, e2, q2⟩ := r2.at h2
      exact eqAt_of I.hok n x1 y1 _ _ X.A.in1 (hi j x1 y1 e1 e2) q1 q2 (by show X.A.units + 1 + n < cLine; omega)
    have e3 : ((List.range (min its.toArray.size its2.toArray.size)).all (fun _ => true) && its.toArray.size == its2.toArray.size) = true := by
      have h1 := r.length; have h2 := r2.length
      rw [all_true, Bool.true_and]
      simp; omega
    rw [e3] at q2
    exact q2 X.prog X.w X.xe _ ⟨.bl true, H, I, rfl, q⟩
/-- two lists of like trees -/
def rEqL (K : PySem.W.Frag) (un : Nat) (b : Bool) : R2 := fun x y H Q => ∃ p q xs ys n, x = .ref p ∧ y = .ref q ∧ SqL K H p xs ∧ SqL K H q ys ∧ xs.length = ys.length ∧ (∀ (i : Nat) u v, xs[i]? = some u → ys[i]? = some v → EqV H n u v) ∧ un + n + 1 < cLine ∧ Q (.bl b) H
theorem op_eqLL : OpR X (compareOp .Eq) (rEqL X.K X.A.units true) := by
  intro pins s σ H x y v u Q I rx ry h
  obtain ⟨a, b, xs, ys, n, rfl, rfl, ha, hb, hl, hi, hu, q⟩ := h
  obtain rfl : v = Value.ref a := rx
  obtain rfl : u = Value.ref b := ry
  obtain ⟨its, r, pa, za⟩ := I.list ha
  obtain ⟨its2, r2, pb, zb⟩ := I.list hb
  have h1 := r.length; have h2 := r2.length
  have q2 := SeqAt.RcAt.lists (A := X.A) (s := s) (e := fun _ => true) pa.isList pb.isList (by simp; omega) (by omega) fun j h1 h2 => by
    obtain ⟨x1, e1, q1⟩ := r.at h1
    obtain ⟨y1, e2, q2⟩ := r2.at h2
    exact eqAt_of I.hok n x1 y1 _ _ X.A.in1 (hi j x1 y1 e1 e2) q1 q2 (by show X.A.units + 1 + n < cLine; omega)
  rw [all_true] at q2
  exact q2 X.prog X.w X.xe _ ⟨.bl true, H, I, rfl, q⟩
theorem op_neLL : OpR X (compareOp .NotEq) (rEqL X.K X.A.units false) := by
  intro pins s σ H x y v u Q I rx ry h
  obtain ⟨a, b, xs, ys, n, rfl, rfl, ha, hb, hl, hi, hu, q⟩ := h
  obtain rfl : v = Value.ref a := rx
  obtain rfl : u = Value.ref b := ry
  obtain ⟨its, r, pa, za⟩ := I.list ha
  obtain ⟨its2, r2, pb, zb⟩ := I.list hb
  have h1 := r.length; have h2 := r2.length
  have q2 := SeqAt.RcNeAt.lists (A := X.A) (s := s) (e := fun _ => true) pa.isList pb.isList (by simp; omega) (by omega) fun j h1 h2 => by
    obtain ⟨x1, e1, q1⟩ := r.at h1
    obtain ⟨y1, e2, q2⟩ := r2.at h2
    exact eqAt_of I.hok n x1 y1 _ _ X.A.in1 (hi j x1 y1 e1 e2) q1 q2 (by show X.A.units + 1 + n < cLine; omega)
  rw [all_true] at q2
  exact q2 X.prog X.w X.xe _ ⟨.bl false, H, I, rfl, q⟩
end

/-! ### D. a dict whose keys are tuples: its length -/
theorem meets_lenH {prog : Program} {w : World} {d : Addr} (hd : (d == sysModules) = false) :
    MeetsIn prog w (Builtin.«dict.__len__» ⟨[.ref d], []⟩) (fun _ R s => ∃ o es ep, s.heap.get? d = some o ∧ o.data = .dict es ep ∧ R (.ok (.ret (.int es.size s.toks))) { s with toks := s.toks + 1 }) :=
  .of_wp fun A R s ⟨o, es, ep, ho, hdat, h⟩ => by
    show wpAny _ _ (dictSize d >>= _) _ _ s
    unfold dictSize
    refine wpAny_bind (wpAny_bind (wpAny_dictEntries ho hdat (wpAny_pure ?_)))
    show wpAny _ _ (Builtin.Dict.pendingCount d >>= _) _ _ s
    refine wpAny_bind (wpAny_pendingCount_other hd ?_)
    refine wpAny_ret_mkInt ?_
    rw [Nat.add_zero]; exact h
theorem wpAny_len_dictH {prog : Program} {w : World} {A : Around} {E : Value → Shared → Prop} {s : Shared} {d : Addr} {o : Obj} {es : Array DictEntry} {ep : Nat} {Q : Value → Shared → Prop} (hd : (d == sysModules) = false) (ho : s.heap.get? d = some o)
    (hx : o.ExactDict) (hdt : o.data = .dict es ep) (hfit : (es.size : Int) < 2 ^ 63) (h : Q (.int es.size (s.toks + 1)) { s with toks := s.toks + 1 + 1 }) : wpAny (model prog w) A (call (.builtin "len") [.ref d]) Q E s := by
  refine Calls.call_function_entry kind_len plain_len entry_len (args_len1 _) ?_
  unfold Builtin.«len»
  have ty : s.TypeIs (.ref d) "dict" := ⟨o, ho, hx.1⟩
  refine wpAny_bind (m := oneArg "len" _) (wpAny_pure ?_)
  refine wpAny_bind (m := callSpecial? (.ref d) (Str.ofString "__len__")) (wpAny_callSpecial?_slot (name := Str.ofString "__len__") ty F.slot_dict_len
    (call_meetsIn F.slot_dict_len ty F.entry_dict_len (F.args_dict_len_1 _) (meets_lenH hd) ⟨o, es, ep, ho, hdt, ?_⟩))
  show wpAny _ _ _ _ _ { s with toks := s.toks + 1 }
  refine wpAny_bind (wpAny_holding (wpAny_pure ?_))
  refine wpAny_bind (wpAny_letGo ?_)
  show wpAny _ _ (if ((es.size : Nat) : Int) < 0 then _ else _) _ _ _
  rw [if_neg (by omega)]
  show wpAny _ _ (if ((es.size : Nat) : Int) ≥ 2 ^ 63 then _ else _) _ _ _
  rw [if_neg (by omega)]
  exact wpAny_bind (wpAny_mkInt (wpAny_pure ⟨_, rfl, h⟩))
theorem call_lenT {X : Cx} : CallR X (.builtin "len") (fun xs H Q => ∃ a kvs, xs = [V.ref a] ∧ H a = some (.dT kvs) ∧ Q (.int kvs.length) H) := by
  intro pins s σ H xs us Q I r h
  obtain ⟨a, kvs, rfl, ha, q⟩ := h
  obtain ⟨u, rfl, ru⟩ := vals1 r
  cases ru
  obtain ⟨z, hd, ys, rel, o, es, ep, ho, hx, hdt, hes, hnd⟩ := I.hok _ _ ha
  have e : es.size = kvs.length := by
    have h1 := congrArg List.length hes
    have h2 := Paired.length rel
    simp at h1; omega
  refine wpAny_len_dictH hd ho hx hdt (by rw [sizeLine_eq] at z; omega) ?_
  rw [e]
  exact ⟨.int kvs.length, H, I.tok _, ⟨_, rfl⟩, q⟩
end L2

set_option Elab.async false
set_option linter.all false
set_option maxRecDepth 100000
namespace L2
open PySem PySem.Spec PyProof.Rows
/-! ### E. a function that was made while the law runs, with one captured name -/
section
variable {P : Program} {w : World} {K : PySem.W.Frag} {mg : Str → Option Value} {base : Heap}
/-- the context of its body -/
def cxCl (P : Program) (w : World) (K : PySem.W.Frag) (mg : Str → Option Value) (base : Heap) (N : List Str) (qual : Str) (scope : Scope) (f : Addr) (cd : Value) (cl : List (Str × Addr)) (A : Around) (outer : List Env) (s : Shared) (H : Hp) : Cx where
  prog := P
  w := w
  K := K
  mg := mg
  base := base
  A := A.deeper (PySem.W.envX qual scope s.heap.objs.size f cd cl)
  N := N
  s₀ := s
  H₀ := H
  env := PySem.W.envX qual scope s.heap.objs.size f cd cl
  outer := outer
  stack := PySem.W.envX qual scope s.heap.objs.size f cd cl :: outer
  ex := []
  calm := true
  fn := fun _ => false
  pn := []
  xe := fun _ _ => False
structure ClScope (ps : List Str) (y : Str) (sc : Scope) : Prop where
  kind : sc.kind = .function
  co : sc.isCoroutine = false
  gen : sc.isGenerator = false
  nd : (ps ++ [y]).Nodup
  par : ∀ x ∈ ps, sc.names.lookup x = some .local
  nocell : ∀ z ∈ sc.names, z.2 ≠ .cell
  free : ∀ x, sc.names.lookup x = some .free → x = y
  isfree : sc.names.lookup y = some .free
theorem lookup_rev_zip {ps : List Str} (hn : ps.Nodup) : ∀ {us : List Value} {i : Nat} {x : Str} {u : Value}, ps[i]? = some x → us[i]? = some u → ps.length = us.length → (ps.zip us).reverse.lookup x = some u := by
  intro us i x u h1 h2 hl
  have key : ∀ (l : List (Str × Value)), (l.map (·.1)).Nodup → (x, u) ∈ l → l.lookup x = some u := by
    intro l
    induction l with
    | nil => intro _ h; cases h
    | cons p r ih =>
      intro hn hm
      obtain ⟨a, b⟩ := p
      have hn' := List.nodup_cons.mp hn
      rw [List.lookup_cons]
      rcases List.mem_cons.mp hm with e | hm2
      · cases e; simp
      · have hne : (x == a) = false := by
          rw [beq_eq_false_iff_ne]
          intro e
          exact hn'.1 (List.mem_map.mpr ⟨(x, u), hm2, e⟩)
        rw [hne]
        exact ih hn'.2 hm2
  refine key _ ?_ ?_
  · rw [List.map_reverse]
    have e : (ps.zip us).map (·.1) = ps := by rw [List.map_fst_zip (by omega)]
    rw [e]
    exact List.pairwise_reverse.mpr (hn.imp Ne.symm)
  · refine List.mem_reverse.mpr (List.mem_of_getElem? (i := i) ?_)
    rw [List.getElem?_zip_eq_some]
    exact ⟨h1, h2⟩
theorem clos_run {k : Nat} {f c c' : Addr} {name qual y : Str} {params : Arguments} {body : List Stmt} {scope : Scope} {doc pm ct oc : Value} {od : Option Addr} {osl : Array (Option Value)} {ps : List Str} {ob co : Obj} {cvs : Array Value} {ctk : Tok} {cu : Value} {cv : V}
    {A : Around} {outer : List Env} {s : Shared} {H : Hp} {us : List Value} {vs : List V} {Q : VK} {E : XK}
    (S : ClScope ps y scope) (hr : Room (k + 1) A) (e0 : Env0 P w K mg base A outer s H) (r : Vals vs us) (hl : vs.length = ps.length)
    (hf : H f = some (.frz ⟨oc, od, .func (PySem.W.fnX name qual params body scope [(y, c)] .none .none doc pm none (.ref c') ct), osl⟩ (.own 0)))
    (hc' : H c' = some (.frz ob (.own 0))) (hob : ob.data = .fields cvs) (hcq : cvs[1]? = some (.str qual ctk))
    (hc : H c = some (.frz co (.own 0))) (hco : co.data = .cell (some cu)) (rc : RelV cv cu)
    (hbind : ∀ us : List Value, us.length = ps.length → bindArgs (PySem.W.fnX name qual params body scope [(y, c)] .none .none doc pm none (.ref c') ct) ⟨us, []⟩ = pure (ps.zip us))
    (hbody : Room k (A.deeper (PySem.W.envX qual scope s.heap.objs.size f (.ref c') [(y, c)])) →
      ∃ t, PSs (cxCl P w K mg base (ps ++ [y]) qual scope f (.ref c') [(y, c)] A outer s H) body t ∧ t { nx := fun _ H' => Q .non H', rt := Q } (vs.map some ++ [some cv]) H) :
    codeAny (model P w) A (.call (.ref f) ⟨us, []⟩) (CR CX0 outer P w H s Q E) s := by
  have lim : s.heap.NoLimit := e0.mod.nolimit.keeps fun b o e => (e0.bs b o e).1
  have of := (e0.hok _ _ hf).1
  have oc' := (e0.hok _ _ hc').1
  have occ := (e0.hok _ _ hc).1
  have hul : us.length = ps.length := by rw [← r.length]; exact hl
  refine codeAny_call_function hr.depth of rfl S.co S.gen rfl ⟨c', ob, cvs, ctk, rfl, oc', hob, hcq⟩ (BindsTo.of_eq (hbind us hul) _ _ _ _ ?_)
  refine wpAny_newFunctionEnv S.nocell (fun x hx => S.par _ (List.of_mem_zip (show (x.1, x.2) ∈ ps.zip us from hx)).1) (fun h1 hns hsb => ?_) S.kind
  have hk : ∀ b o, s.heap.get? b = some o → h1.get? b = some o := fun b o e => hsb.extBut b o (Nat.ne_of_lt (Heap.lt_size e)) (Heap.get?_push_of_some _ e)
  refine ⟨lim.keeps hk, codeAny_func ?_⟩
  obtain ⟨t, ht, hq⟩ := hbody (hr.deeper _)
  have noA : ∀ b : Addr, b ∉ (cxCl P w K mg base (ps ++ [y]) qual scope f (.ref c') [(y, c)] A outer s H).ex := fun b z => absurd (show b ∈ ([] : List Addr) from z) (by simp)
  have lk : ∀ x a, ([(y, c)] : List (Str × Addr)).lookup x = some a → x = y ∧ a = c := fun x a e => by
    rw [List.lookup_cons] at e
    cases hb : x == y with
    | true => rw [hb] at e; cases e; exact ⟨eq_of_beq hb, rfl⟩
    | false => rw [hb] at e; cases e
  have ly : ([(y, c)] : List (Str × Addr)).lookup y = some c := by simp [List.lookup_cons]
  have I : Inv (cxCl P w K mg base (ps ++ [y]) qual scope f (.ref c') [(y, c)] A outer s H) [] (vs.map some ++ [some cv]) H { s with heap := h1, toks := s.toks + (ps.zip us).length } := by
    refine ⟨⟨e0.mod, S.kind, rfl, rfl, Nat.le_refl _, fun x z a h1 h2 => ?_, fun x hx => ?_, fun x a q _ => ?_, fun _ => hr.hd, Around.frames_deeper e0.frames, .inr ⟨rfl, rfl⟩, fun b z => absurd z (noA b), e0.bs, e0.bsz, fun b _ _ => noA b, fun b z => absurd z (noA b), e0.funs, e0.frf⟩,
      rfl, e0.bare, Un.kept hk, ⟨_, hns, fun i x v h1 h2 h3 => ?_⟩, fun x a h => ?_, e0.hok.fresh (Nat.le_refl _), fun x a h => ?_, fun p hp => absurd (show p ∈ ([] : List (Addr × Obj)) from hp) (by simp), e0.hok.kept hk, ?_⟩
    · rw [(lk x a h1).1, (lk z a h2).1]
    · have hx : scope.names.lookup x = some .cell ∨ scope.names.lookup x = some .free := hx
      rcases hx with hx | hx
      · exact absurd rfl (S.nocell _ (PySem.mem_of_lookup hx))
      · rw [S.free x hx]; exact ⟨c, ly⟩
    · exact absurd (show false = true from q) (by simp)
    · by_cases hi : i < ps.length
      · have h1' : ps[i]? = some x := by
          have h1 : (ps ++ [y])[i]? = some x := h1
          rwa [List.getElem?_append_left hi] at h1
        have h2' : vs[i]? = some v := by
          rw [List.getElem?_append_left (by simp; omega), List.getElem?_map] at h2
          cases e : vs[i]? with
          | none => rw [e] at h2; cases h2
          | some a => rw [e] at h2; cases h2; rfl
        obtain ⟨u, hu, rv⟩ := r.get h2'
        refine ⟨u, rv, .inl ⟨S.par x (List.mem_of_getElem? h1'), ?_⟩⟩
        have ndP : ps.Nodup := S.nd.sublist (List.sublist_append_left _ _)
        exact lookup_rev_zip ndP h1' hu hul.symm
      · have h1 : (ps ++ [y])[i]? = some x := h1
        rw [List.getElem?_append_right (by omega)] at h1
        rw [List.getElem?_append_right (by simp; omega)] at h2
        have e1 : i - ps.length = 0 := by
          cases q : i - ps.length with
          | zero => rfl
          | succ j => rw [q] at h1; simp at h1
        have e2 : i - (vs.map some).length = 0 := by simp; omega
        rw [e1] at h1; rw [e2] at h2
        simp at h1 h2
        subst h1 h2
        exact ⟨cu, rc, .inr ⟨.inr S.isfree, c, ly, co, hk _ _ occ, hco⟩⟩
    · rw [(lk x a h).2]; exact ⟨_, co, hk _ _ occ, hco⟩
    · rw [(lk x a h).2]; exact .inr ⟨rfl, co, hc⟩
    · show _ = (ps ++ [y]).length
      simp; exact hl
  refine wpAny_mono (ht [] _ _ H _ I hq) (fun fl s' hs => ?_) fun e s' hs => False.elim hs
  have fin : ∀ {σ' : St} {H' : Hp} {v : V} {u : Value}, Inv (cxCl P w K mg base (ps ++ [y]) qual scope f (.ref c') [(y, c)] A outer s H) [] σ' H' s' → RelV v u → Q v H' → CE outer P w H s Q u s' :=
    fun {σ' H' v u} J rv q => ⟨v, H', J.os, J.bare, J.base, J.hok, rv, q⟩
  cases fl with
  | ret u =>
    obtain ⟨v, σ', H', J, rv, q⟩ := hs
    exact fin J rv q
  | next =>
    obtain ⟨σ', H', J, q⟩ := hs
    exact fin (v := V.non) (u := Value.none) J rfl q
  | brk =>
    obtain ⟨_, _, _, q⟩ := hs
    exact False.elim q
  | cont =>
    obtain ⟨_, _, _, q⟩ := hs
    exact False.elim q
end

/-! ### an object that stands there, untracked, is kept in sight from now on -/
theorem HOk.track {P : Program} {w : World} {H : Hp} {h : Heap} {a : Addr} {o : Obj} (x : HOk P w H h) (ho : h.get? a = some o) (hn : H a = none) : HOk P w (upd H a (.frz o (.own 0))) h := fun b u e => by
  by_cases hb : b = a
  · subst hb; rw [upd_same] at e; cases e; exact ⟨ho, o, ho⟩
  · rw [upd_ne hb] at e
    exact (x b u e).stay (fun c v _ q => q) (fun c q => by rw [upd_ne (ne_of_none q hn)]; exact q) fun c xs q => by rw [upd_ne (ne_of_none q hn)]; exact q
theorem Un.track {fs ex : List Addr} {H H1 : Hp} {h h1 : Heap} {a : Addr} {o : HO} (u : Un fs ex H H1 h h1) (hs : h.objs.size ≤ a) (hn : H1 a = none) : Un fs ex H (upd H1 a o) h h1 :=
  ⟨u.keep, u.slot, fun b o q n hx => by rw [upd_ne (Nat.ne_of_lt (Nat.lt_of_lt_of_le (Heap.lt_size q) hs))]; exact u.free b o q n hx, u.there,
    fun b xs q => by have z := u.tups b xs q; rw [upd_ne (ne_of_none z hn)]; exact z, fun b o v q => by have z := u.frzs b o v q; rw [upd_ne (ne_of_none z hn)]; exact z,
    fun b ps q => by obtain ⟨m, z⟩ := u.tbls b ps q; exact ⟨m, by rw [upd_ne (ne_of_none z hn)]; exact z⟩⟩
theorem Inv.track {X : Cx} {pins : List (Addr × Obj)} {σ : St} {H : Hp} {s : Shared} {a : Addr} {o : Obj} (I : Inv X pins σ H s) (ho : s.heap.get? a = some o) (fp : FpOk X pins H a) (hs : X.s₀.heap.objs.size ≤ a) :
    Inv X pins σ (upd H a (.frz o (.own 0))) s := by
  obtain ⟨f0, f1, f2, f3, f4, f5⟩ := fp
  refine ⟨I.ok, I.os, I.bare, I.base.track hs f0, I.loc, I.cell, ?_, fun x c e => ?_, fun p hp => ?_, I.hok.track ho f0, I.len⟩
  · rw [upd_ne (Ne.symm f1)]; exact I.free
  · rcases I.freeC x c e with z | ⟨z1, ob, z⟩
    · left; rw [upd_ne (f4 x c e)]; exact z
    · right; exact ⟨z1, ob, by rw [upd_ne (f4 x c e)]; exact z⟩
  · obtain ⟨e, n, ne, nf, d⟩ := I.pin p hp
    exact ⟨e, by rw [upd_ne (f5 p hp)]; exact n, ne, nf, d⟩
/-- a def by its body, run as it is -/
theorem fn_ofR {P : Program} {w : World} {K : PySem.W.Frag} {mg : Str → Option Value} {base : Heap} {k : Nat} {f : Addr} {name qual : Str} {params : Arguments} {body : List Stmt} {scope : Scope} {dV kV doc pm cdv ct oc : Value} {an od : Option Addr}
    {osl : Array (Option Value)} {N ps : List Str} {sp : Sp} (lk : K.lookup f = some ⟨oc, od, .func (PySem.W.fnOf name qual params body scope dV kV doc pm an cdv ct), osl⟩) (hcd : PySem.W.codeIn K cdv qual = true) (S : FnScope N ps scope)
    (len : ∀ vs H Q E, sp vs H Q E → vs.length = ps.length)
    (hbody : ∀ (A : Around) (outer : List Env) (s s1 : Shared) (H : Hp) (vs : List V) (Q : VK) (E : XK), Room k (A.deeper (envOfC qual scope s.heap.objs.size f cdv)) → sp vs H Q E →
      Inv (cxOf CX0 P w K mg base N qual scope f cdv A outer s H E) [] (start N vs) H s1 →
      wpAny (model P w) (A.deeper (envOfC qual scope s.heap.objs.size f cdv)) (execs body (envOfC qual scope s.heap.objs.size f cdv)) (fun fl s' => match fl with | .ret u => CE outer P w H s Q u s' | .next => CE outer P w H s Q .none s' | _ => False)
        (cxOf CX0 P w K mg base N qual scope f cdv A outer s H E).xe s1) :
    FnOk P w K mg base CX0 (k + 1) f (PySem.W.fnOf name qual params body scope dV kV doc pm an cdv ct) ps sp := by
  refine ⟨len, fun A outer s H args us vs Q E hr e0 hb r hsp => ?_⟩
  have hl := len _ _ _ _ hsp
  have KX : K.In s.heap := e0.mod.kin.keeps fun b o e => (e0.bs b o e).1
  have lim : s.heap.NoLimit := e0.mod.nolimit.keeps fun b o e => (e0.bs b o e).1
  have hkind : ∀ y ∈ ps.zip us, scope.names.lookup y.1 = some .local ∨ (scope.names.lookup y.1 = some .cell ∧ ((cellsFrom (s.heap.objs.size + 1) scope.names []).lookup y.1).isSome = true) := fun ⟨n, v⟩ hy => by
    rcases S.par n (List.of_mem_zip hy).1 with q | q
    · exact .inl q
    · exact .inr ⟨q, PySem.W.cellsFrom_some _ _ _ (.inl q)⟩
  refine codeAny_call_function hr.depth (KX _ _ lk) rfl S.co S.gen rfl (PySem.W.codeRec_of KX hcd) (hb _ _ _ _ ?_)
  refine wpAny_newFunctionEnv_cells S.kind hkind fun env he s1 x => ?_
  subst he
  refine ⟨lim.keeps x.toInCall.keep, codeAny_func ?_⟩
  have I : Inv (cxOf CX0 P w K mg base N qual scope f cdv A outer s H E) [] (start N vs) H s1 := inv_start S hr.hd e0 hl r x
  refine wpAny_mono (hbody A outer s s1 H vs Q E (hr.deeper _) hsp I) (fun fl s' hs => ?_) fun e s' hs => hs
  cases fl with
  | ret u => exact hs
  | next => exact hs
  | brk => exact False.elim hs
  | cont => exact False.elim hs

/-! ### F. a def within a def -/
section
variable {X : Cx} {name : Str} {params : Arguments} {body : List Stmt} {scope : Scope} {pos : Pos} {i : Nat} {Pt c0 : Addr} {clos : List (Str × Addr)}
/-- the code's table stands at Pt, grown by one; the code, the function new -/
def tDef (Pt : Addr) (i : Nat) (name qual : Str) (params : Arguments) (body : List Stmt) (scope : Scope) (clos : List (Str × Addr)) (pos : Pos) : TS := fun D σ H => ∃ ps : Array Value, H Pt = some (.tbl ps) ∧ TriplesOk ps.toList ∧ codeAmong pos ps.toList = none ∧
  ∀ (f c' : Addr) (ob : Obj) (cvs : Array Value) (tk : Tok) (ctv doc pm : Value), H f = none → H c' = none → c' ≠ f → Pt ≠ f → Pt ≠ c' → ob.data = .fields cvs → cvs[1]? = some (.str qual tk) →
    D.nx (σ.set i (some (.ref f))) (upd (upd (upd H Pt (.tbl (ps ++ #[rawInt pos.line, rawInt pos.col, .ref c']))) c' (.frz ob (.own 0))) f (.frz (PySem.W.fnMade name qual params body scope clos doc pm c' ctv) (.own 0)))
theorem HOk.tbl {P : Program} {w : World} {H : Hp} {h h' : Heap} {p : Addr} {ps more : Array Value} (x : HOk P w H h) (hp : H p = some (.tbl ps)) (k : ∀ b o, b ≠ p → h.get? b = some o → h'.get? b = some o) (hp' : h'.get? p = some (PySem.W.tabObj (ps ++ more))) :
    HOk P w (upd H p (.tbl (ps ++ more))) h' := fun b u e => by
  by_cases hb : b = p
  · subst hb; rw [upd_same] at e; cases e; exact hp'
  · rw [upd_ne hb] at e
    refine (x b u e).stay (fun c v hc q => k c v ?_ q) (fun c q => ?_) fun c xs q => ?_
    · rcases hc with rfl | hc
      · exact hb
      · rintro rfl; rw [hp] at hc; cases hc
    · rw [upd_ne (by rintro rfl; rw [hp] at q; cases q)]; exact q
    · rw [upd_ne (by rintro rfl; rw [hp] at q; cases q)]; exact q
theorem ps_def {qual : Str} (hd0 : params.defaults = []) (hk0 : params.kw_defaults = []) (ha : PySem.annTrees params none X.env = []) (hqual : qualnameIn X.env name name = qual) (hcl : closureFor scope X.env = pure clos) (hcode : X.env.code = .ref c0)
    (C : PySem.W.CodeHd X.base c0 Pt) (hbm : ∃ bm ob, X.mg "__builtins__" = some (.ref bm) ∧ bm ≠ builtinsNs ∧ X.base.get? bm = some ob ∧ ob.cls = .type "module" ∧ ob.dict = some builtinsNs ∧ ob.data = .plain)
    (hN : X.N.Nodup) (hi : X.N[i]? = some name) (hx : Loc X.env.scope name) (hf : X.fn name = true ∨ X.env.scope.names.lookup name = some .local) :
    PS X (.FunctionDef name params body [] none [] scope none name pos) (tDef Pt i name qual params body scope clos pos) := by
  intro pins s σ H D I h
  obtain ⟨ps, hP, ht, hnf, h⟩ := h
  have hPo : s.heap.get? Pt = some (PySem.W.tabObj ps) := I.hok _ _ hP
  have hgs := I.mod.glob.keeps I.bk
  obtain ⟨bm, ob, b1, b2, b3, b4, b5, b6⟩ := hbm
  have b3' := I.bk _ _ b3
  have hgP : mainGlobals ≠ Pt := fun q => by
    obtain ⟨o, es, ep, e, hd, _⟩ := hgs
    rw [q, hPo] at e; cases e; cases hd
  have hbP : bm ≠ Pt := fun q => by rw [q, hPo] at b3'; cases b3'; cases b4
  have hbG : bm ≠ mainGlobals := fun q => by
    obtain ⟨o, es, ep, e, hd, _⟩ := hgs
    rw [q, e] at b3'; cases b3'; rw [hd] at b6; cases b6
  refine PySem.W.nestDef_K hd0 hk0 ha ?_
  rw [hqual]
  refine PySem.W.makeFunction_K (mg := X.mg) hcl I.ok.glob hgs hcode (C.keeps I.bk) hPo ht hnf hgP ⟨bm, ob, b1, b2, hbG, hbP, b3', b4, b5, b6⟩ fun c' ctv doc h' tk hx' hge hlt hrec htb => ?_
  obtain ⟨c2, oc, vs, t, e2, hoc, hd, hv⟩ := hrec
  cases e2
  -- the table grown
  have hszle : s.heap.objs.size ≤ h'.objs.size := Nat.le_of_lt (Nat.lt_of_le_of_lt hge hlt)
  have hPlt : Pt < s.heap.objs.size := Heap.lt_size hPo
  have hPm : ∀ x a, X.env.cells.lookup x = some a → a ≠ Pt := fun x a e z => by
    obtain ⟨v, o, ho, hd⟩ := I.cell x a e
    rw [z, hPo] at ho; cases ho; cases hd
  have Un1 : Un X.fs [] H (upd H Pt (.tbl (ps ++ #[rawInt pos.line, rawInt pos.col, .ref c']))) s.heap h' := by
    refine ⟨fun b o q n _ _ => hx' b o (by rintro rfl; rw [hP] at n; cases n) q, fun b o q n _ _ => ⟨o.slots, hx' b o (by rintro rfl; rw [hP] at n; cases n) q⟩, fun b o q n _ => ?_, fun b o q _ => ?_, fun b xs q => ?_, fun b o u q => ?_, fun b qs q => ?_⟩
    · rw [upd_ne (by rintro rfl; rw [hP] at n; cases n)]; exact n
    · by_cases hb : b = Pt
      · subst hb; exact ⟨_, htb⟩
      · exact ⟨o, hx' b o hb q⟩
    · rw [upd_ne (by rintro rfl; rw [hP] at q; cases q)]; exact q
    · rw [upd_ne (by rintro rfl; rw [hP] at q; cases q)]; exact q
    · by_cases hb : b = Pt
      · subst hb; rw [hP] at q; cases q; exact ⟨_, upd_same⟩
      · exact ⟨#[], by rw [upd_ne hb, q]; simp⟩
  have I1 : Inv X pins σ (upd H Pt (.tbl (ps ++ #[rawInt pos.line, rawInt pos.col, .ref c']))) { s with heap := h', toks := tk } :=
    I.un Un1 (I.hok.tbl hP (fun b o hb q => hx' b o hb q) htb)
  -- the code object is tracked
  have hcn : upd H Pt (.tbl (ps ++ #[rawInt pos.line, rawInt pos.col, .ref c'])) c' = none := by
    rw [upd_ne (Nat.ne_of_gt (Nat.lt_of_lt_of_le hPlt hge))]; exact I.hok.fresh hge
  have I2 : Inv X pins σ (upd (upd H Pt (.tbl (ps ++ #[rawInt pos.line, rawInt pos.col, .ref c']))) c' (.frz oc (.own 0))) { s with heap := h', toks := tk } := by
    have f2 := I.fpOk (H' := upd H Pt (.tbl (ps ++ #[rawInt pos.line, rawInt pos.col, .ref c']))) hge hcn
    exact I1.track hoc f2 (Nat.le_trans I.sz hge)
  have hfn : (upd (upd H Pt (.tbl (ps ++ #[rawInt pos.line, rawInt pos.col, .ref c']))) c' (.frz oc (.own 0))) h'.objs.size = none := I2.hok.fresh (Nat.le_refl _)
  have I3 := I2.laid (a := h'.objs.size) (o := .frz (PySem.W.fnMade name qual params body scope clos doc ((X.mg "__name__").getD .none) c' ctv) (.own 0)) (t' := tk)
    (fun b o q => Heap.get?_push_of_some (PySem.W.fnMade name qual params body scope clos doc ((X.mg "__name__").getD .none) c' ctv) q) (Nat.le_refl _) ⟨Heap.get?_push_size _ rfl, _, Heap.get?_push_size _ rfl⟩
  refine store_ok I3 hN hi hx (v := .ref h'.objs.size) rfl (fun s' I' => ⟨_, _, I', ?_⟩) hf
  exact h h'.objs.size c' oc vs t ctv doc _ (I.hok.fresh hszle) (I.hok.fresh hge) (Nat.ne_of_lt hlt) (Nat.ne_of_lt (Nat.lt_of_lt_of_le hPlt hszle)) (Nat.ne_of_lt (Nat.lt_of_lt_of_le hPlt hge)) hd hv
end
end L2

set_option Elab.async false
set_option linter.all false
set_option maxRecDepth 100000
namespace L2
open PySem PySem.Spec PyProof.Rows
/-! ### G. comprehensions of one clause over a name -/
/-- the block's context -/
def cxComp (X : Cx) (s₂ : Shared) (H₂ : Hp) (fp : List Addr) (sc : Scope) (cl : List (Str × Addr)) (N' : List Str) : Cx :=
  { X with N := N', s₀ := s₂, H₀ := H₂, env := compEnvC sc cl s₂.heap.objs.size X.env, outer := X.stack, stack := X.stack, ex := fp, fn := fun _ => false, pn := [], xe := fun _ _ => False }
/-- tests of a clause -/
def PTs (X : Cx) (ifs : List Expr) (tt : TT) : Prop :=
  ∀ (pins : List (Addr × Obj)) (s : Shared) (σ : St) (H : Hp) (Q : Bool → Hp → Prop) (E : Value → Shared → Prop), X.xe = (fun _ _ => False) → Inv X pins σ H s → tt σ H Q →
    wpAny (model X.prog X.w) X.A (forIn ifs true fun c r => if r = true then do let ok ← isTrue c X.env (eval c X.env); pure (ForInStep.yield ok) else pure (ForInStep.yield r)) (TP X pins σ Q) E s
theorem pts_nil {X : Cx} : PTs X [] (fun _ H Q => Q true H) := fun pins s σ H Q E _ I h => wpAny_tests_nil ⟨H, I, h⟩
theorem pts_one {X : Cx} {c : Expr} {t : TT} (h : PT X c t) : PTs X [c] t := fun pins s σ H Q E hx I q => wpAny_tests_one (wpAny_mono (h pins s σ H Q I q) (fun _ _ x => x) fun e s' x => by rw [hx] at x; exact x.elim)
def capt (js : List Nat) (σ : St) : St := js.map fun j => (σ[j]?).join
/-- what the comprehension does, by its turns; D the new list -/
def tComp (wi : TI) (js : List Nat) (tt : TT) (te : TE) : TE := fun σ H Q => wi σ H fun J H1 => ∀ D, H1 D = none → ∃ W : Nat → Nat → List V → Hp → Prop, (∃ m, W 0 m [] (upd H1 D (.lst []))) ∧ ∀ i m ys H, W i m ys H →
  (J.stop i H ∧ Q (.ref D) H) ∨ (J.go i H ∧ ∀ x H', J.yld i H x H' → tt (some x :: capt js σ) H' fun b H2 => if b = true then te (some x :: capt js σ) H2 fun y H3 => H3 D = some (.lst ys) ∧ ys.length < sizeLine ∧ ∃ m', m' < m ∧ W (i + 1) m' (ys ++ [y]) (upd H3 D (.lst (ys ++ [y])))
    else ∃ m', m' < m ∧ W (i + 1) m' ys H2)
structure CompOk (X : Cx) (x : Str) (ys : List Str) (js : List Nat) (sc : Scope) (cl : List (Str × Addr)) : Prop where
  calm : X.calm = true
  clos : closureFor sc X.env = pure cl
  kind : sc.kind = .function
  names : ∀ z ∈ sc.names, z.2 = .local → sc.names.lookup z.1 = some .local
  nocell : ∀ z ∈ sc.names, z.2 ≠ .cell
  own : sc.names.lookup x = some .local
  nd : (x :: ys).Nodup
  same : ∀ z c, cl.lookup z = some c → X.env.cells.lookup z = some c
  has : (relabel sc X.env).names.all (fun p => !(p.2 == .cell || p.2 == .free) || (cl.lookup p.1).isSome) = true
  cap : ∀ (i : Nat) y, ys[i]? = some y → ∃ j, js[i]? = some j ∧ X.N[j]? = some y ∧ X.env.scope.names.lookup y = some .cell ∧ (relabel sc X.env).names.lookup y = some .cell
  len : ys.length = js.length
theorem comp_core {X : Cx} {x : Str} {px : Pos} {ys : List Str} {js : List Nat} {sc : Scope} {cl : List (Str × Addr)} {elt iter : Expr} {ifs : List Expr} {pos : Pos} {wi : TI} {tt : TT} {te : TE} {use : Option (Value → Sem Unit)} {QQ : Value → Shared → Prop}
    (ok : CompOk X x ys js sc cl) (hi : PI X (.Name x px) iter wi)
    (ht : ∀ s₂ H₂ fp, PTs (cxComp X s₂ H₂ fp sc cl (x :: ys)) ifs tt) (he : ∀ s₂ H₂ fp, PE (cxComp X s₂ H₂ fp sc cl (x :: ys)) elt te)
    {pins : List (Addr × Obj)} {s : Shared} {σ : St} {H : Hp} {Q : VK} (I : Inv X pins σ H s) (h : tComp wi js tt te σ H Q)
    (fin : ∀ (D C : Addr) (H' : Hp) (s' : Shared), Inv X pins σ H' s' → Q (.ref D) H' → FpOk X pins H' C → (∃ m, s'.heap.Ns C m) → compPost (model X.prog X.w) X.A X.xe use QQ (.ref D) C (.ok .next) s') 
    (hs : ∀ x, foldedSetIterable iter X.env x = pure x) {p2 : Pos} :
    wpAny (model X.prog X.w) X.A (comprehension (.ListComp elt [⟨.Name x px, iter, ifs, 0⟩] sc pos) sc X.env p2 (newList []) false (eval iter X.env) use) QQ X.xe s := by
  refine wpAny_comprehension_free (use := use) rfl hs ok.clos ok.kind ok.names (thn (hi pins s σ H _ I h) fun v s0 h0 => thn h0 fun itv s1 h1 => ?_)
  obtain ⟨it, fp, tn, J, H1, e, I1, T, st1, f1, h1⟩ := h1
  subst e
  -- the new list
  refine wpAny_newObj_type ?_
  have I2 := I1.lnew (ys := []) (its := []) (t' := s1.toks) .nil (by simp)
  obtain ⟨W, ⟨m0, w0⟩, turn⟩ := h1 s1.heap.objs.size I1.fresh
  generalize hs2 : ({ s1 with heap := s1.heap.push { cls := .type "list", data := .seq ([] : List Value).toArray }, toks := s1.toks } : Shared) = s2 at I2
  have es2 : s2.heap = s1.heap.push { cls := .type "list", data := .seq ([] : List Value).toArray } := by rw [← hs2]
  have hD : s1.heap.objs.size < s2.heap.objs.size := by rw [es2, Heap.size_push]; exact Nat.lt_succ_self _
  generalize hH2 : upd H1 s1.heap.objs.size (.lst []) = H2 at I2 w0
  have k12 : ∀ b o, s1.heap.get? b = some o → s2.heap.get? b = some o := fun b o e => by rw [es2]; exact Heap.get?_push_of_some _ e
  have st2 : tn 0 s2.heap := T.keep _ _ _ st1 fun b hb o e => k12 b o e
  have fplt : ∀ b ∈ fp, b < s1.heap.objs.size := fun b hb => by obtain ⟨o, e, _⟩ := T.obj _ _ st1 b hb; exact Heap.lt_size e
  have f2 : ∀ b ∈ fp, FpOk X pins H2 b := fun b hb => ⟨by rw [← hH2, upd_ne (Nat.ne_of_lt (fplt b hb))]; exact (f1 b hb).1, (f1 b hb).2⟩
  -- the block's frame
  refine wpAny_newFunctionEnv ok.nocell (by intro z hz; simp at hz) (fun h3 hns hsb => ?_) ok.kind
  have k23 : ∀ b o, s2.heap.get? b = some o → h3.get? b = some o := fun b o e => hsb.extBut b o (Nat.ne_of_lt (Heap.lt_size e)) (Heap.get?_push_of_some _ e)
  generalize hs3 : ({ s2 with heap := h3, toks := s2.toks + ([] : List (Str × Value)).length } : Shared) = s3
  have es3 : s3.heap = h3 := by rw [← hs3]
  have os3 : s3.os = s2.os := by rw [← hs3]
  have gs3 : s3.gens = s2.gens := by rw [← hs3]
  have hX : (cxComp X s2 H2 fp sc cl (x :: ys)).Ok := by
    refine ⟨I2.mod, ok.kind, I2.ok.glob, I2.ok.blt, Nat.le_refl _, fun a b c e1 e2 => I2.ok.inj a b c (ok.same a c e1) (ok.same b c e2), fun z hz => ?_, fun z c q _ => absurd (show false = true from q) (by simp), I2.ok.hd, I2.ok.frames, .inl rfl,
      fun b hb => ?_, I2.bs, ?_, fun b o e hb => ?_, fun b hb hf => ?_, I2.stack, I2.stkFree⟩
    · have hz : (relabel sc X.env).names.lookup z = some .cell ∨ (relabel sc X.env).names.lookup z = some .free := hz
      have go : ∀ k, (relabel sc X.env).names.lookup z = some k → (k == .cell || k == .free) = true → ∃ c, cl.lookup z = some c := fun k hk hb => by
        have q := List.all_eq_true.mp ok.has (z, k) (PySem.mem_of_lookup hk)
        rw [hb] at q
        exact Option.isSome_iff_exists.mp q
      rcases hz with hz | hz
      · exact go _ hz rfl
      · exact go _ hz rfl
    · refine ⟨?_, fun z c e => (f2 b hb).2.2.2.2.1 z c (ok.same z c e)⟩
      show b ≠ s2.heap.objs.size
      exact Nat.ne_of_lt (Nat.lt_trans (fplt b hb) hD)
    · show X.base.objs.size ≤ s2.heap.objs.size
      exact Nat.le_trans I2.ok.bsz I2.sz
    · rcases (f2 b hb).2.2.2.1 with z | z
      · exact I2.ok.noex b o e z
      · exact absurd (Nat.lt_of_lt_of_le (Heap.lt_size e) (Nat.le_trans I2.ok.bsz z)) (Nat.lt_irrefl _)
    · rcases List.mem_cons.mp (I2.stkSub b hf) with z | z
      · exact (f2 b hb).2.1 z
      · exact (f2 b hb).2.2.1 z
  have hlt2 : ∀ z c, X.env.cells.lookup z = some c → c < s2.heap.objs.size := fun z c e => by obtain ⟨v, q⟩ := I2.cell z c e; exact q.lt
  have I3 : ∀ o : Option V, Inv (cxComp X s2 H2 fp sc cl (x :: ys)) [] (none :: capt js σ) H2 s3 := fun _ => by
    refine ⟨hX, os3, by rw [gs3]; exact I2.bare, Un.kept (by rw [es3]; exact k23), ⟨_, by rw [es3]; exact hns, fun i y v e1 e2 e3 => ?_⟩, fun z c e => ?_, I2.hok.fresh (Nat.le_refl _), fun z c e => ?_, fun p hp => absurd (show p ∈ ([] : List (Addr × Obj)) from hp) (by simp), by rw [es3]; exact I2.hok.kept k23, ?_⟩
    · cases i with
      | zero => simp at e2
      | succ i =>
        have e1 : ys[i]? = some y := by simpa [cxComp] using e1
        obtain ⟨j, hj, hN, hk, hk2⟩ := ok.cap i y e1
        have e2 : (capt js σ)[i]? = some (some v) := by simpa using e2
        unfold capt at e2
        rw [List.getElem?_map, hj] at e2
        have e2' : (σ[j]?).join = some v := by simpa using e2
        have e4 : σ[j]? = some (some v) := by
          cases q : σ[j]? with
          | none => rw [q] at e2'; cases e2'
          | some w => rw [q] at e2'; simp at e2'; rw [e2']
        obtain ⟨m, hn, hl⟩ := I2.loc
        obtain ⟨u, r, l⟩ := hl j y v hN e4 (.inr (.inl hk))
        refine ⟨u, r, ?_⟩
        rcases l with ⟨k, _⟩ | ⟨_, c, hc, z⟩
        · exact absurd ((show X.env.scope.names.lookup y = some .local from k).symm.trans hk) (by simp)
        · have q := List.all_eq_true.mp ok.has (y, .cell) (PySem.mem_of_lookup hk2)
          obtain ⟨c', hc'⟩ : ∃ c', cl.lookup y = some c' := Option.isSome_iff_exists.mp (by simpa using q)
          have e5 := ok.same y c' hc'
          rw [hc] at e5
          cases e5
          refine .inr ⟨.inl hk2, c, hc', ?_⟩
          rw [es3]
          exact z.keeps k23
    · obtain ⟨v, q⟩ := I2.cell z c (ok.same z c e)
      exact ⟨v, by rw [es3]; exact q.keeps k23⟩
    · rcases I2.freeC z c (ok.same z c e) with q | ⟨_, ob, q⟩
      · exact .inl q
      · exact .inr ⟨rfl, ob, q⟩
    · show _ = (x :: ys).length
      unfold capt
      simp; exact ok.len.symm
  -- the loop
  have stat : ∀ {H' : Hp}, (∀ b ∈ fp, H' b = none) → ∀ b ∈ fp, FpOk (cxComp X s2 H2 fp sc cl (x :: ys)) [] H' b := fun {H'} hn b hb => by
    refine ⟨hn b hb, Nat.ne_of_lt (Nat.lt_trans (fplt b hb) hD), fun hf => ?_, .inl hb, fun z c e => (f2 b hb).2.2.2.2.1 z c (ok.same z c e), fun p hp => absurd (show p ∈ ([] : List (Addr × Obj)) from hp) (by simp)⟩
    rcases List.mem_cons.mp (I2.stkSub b hf) with z | z
    · exact (f2 b hb).2.1 z
    · exact (f2 b hb).2.2.1 z
  have loop : codeAny (model X.prog X.w) X.A (.compLoop (.ListComp elt [⟨.Name x px, iter, ifs, 0⟩] sc pos) 0 (.ref it) (.ref s1.heap.objs.size) (compEnvC sc cl s2.heap.objs.size X.env)) (compPost (model X.prog X.w) X.A X.xe use QQ (.ref s1.heap.objs.size) s2.heap.objs.size) s3 := by
    refine codeAny_compLoop_tests (fun n s' => ∃ i o zs H', Inv (cxComp X s2 H2 fp sc cl (x :: ys)) [] (o :: capt js σ) H' s' ∧ tn i s'.heap ∧ (∀ b ∈ fp, H' b = none) ∧ W i n zs H') ?_ m0 ⟨0, none, [], H2, I3 none, T.keep _ _ _ st2 fun b hb o e => by rw [es3]; exact k23 b o e, fun b hb => (f2 b hb).1, w0⟩
    rintro n s4 ⟨i, o, zs, H4, I4, st4, fr4, w4⟩
    rcases turn i n zs H4 w4 with ⟨stop, qn⟩ | ⟨go, step⟩
    · refine wpAny_mono (T.done (cxComp X s2 H2 fp sc cl (x :: ys)) rfl rfl rfl ok.calm i [] s4 _ H4 (fun _ _ => False) I4 (stat fr4) st4 stop) (fun r s5 ⟨hr, I5⟩ => ?_) fun _ _ e => e.elim
      subst hr
      have I6 : Inv X pins σ H4 s5 := I2.call' (ch := fp) I5.os I5.base I5.hok I5.bare fun b hb => ⟨(f2 b hb).2.2.2.1, (f2 b hb).2.1, (f2 b hb).2.2.2.2.1, (f2 b hb).2.2.2.2.2⟩
      obtain ⟨m, hn, _⟩ := I5.loc
      exact fin _ _ H4 s5 I6 qn (I2.fpOk (Nat.le_refl _) I5.free) ⟨m, hn⟩
    · refine wpAny_mono (T.item (cxComp X s2 H2 fp sc cl (x :: ys)) rfl rfl rfl ok.calm i [] s4 _ H4 (fun _ _ => False) I4 (stat fr4) st4 go) (fun r s5 ⟨u, hr, h5⟩ => ?_) fun _ _ e => e.elim
      subst hr
      -- the store
      have asg : ∀ (Q2 : Unit → Shared → Prop), (∀ s6 v H6, Inv (cxComp X s2 H2 fp sc cl (x :: ys)) ([] ++ pinsAt fp s6.heap) (some v :: capt js σ) H6 s6 → J.yld i H4 v H6 → tn (i + 1) s6.heap → (∀ b ∈ fp, H6 b = none) → Q2 () s6) →
          wpAny (model X.prog X.w) X.A (assign (.Name x px) (compEnvC sc cl s2.heap.objs.size X.env) u) Q2 (fun _ _ => False) s5 := fun Q2 hQ2 => by
        have z : wpAny (model X.prog X.w) X.A (letOwnedTupleGo (.Name x px) (.ref it) u >>= fun _ => assign (.Name x px) (compEnvC sc cl s2.heap.objs.size X.env) u) Q2 (fun _ _ => False) s5 := by
          refine wpAny_bind (wpAny_mono h5 (fun _ s6 ⟨v, H6, I6, r6, y6, st6, fr6⟩ => ?_) fun _ _ e => e)
          have I6' := I6.pinned (stat fr6) (T.obj _ _ st6)
          refine wpAny_assign_Name (store_ok (X := cxComp X s2 H2 fp sc cl (x :: ys)) (i := 0) I6' ok.nd rfl (.inl (lookup_relabel_local ok.own)) r6 (fun s7 I7 => ?_) (.inr (lookup_relabel_local ok.own)))
          have e7 : ∀ b ∈ fp, ∀ o, s6.heap.get? b = some o → s7.heap.get? b = some o := fun b hb o e => (I7.pin (b, o) (List.mem_append_right _ (List.mem_append_right _ (mem_pinsAt hb e)))).1
          have st7 : tn (i + 1) s7.heap := T.keep _ _ _ st6 e7
          refine hQ2 s7 v H6 ?_ y6 st7 fr6
          have I8 := I7.unpinned
          exact I8.pinned (stat fr6) (T.obj _ _ st7)
        have e : letOwnedTupleGo (.Name x px) (.ref it) u = pure () := rfl
        rw [e, pure_bind] at z
        exact z
      refine wpAny_mono (asg _ fun s6 v H6 I6 y6 st6 fr6 => ?_) (fun _ _ q => q) fun _ _ e => e.elim
      have keepI : ∀ {H7 : Hp} {s7 : Shared} {σ7 : St}, Inv (cxComp X s2 H2 fp sc cl (x :: ys)) ([] ++ pinsAt fp s6.heap) σ7 H7 s7 → tn (i + 1) s7.heap ∧ ∀ b ∈ fp, H7 b = none := fun {H7 s7 σ7} I7 =>
        ⟨T.keep _ _ _ st6 fun b hb o e => (I7.pin (b, o) (List.mem_append_right _ (List.mem_append_right _ (mem_pinsAt hb e)))).1, fun b hb => by
          obtain ⟨o, e, d⟩ := T.obj _ _ st6 b hb
          exact (I7.pin (b, o) (List.mem_append_right _ (List.mem_append_right _ (mem_pinsAt hb e)))).2.1⟩
      refine wpAny_mono (ht s2 H2 fp _ s6 _ H6 _ (fun _ _ => False) rfl I6 (step v H6 y6)) (fun b s7 ⟨H7, I7, q7⟩ => ?_) fun _ _ e => e.elim
      cases b with
      | false =>
        rw [if_neg Bool.false_ne_true] at q7 ⊢
        obtain ⟨m', hm, w7⟩ := q7
        obtain ⟨st7, fr7⟩ := keepI I7
        exact ⟨m', hm, i + 1, some v, zs, H7, I7.unpinned, st7, fr7, w7⟩
      | true =>
        rw [if_pos rfl] at q7 ⊢
        refine wpAny_mono (he s2 H2 fp _ s7 _ H7 _ I7 q7) (fun y s8 ⟨yv, H8, I8, r8, hD8, hz8, m', hm, w8⟩ => ?_) fun _ _ (e : False) => e.elim
        refine wpAny_mono (mt_append (X := cxComp X s2 H2 fp sc cl (x :: ys)) _ s8 _ H8 (.ref s1.heap.objs.size) [yv] (.ref s1.heap.objs.size) [y] (fun v H9 => H9 = upd H8 s1.heap.objs.size (.lst (zs ++ [yv]))) I8 rfl (.cons r8 .nil) ⟨_, zs, yv, rfl, rfl, hD8, hz8, rfl⟩)
          (fun _ s9 ⟨_, H9, I9, _, e9⟩ => ?_) fun _ _ (e : False) => e.elim
        subst e9
        obtain ⟨st9, fr9⟩ := keepI I9
        exact ⟨m', hm, i + 1, some v, zs ++ [yv], _, I9.unpinned, st9, fr9, w8⟩
  have self3 : tn 0 s3.heap := T.keep _ _ _ st2 fun b hb o e => by rw [es3]; exact k23 b o e
  exact codeAny_compStart_list loop (T.self X.A 0 _ _ _ self3 loop)
theorem pe_comp {X : Cx} {x : Str} {px : Pos} {ys : List Str} {js : List Nat} {sc : Scope} {cl : List (Str × Addr)} {elt iter : Expr} {ifs : List Expr} {pos : Pos} {wi : TI} {tt : TT} {te : TE} (ok : CompOk X x ys js sc cl) (hi : PI X (.Name x px) iter wi)
    (ht : ∀ s₂ H₂ fp, PTs (cxComp X s₂ H₂ fp sc cl (x :: ys)) ifs tt) (he : ∀ s₂ H₂ fp, PE (cxComp X s₂ H₂ fp sc cl (x :: ys)) elt te) (hs : ∀ x, foldedSetIterable iter X.env x = pure x := by intro _; rfl) :
    PE X (.ListComp elt [⟨.Name x px, iter, ifs, 0⟩] sc pos) (tComp wi js tt te) := by
  intro pins s σ H Q I h
  rw [eval_ListComp]
  refine comp_core (use := none) ok hi ht he I h (fun D C H' s' I' q fc ⟨m, hn⟩ => ⟨m, hn, fun h' hs' => ?_⟩) hs
  obtain ⟨f0, f1, f2, f3, f4, f5⟩ := fc
  exact ⟨.ref D, H', I'.turned (t' := s'.toks) (fun b o hb e => (hs'.2 b hb).trans e) f0 f1 f3 f4 f5, rfl, q⟩
/-- name = [..] -/
theorem ps_setComp {X : Cx} {x z : Str} {px pz : Pos} {iz : Nat} {ys : List Str} {js : List Nat} {sc : Scope} {cl : List (Str × Addr)} {elt iter : Expr} {ifs : List Expr} {pos spos : Pos} {wi : TI} {tt : TT} {te : TE} (ok : CompOk X x ys js sc cl) (hi : PI X (.Name x px) iter wi)
    (ht : ∀ s₂ H₂ fp, PTs (cxComp X s₂ H₂ fp sc cl (x :: ys)) ifs tt) (he : ∀ s₂ H₂ fp, PE (cxComp X s₂ H₂ fp sc cl (x :: ys)) elt te)
    (hN : X.N.Nodup) (hiz : X.N[iz]? = some z) (hz : Loc X.env.scope z) (hf : X.fn z = true ∨ X.env.scope.names.lookup z = some .local)
    (hsw : swapsWith (.ListComp elt [⟨.Name x px, iter, ifs, 0⟩] sc pos) (some (.Name z pz)) spos.line X.env = pure true) (hs : ∀ x, foldedSetIterable iter X.env x = pure x := by intro _; rfl) :
    PS X (.Assign [.Name z pz] (.ListComp elt [⟨.Name x px, iter, ifs, 0⟩] sc pos) spos) (tAsg (tComp wi js tt te) (gName iz)) := by
  intro pins s σ H D I h
  rw [exec_Assign_Name_used _ _ _ _ hsw]
  refine wpAny_bind (wpAny_standAt (wpAny_bind ?_))
  show wpAny _ X.A (do let _ ← comprehension (.ListComp elt [⟨.Name x px, iter, ifs, 0⟩] sc pos) sc X.env _ (newList []) false (eval iter X.env) (some (assign (.Name z pz) X.env))) _ _ s
  refine wpAny_bind (wpAny_mono (comp_core (use := some (assign (.Name z pz) X.env)) (QQ := fun _ s' => SP X pins D .next s') ok hi ht he I h (fun d C H' s' I' q fc ⟨m, hn⟩ => ?_) hs) (fun _ s' hq => wpAny_pure (wpAny_pure hq)) fun _ _ e => e)
  obtain ⟨f0, f1, f2, f3, f4, f5⟩ := fc
  show wpAny _ _ (assign (.Name z pz) X.env (.ref d)) _ _ s'
  refine wpAny_assign_Name (store_ok2 I' hN hiz hz (v := .ref d) rfl (fun s2 I2 ⟨a, hsb, ha⟩ => ?_) hf)
  have hCa : C ≠ a := by
    rcases ha with rfl | ha
    · exact f1
    · exact fun e => f4 z a ha e.symm
  refine ⟨m, hn.sameBut hsb hCa, fun h' hs' => ⟨_, H', I2.turned (t' := s2.toks) (fun b o hb e => (hs'.2 b hb).trans e) f0 f1 f3 f4 f5, q⟩⟩
end L2

set_option Elab.async false
set_option linter.all false
set_option maxRecDepth 100000
namespace L2
open PySem PySem.Spec PyProof.Rows
/-! ### H. what seals tell: trees -/
inductive Tm where
  | int (i : Int) | str (x : Str) | nd (m : Str) (a b : Tm)
def Tm.dep : Tm → Nat
  | .nd _ a b => max a.dep b.dep + 1
  | _ => 0
/-- the three kinds; d the dict in which the third one numbers -/
inductive Sl where
  | plain | turned | num (d : Addr)
def Sl.d : Sl → Option Addr
  | .num d => some d
  | _ => none
def isT (S : Sl) (H : Hp) : Tm → V → Prop
  | .int i, v => v = .int i
  | .str x, v => v = .str x
  | .nd m a b, v => match S with
    | .plain => ∃ p va vb, v = .ref p ∧ H p = some (.tup [.str m, va, vb]) ∧ isT S H a va ∧ isT S H b vb
    | .turned => ∃ p va vb, v = .ref p ∧ H p = some (.tup [.str "seal of", vb, va, .str m]) ∧ isT S H a va ∧ isT S H b vb
    | .num d => ∃ kvs ka kb n, H d = some (.dT kvs) ∧ isT S H a (kV ka) ∧ isT S H b (kV kb) ∧ valV kvs [.inr m, ka, kb] = some (.int n) ∧ v = .int n
abbrev isTs (S : Sl) (H : Hp) : List Tm → List V → Prop := Paired (isT S H)
def imm : HO → Bool
  | .tup _ => true
  | .frz _ _ => true
  | .rng _ _ => true
  | _ => false
/-- its values are ints -/
def Ints (l : List (List Key × V)) : Prop := ∀ p ∈ l, ∃ i, p.2 = V.int i
theorem Ints.nil : Ints [] := fun _ h => nomatch h
theorem Ints.app {a b : List (List Key × V)} (x : Ints a) (y : Ints b) : Ints (a ++ b) := fun p hp => (List.mem_append.mp hp).elim (x p) (y p)
theorem Ints.val {l : List (List Key × V)} (x : Ints l) {k : List Key} {v : V} (h : valV l k = some v) : ∃ i, v = V.int i := by
  induction l with
  | nil => cases h
  | cons p r ih =>
    by_cases e : p.1 = k
    · rw [valV_pos e] at h; cases h; exact x p (by simp)
    · rw [valV_neg e] at h; exact ih (fun q hq => x q (by simp [hq])) h
/-- what never changes is kept; the numbering dict has grown by n at most -/
structure Gn (S : Sl) (n : Nat) (H H' : Hp) : Prop where
  keep : ∀ b o, H b = some o → imm o = true → H' b = some o
  told : ∀ d, S.d = some d → ∃ kvs more, H d = some (.dT kvs) ∧ H' d = some (.dT (kvs ++ more)) ∧ more.length ≤ n ∧ Ints more
/-- and all else is kept too -/
structure Gr (S : Sl) (n : Nat) (H H' : Hp) : Prop where
  gn : Gn S n H H'
  all : ∀ b o, H b = some o → S.d ≠ some b → H' b = some o
def Told (S : Sl) (H : Hp) : Prop := ∀ d, S.d = some d → ∃ kvs, H d = some (.dT kvs)
theorem Gn.told2 {S : Sl} {n : Nat} {H H' : Hp} (g : Gn S n H H') : Told S H' := fun d e => by obtain ⟨kvs, more, _, h, _, _⟩ := g.told d e; exact ⟨_, h⟩
theorem Gn.told1 {S : Sl} {n : Nat} {H H' : Hp} (g : Gn S n H H') : Told S H := fun d e => by obtain ⟨kvs, more, h, _, _, _⟩ := g.told d e; exact ⟨_, h⟩
theorem Gn.refl {S : Sl} {H : Hp} (t : Told S H) : Gn S 0 H H := ⟨fun _ _ h _ => h, fun d e => by obtain ⟨kvs, h⟩ := t d e; exact ⟨kvs, [], h, by simpa using h, Nat.le_refl _, .nil⟩⟩
theorem Gr.refl {S : Sl} {H : Hp} (t : Told S H) : Gr S 0 H H := ⟨.refl t, fun _ _ h _ => h⟩
theorem Gn.trans {S : Sl} {a b : Nat} {H H1 H2 : Hp} (g : Gn S a H H1) (g2 : Gn S b H1 H2) : Gn S (a + b) H H2 :=
  ⟨fun c o h i => g2.keep c o (g.keep c o h i) i, fun d e => by
    obtain ⟨kvs, more, h1, h2, h3, h4⟩ := g.told d e
    obtain ⟨kvs', more', h1', h2', h3', h4'⟩ := g2.told d e
    rw [h2] at h1'; cases h1'
    exact ⟨kvs, more ++ more', h1, by rw [h2', List.append_assoc], by rw [List.length_append]; omega, h4.app h4'⟩⟩
theorem Gr.trans {S : Sl} {a b : Nat} {H H1 H2 : Hp} (g : Gr S a H H1) (g2 : Gr S b H1 H2) : Gr S (a + b) H H2 := ⟨g.gn.trans g2.gn, fun c o h n => g2.all c o (g.all c o h n) n⟩
theorem Gn.up {S : Sl} {a b : Nat} {H H1 : Hp} (g : Gn S a H H1) (h : a ≤ b) : Gn S b H H1 := ⟨g.keep, fun d e => by obtain ⟨k, m, h1, h2, h3, h4⟩ := g.told d e; exact ⟨k, m, h1, h2, Nat.le_trans h3 h, h4⟩⟩
theorem Gr.up {S : Sl} {a b : Nat} {H H1 : Hp} (g : Gr S a H H1) (h : a ≤ b) : Gr S b H H1 := ⟨g.gn.up h, g.all⟩
theorem Gr.new {S : Sl} {H : Hp} {p : Addr} {o : HO} (t : Told S H) (h : H p = none) : Gr S 0 H (upd H p o) :=
  ⟨⟨fun b u q _ => by rw [upd_ne (ne_of_none q h)]; exact q, fun d e => by
    obtain ⟨kvs, q⟩ := t d e
    exact ⟨kvs, [], q, by rw [upd_ne (ne_of_none q h)]; simpa using q, Nat.le_refl _, .nil⟩⟩, fun b u q _ => by rw [upd_ne (ne_of_none q h)]; exact q⟩
/-- a list (an object of one's own) is changed -/
theorem Gn.chg {S : Sl} {H : Hp} {p : Addr} {o o' : HO} (t : Told S H) (h : H p = some o) (hi : imm o = false) (hd : ∀ kvs, o ≠ .dT kvs) : Gn S 0 H (upd H p o') :=
  ⟨fun b u q i => by
    rw [upd_ne (by rintro rfl; rw [h] at q; cases q; rw [hi] at i; cases i)]; exact q, fun d e => by
    obtain ⟨kvs, q⟩ := t d e
    exact ⟨kvs, [], q, by rw [upd_ne (by rintro rfl; rw [h] at q; exact hd _ (Option.some.inj q))]; simpa using q, Nat.le_refl _, .nil⟩⟩
/-- what is younger than H may be changed -/
theorem Gr.own {S : Sl} {n : Nat} {H H' : Hp} {p : Addr} {o : HO} (g : Gr S n H H') (h : H p = none) : Gr S n H (upd H' p o) :=
  ⟨⟨fun b u q i => by rw [upd_ne (ne_of_none q h)]; exact g.gn.keep b u q i, fun d e => by
    obtain ⟨kvs, more, h1, h2, h3, h4⟩ := g.gn.told d e
    exact ⟨kvs, more, h1, by rw [upd_ne (ne_of_none h1 h)]; exact h2, h3, h4⟩⟩, fun b u q hd => by rw [upd_ne (ne_of_none q h)]; exact g.all b u q hd⟩
theorem Gr.free {S : Sl} {n : Nat} {H H' : Hp} (g : Gr S n H H') {p : Addr} (h : H' p = none) : H p = none := by
  cases q : H p with
  | none => rfl
  | some o =>
    by_cases hd : S.d = some p
    · obtain ⟨kvs, more, h1, h2, _, _⟩ := g.gn.told p hd
      rw [h2] at h; cases h
    · rw [g.all p o q hd] at h; cases h
theorem Gr.lst {S : Sl} {n : Nat} {H H' : Hp} (g : Gr S n H H') {p : Addr} {xs : List V} (h : H p = some (.lst xs)) : H' p = some (.lst xs) := g.all p _ h fun e => by
  obtain ⟨kvs, more, h1, _, _, _⟩ := g.gn.told p e
  rw [h] at h1; cases h1
theorem Gr.same {S : Sl} {n : Nat} {H H' : Hp} (g : Gr S n H H') {p : Addr} {o : HO} (h : H p = some o) (hd : ∀ kvs, o ≠ .dT kvs) : H' p = some o := g.all p _ h fun e => by
  obtain ⟨kvs, more, h1, _, _, _⟩ := g.gn.told p e
  rw [h] at h1; exact hd _ (Option.some.inj h1)
theorem Gr.sq {S : Sl} {n : Nat} {H H' : Hp} (g : Gr S n H H') {K : PySem.W.Frag} {p : Addr} {xs : List V} (h : SqL K H p xs) : SqL K H' p xs := by
  rcases h with (h | ⟨o, h⟩) | h
  · exact .inl (.inl (g.lst h))
  · exact .inl (.inr ⟨o, g.same h (fun _ e => nomatch e)⟩)
  · exact .inr h
theorem valV_app {κ : Type} [DecidableEq κ] {kvs more : List (κ × V)} {k : κ} {v : V} (h : valV kvs k = some v) : valV (kvs ++ more) k = some v := by
  induction kvs with
  | nil => cases h
  | cons p r ih =>
    rw [List.cons_append]
    by_cases e : p.1 = k
    · rw [valV_pos e] at h ⊢; exact h
    · rw [valV_neg e] at h ⊢; exact ih h
theorem isT_up {S : Sl} {n : Nat} {H H' : Hp} (g : Gn S n H H') : ∀ {t : Tm} {v : V}, isT S H t v → isT S H' t v
  | .int _, _, h => h
  | .str _, _, h => h
  | .nd m a b, v, h => by
    cases S with
    | plain => obtain ⟨p, va, vb, e, hp, ha, hb⟩ := h; exact ⟨p, va, vb, e, g.keep _ _ hp rfl, isT_up g ha, isT_up g hb⟩
    | turned => obtain ⟨p, va, vb, e, hp, ha, hb⟩ := h; exact ⟨p, va, vb, e, g.keep _ _ hp rfl, isT_up g ha, isT_up g hb⟩
    | num d =>
      obtain ⟨kvs, ka, kb, n, hd, ha, hb, hv, e⟩ := h
      obtain ⟨kvs', more, h1, h2, _, _⟩ := g.told d rfl
      rw [hd] at h1; cases h1
      exact ⟨_, ka, kb, n, h2, isT_up g ha, isT_up g hb, valV_app hv, e⟩
theorem Paired.imp2 {α β : Type} {F G : α → β → Prop} (f : ∀ a b, F a b → G a b) : ∀ {l₁ : List α} {l₂ : List β}, Paired F l₁ l₂ → Paired G l₁ l₂
  | _, _, .nil => .nil
  | _, _, .cons r t => .cons (f _ _ r) (Paired.imp2 f t)
theorem isTs_up {S : Sl} {n : Nat} {H H' : Hp} (g : Gn S n H H') {ts : List Tm} {vs : List V} (h : isTs S H ts vs) : isTs S H' ts vs := Paired.imp2 (fun _ _ q => isT_up g q) h
theorem pr_len {α β : Type} {F : α → β → Prop} : ∀ {l₁ : List α} {l₂ : List β}, Paired F l₁ l₂ → l₁.length = l₂.length
  | _, _, .nil => rfl
  | _, _, .cons _ t => by simp [pr_len t]
theorem pr_take {α β : Type} {F : α → β → Prop} : ∀ {l₁ : List α} {l₂ : List β} (n : Nat), Paired F l₁ l₂ → Paired F (l₁.take n) (l₂.take n)
  | _, _, 0, _ => .nil
  | _, _, _ + 1, .nil => .nil
  | _, _, n + 1, .cons r t => .cons r (pr_take n t)
theorem pr_drop {α β : Type} {F : α → β → Prop} : ∀ {l₁ : List α} {l₂ : List β} (n : Nat), Paired F l₁ l₂ → Paired F (l₁.drop n) (l₂.drop n)
  | _, _, 0, r => r
  | _, _, _ + 1, .nil => .nil
  | _, _, n + 1, .cons _ t => pr_drop n t
theorem pr_app {α β : Type} {F : α → β → Prop} : ∀ {l₁ l₂ : List α} {m₁ m₂ : List β}, Paired F l₁ m₁ → Paired F l₂ m₂ → Paired F (l₁ ++ l₂) (m₁ ++ m₂)
  | _, _, _, _, .nil, s => s
  | _, _, _, _, .cons r t, s => .cons r (pr_app t s)
theorem pr_get {α β : Type} {F : α → β → Prop} : ∀ {l₁ : List α} {l₂ : List β} {i : Nat} {a : α} {b : β}, Paired F l₁ l₂ → l₁[i]? = some a → l₂[i]? = some b → F a b
  | _, _, 0, _, _, .cons r _, h1, h2 => by simp at h1 h2; subst h1 h2; exact r
  | _, _, i + 1, _, _, .cons _ t, h1, h2 => pr_get (i := i) t (by simpa using h1) (by simpa using h2)
theorem pr_get2 {α β : Type} {F : α → β → Prop} : ∀ {l₁ : List α} {l₂ : List β} {i : Nat} {b : β}, Paired F l₁ l₂ → l₂[i]? = some b → ∃ a, l₁[i]? = some a ∧ F a b
  | _, _, 0, _, .cons r _, h2 => by simp at h2; subst h2; exact ⟨_, rfl, r⟩
  | _, _, i + 1, _, .cons _ t, h2 => by
    obtain ⟨a, h1, h3⟩ := pr_get2 (i := i) t (by simpa using h2)
    exact ⟨a, by simpa using h1, h3⟩
theorem isT_fun {d : Addr} {H : Hp} : ∀ {t : Tm} {v v' : V}, isT (.num d) H t v → isT (.num d) H t v' → v = v'
  | .int _, _, _, h, h' => (show _ = _ from h).trans (show _ = _ from h').symm
  | .str _, _, _, h, h' => (show _ = _ from h).trans (show _ = _ from h').symm
  | .nd m a b, v, v', h, h' => by
    obtain ⟨kvs, ka, kb, n, hd, ha, hb, hv, e⟩ := h
    obtain ⟨kvs', ka', kb', n', hd', ha', hb', hv', e'⟩ := h'
    rw [hd] at hd'; cases hd'
    have e1 := kV_inj (isT_fun ha ha')
    have e2 := kV_inj (isT_fun hb hb')
    subst e1 e2
    rw [hv] at hv'; cases hv'
    rw [e, e']
theorem isT_key {d : Addr} {H : Hp} : ∀ {t : Tm} {v : V}, isT (.num d) H t v → ∃ k, v = kV k
  | .int i, _, h => ⟨.inl i, h⟩
  | .str x, _, h => ⟨.inr x, h⟩
  | .nd m a b, v, h => by
    obtain ⟨kvs, ka, kb, n, hd, ha, hb, hv, e⟩ := h
    exact ⟨.inl n, e⟩
theorem flat_key (k : Key) : flatV (kV k) = true := by cases k <;> rfl
theorem isT_eq {S : Sl} {H : Hp} : ∀ {t : Tm} {v v' : V}, isT S H t v → isT S H t v' → EqV H t.dep v v'
  | .int _, _, _, h, h' => by cases (show _ = _ from h); cases (show _ = _ from h'); exact EqV.flat rfl _
  | .str _, _, _, h, h' => by cases (show _ = _ from h); cases (show _ = _ from h'); exact EqV.flat rfl _
  | .nd m a b, v, v', h, h' => by
    cases S with
    | num d =>
      have e := isT_fun h h'
      subst e
      obtain ⟨k, rfl⟩ := isT_key h
      exact EqV.flat (flat_key k) _
    | plain =>
      obtain ⟨p, va, vb, rfl, hp, ha, hb⟩ := h
      obtain ⟨p', va', vb', rfl, hp', ha', hb'⟩ := h'
      refine .inr ⟨p, p', _, _, rfl, rfl, hp, hp', rfl, fun i u v h1 h2 => ?_⟩
      match i, h1, h2 with
      | 0, h1, h2 => simp at h1 h2; subst h1 h2; exact EqV.flat rfl _
      | 1, h1, h2 => simp at h1 h2; subst h1 h2; exact EqV.up (Nat.le_max_left _ _) (isT_eq ha ha')
      | 2, h1, h2 => simp at h1 h2; subst h1 h2; exact EqV.up (Nat.le_max_right _ _) (isT_eq hb hb')
      | i + 3, h1, h2 => simp at h1
    | turned =>
      obtain ⟨p, va, vb, rfl, hp, ha, hb⟩ := h
      obtain ⟨p', va', vb', rfl, hp', ha', hb'⟩ := h'
      refine .inr ⟨p, p', _, _, rfl, rfl, hp, hp', rfl, fun i u v h1 h2 => ?_⟩
      match i, h1, h2 with
      | 0, h1, h2 => simp at h1 h2; subst h1 h2; exact EqV.flat rfl _
      | 1, h1, h2 => simp at h1 h2; subst h1 h2; exact EqV.up (Nat.le_max_right _ _) (isT_eq hb hb')
      | 2, h1, h2 => simp at h1 h2; subst h1 h2; exact EqV.up (Nat.le_max_left _ _) (isT_eq ha ha')
      | 3, h1, h2 => simp at h1 h2; subst h1 h2; exact EqV.flat rfl _
      | i + 4, h1, h2 => simp at h1
/-- two rows of the same trees -/
theorem isTs_eq {S : Sl} {H : Hp} {ts : List Tm} {vs vs' : List V} {n : Nat} (h : isTs S H ts vs) (h' : isTs S H ts vs') (hn : ∀ t ∈ ts, t.dep ≤ n) : vs.length = vs'.length ∧ ∀ (i : Nat) u v, vs[i]? = some u → vs'[i]? = some v → EqV H n u v := by
  refine ⟨by rw [← pr_len h, ← pr_len h'], fun i u v h1 h2 => ?_⟩
  obtain ⟨t, e1, q1⟩ := pr_get2 h h1
  obtain ⟨t', e2, q2⟩ := pr_get2 h' h2
  rw [e1] at e2; cases e2
  exact EqV.up (hn t (List.mem_of_getElem? e1)) (isT_eq q1 q2)
/-- room in the numbering dict -/
def Cap (S : Sl) (H : Hp) (n : Nat) : Prop := ∀ d kvs, S.d = some d → H d = some (.dT kvs) → kvs.length + n ≤ 10000000
theorem Cap.dn {S : Sl} {H : Hp} {a b : Nat} (c : Cap S H a) (h : b ≤ a) : Cap S H b := fun d kvs e q => Nat.le_trans (Nat.add_le_add_left h _) (c d kvs e q)
theorem Cap.go {S : Sl} {H H' : Hp} {a b n : Nat} (c : Cap S H n) (g : Gn S a H H') (h : a + b ≤ n) : Cap S H' b := fun d kvs e q => by
  obtain ⟨k, m, h1, h2, h3, _⟩ := g.told d e
  rw [h2] at q; cases q
  have := c d k e h1
  rw [List.length_append]; omega
abbrev nlT : Tm := .nd "none" (.int 0) (.int 0)
abbrev prT : Tm → Tm → Tm := .nd "pair"
abbrev tpT : List Tm → Tm := Gb.topT nlT prT
abbrev gwT : List Tm → Nat → List Tm := Gb.growT nlT prT
abbrev paT : List Tm → Nat → List Tm := Gb.pathT nlT prT
theorem tp_dep : ∀ (n : Nat) (ts : List Tm) (B : Nat), ts.length ≤ n → (∀ t ∈ ts, t.dep ≤ B) → (tpT ts).dep ≤ B + n + 1
  | n, [], B, _, _ => by show (Gb.topT nlT prT []).dep ≤ _; rw [Gb.topT_nil]; simp [Tm.dep]
  | n, [t], B, _, h => by show (Gb.topT nlT prT [t]).dep ≤ _; rw [Gb.topT_one]; have := h t (by simp); omega
  | 0, a :: b :: r, B, hl, _ => by simp at hl
  | n + 1, a :: b :: r, B, hl, h => by
    generalize hts : a :: b :: r = ts at hl h ⊢
    have h2 : 2 ≤ ts.length := by rw [← hts]; simp
    have e := Gb.topT_more nlT prT h2
    have x1 := Gb.spl_lt h2
    have x2 := Gb.spl_pos ts.length
    show (Gb.topT nlT prT ts).dep ≤ _
    rw [e]
    have i1 := tp_dep n (ts.take (Gb.spl ts.length)) B (by simp; omega) fun t ht => h t (List.mem_of_mem_take ht)
    have i2 := tp_dep n (ts.drop (Gb.spl ts.length)) B (by simp; omega) fun t ht => h t (List.mem_of_mem_drop ht)
    show max _ _ + 1 ≤ _
    have i1' : (Gb.topT nlT prT (ts.take (Gb.spl ts.length))).dep ≤ B + n + 1 := i1
    have i2' : (Gb.topT nlT prT (ts.drop (Gb.spl ts.length))).dep ≤ B + n + 1 := i2
    omega
theorem gw_dep : ∀ (n : Nat) (ts : List Tm) (old B : Nat), ts.length ≤ n → (∀ t ∈ ts, t.dep ≤ B) → ∀ t ∈ gwT ts old, t.dep ≤ B + n + 1
  | n, ts, old, B, hl, h => by
    intro t ht
    have ht : t ∈ Gb.growT nlT prT ts old := ht
    by_cases h0 : old = 0
    · subst h0; rw [Gb.growT_zero] at ht; cases ht
    by_cases h1 : ts.length ≤ old
    · rw [Gb.growT_all nlT prT h0 h1] at ht
      rw [List.mem_singleton.mp ht]; exact tp_dep n ts B hl h
    have h2 : 2 ≤ ts.length := by omega
    have x1 := Gb.spl_lt h2
    have x2 := Gb.spl_pos ts.length
    cases n with
    | zero => omega
    | succ n =>
      have a1 := fun t ht => h t (List.mem_of_mem_take (i := Gb.spl ts.length) ht)
      have a2 := fun t ht => h t (List.mem_of_mem_drop (i := Gb.spl ts.length) ht)
      by_cases h3 : old ≤ Gb.spl ts.length
      · rw [Gb.growT_low nlT prT h0 (by omega) h3] at ht
        rcases List.mem_append.mp ht with ht | ht
        · have := gw_dep n _ old B (by simp; omega) a1 t ht; omega
        · rw [List.mem_singleton.mp ht]; have := tp_dep n (ts.drop (Gb.spl ts.length)) B (by simp; omega) a2
          have this : (Gb.topT nlT prT (ts.drop (Gb.spl ts.length))).dep ≤ B + n + 1 := this
          omega
      · rw [Gb.growT_high nlT prT h0 (by omega) h3] at ht
        rcases List.mem_append.mp ht with ht | ht
        · have := gw_dep n _ (old - Gb.spl ts.length) B (by simp; omega) a2 t ht; omega
        · rw [List.mem_singleton.mp ht]; have := tp_dep n (ts.take (Gb.spl ts.length)) B (by simp; omega) a1
          have this : (Gb.topT nlT prT (ts.take (Gb.spl ts.length))).dep ≤ B + n + 1 := this
          omega
end L2

set_option Elab.async false
set_option linter.all false
set_option maxRecDepth 100000
namespace L2
open PySem PySem.Spec PyProof.Rows
/-! ### I. promises by name -/
def FunAt (K : PySem.W.Frag) (mg : Str → Option Value) (x : Str) (st : Stmt) : Prop := ∃ f fd, mg x = some (.ref f) ∧ Fun K x x st f fd
theorem funAt_mk {K : PySem.W.Frag} {mg : Str → Option Value} {h : Heap} {x : Str} {st : Stmt} (X : K.In h) (G : h.Ns mainGlobals mg) {f : Addr} {oc : Value} {od an : Option Addr} {osl : Array (Option Value)} {kV doc pm cdv ct : Value}
    (a : PySem.W.nsIn K mainGlobals x = some (some (.ref f))) (l : K.lookup f = some ⟨oc, od, .func (PySem.W.fnOf x x (defArgs st) (defBody st) (defScope st) .none kV doc pm an cdv ct), osl⟩)
    (c : PySem.W.codeIn K cdv x = true) (k : PySem.W.keepIn K (.ref f) = true) : FunAt K mg x st := ⟨f, _, PySem.W.mg_of X G a, fun_mk l c k⟩
/-- what the def of that name promises -/
def FnP (P : Program) (w : World) (K : PySem.W.Frag) (mg : Str → Option Value) (base : Heap) (k : Nat) (x : Str) (ps : List Str) (sp : Sp) : Prop :=
  ∃ f fd, mg x = some (.ref f) ∧ PySem.W.keepIn K (.ref f) = true ∧ Binds K fd ps [] ∧ FnOk P w K mg base CX0 k f fd ps sp ∧ ∃ oc od sl, K.lookup f = some ⟨oc, od, .func fd, sl⟩
section
variable {P : Program} {w : World} {K : PySem.W.Frag} {mg : Str → Option Value} {base : Heap}
theorem FnP.mono {j k : Nat} {x : Str} {ps : List Str} {sp : Sp} (F : FnP P w K mg base j x ps sp) (h : j ≤ k) : FnP P w K mg base k x ps sp := by
  obtain ⟨f, fd, h1, h2, h3, h4, h5⟩ := F
  exact ⟨f, fd, h1, h2, h3, h4.mono h, h5⟩
theorem FunAt.ok {x : Str} {st : Stmt} {N ps : List Str} {k : Nat} {sp : Sp} (F : FunAt K mg x st) (S : FnScope N ps (defScope st))
    (hb : ∀ (kV doc pm : Value) (an : Option Addr) (cdv ct : Value) (us : List Value), us.length = ps.length → bindArgs (PySem.W.fnOf x x (defArgs st) (defBody st) (defScope st) .none kV doc pm an cdv ct) ⟨us, []⟩ = pure (ps.zip us))
    (len : ∀ vs H Q E, sp vs H Q E → vs.length = ps.length)
    (hbody : ∀ (f : Addr) (cdv : Value) (A : Around) (outer : List Env) (s : Shared) (H : Hp) (vs : List V) (Q : VK) (E : XK), Room k (A.deeper (envOfC x (defScope st) s.heap.objs.size f cdv)) → sp vs H Q E →
      ∃ t, PSs (cxOf CX0 P w K mg base N x (defScope st) f cdv A outer s H E).nox (defBody st) t ∧ t { nx := fun _ H' => Q .non H', rt := Q } (start N vs) H) : FnP P w K mg base (k + 1) x ps sp := by
  obtain ⟨f, fd, h1, F⟩ := F
  refine ⟨f, fd, h1, F.kp, F.binds hb, F.ok S len fun cdv A outer s H vs Q E => hbody f cdv A outer s H vs Q E, ?_⟩
  obtain ⟨oc, od, kV, doc, pm, an, cdv, ct, osl, rfl, lk, hcd⟩ := F.ex
  exact ⟨_, _, _, lk⟩
end
section
variable {X : Cx} {k : Nat} {ps : List Str} {sp : Sp} {x : Str} {p pos : Pos} {e : Expr} {es : List Expr} {t : TA}
theorem pe_callN (F : FnP X.prog X.w X.K X.mg X.base k x ps sp) (hr : Room k X.A) (hg : Gl X x) (ha : PA X (e :: es) t) (hdb : (x == ("__debug__" : Str)) = false := by decide)
    (he : starEach (e :: es) X.env = (false, eval e X.env) :: starEach es X.env := by rfl) (hpl : (backTo pos (starEach es X.env)).any (·.1) = false := by rfl) : PE X (.Call (.Name x p) (e :: es) [] pos) (tCall sp [] E0 t) := by
  obtain ⟨f, fd, h1, h2, h3, h4, _⟩ := F
  exact pe_call h4 hr hg h1 h2 h3 .nil pass0 ha hdb he hpl
theorem pe_callN0 (F : FnP X.prog X.w X.K X.mg X.base k x ps sp) (hr : Room k X.A) (hg : Gl X x) (hdb : (x == ("__debug__" : Str)) = false := by decide) : PE X (.Call (.Name x p) [] [] pos) (tCall sp [] E0 tNil) := by
  obtain ⟨f, fd, h1, h2, h3, h4, _⟩ := F
  exact pe_call0 h4 hr hg h1 h2 h3 .nil pass0 hdb
end

/-- a built-in type, as a value -/
theorem pe_ty {X : Cx} {x : Str} {T : String} {pos : Pos} (hg : Gl X x) (hm : X.mg x = none) (hv : bootBuiltins x = some (.type T)) (hn : x ≠ "__name__" := by decide) (hd : (x == ("__debug__" : Str)) = false := by decide) : PE X (.Name x pos) (tC (.ty T)) :=
  pe_bltn (v := .ty T) hg hm hv rfl hn hd
/-! ### J. the three seals -/
/-- which seal stands at f; st: the inner def of the numbering one -/
def SealAt (K : PySem.W.Frag) (mg : Str → Option Value) (st : Stmt) (S : Sl) (H : Hp) (f : Addr) : Prop := match S with
  | .plain => mg "_law_plain" = some (.ref f) ∧ ∃ oc od fd sl, K.lookup f = some ⟨oc, od, .func fd, sl⟩
  | .turned => mg "_law_turned" = some (.ref f) ∧ ∃ oc od fd sl, K.lookup f = some ⟨oc, od, .func fd, sl⟩
  | .num d => ∃ (c c' : Addr) (doc pm ct : Value) (ob co : Obj) (cvs : Array Value) (tk : Tok) (kvs : List (List Key × V)),
      H f = some (.frz (PySem.W.fnMade "_law_numbered" "_law_numbering.<locals>._law_numbered" (defArgs st) (defBody st) (defScope st) [("_law_told", c)] doc pm c' ct) (.own 0)) ∧
      H c' = some (.frz ob (.own 0)) ∧ ob.data = .fields cvs ∧ cvs[1]? = some (.str "_law_numbering.<locals>._law_numbered" tk) ∧ H c = some (.frz co (.own 0)) ∧ co.data = .cell (some (.ref d)) ∧ H d = some (.dT kvs) ∧ Ints kvs
section
variable {K : PySem.W.Frag} {mg : Str → Option Value} {st : Stmt} {S : Sl} {H H' : Hp} {f : Addr}
theorem SealAt.told (h : SealAt K mg st S H f) : Told S H := fun d e => by
  cases S with
  | plain => cases e
  | turned => cases e
  | num d' =>
    obtain rfl : d' = d := Option.some.inj e
    obtain ⟨c, c', doc, pm, ct, ob, co, cvs, tk, kvs, _, _, _, _, _, _, h, _⟩ := h
    exact ⟨kvs, h⟩
theorem SealAt.up {n : Nat} (h : SealAt K mg st S H f) (g : Gn S n H H') : SealAt K mg st S H' f := by
  cases S with
  | plain => exact h
  | turned => exact h
  | num d =>
    obtain ⟨c, c', doc, pm, ct, ob, co, cvs, tk, kvs, h1, h2, h3, h4, h5, h6, h7, h8⟩ := h
    obtain ⟨k, m, e1, e2, _, e4⟩ := g.told d rfl
    rw [h7] at e1; cases e1
    exact ⟨c, c', doc, pm, ct, ob, co, cvs, tk, _, g.keep _ _ h1 rfl, g.keep _ _ h2 rfl, h3, h4, g.keep _ _ h5 rfl, h6, e2, h8.app e4⟩
theorem SealAt.fny (h : SealAt K mg st S H f) : Fny K H f := by
  cases S with
  | plain => exact .inl h.2
  | turned => exact .inl h.2
  | num d =>
    obtain ⟨c, c', doc, pm, ct, ob, co, cvs, tk, kvs, h1, _⟩ := h
    exact .inr ⟨_, _, _, _, _, h1⟩
end
/-- seal(mark, one, two) -/
def spSeal (K : PySem.W.Frag) (mg : Str → Option Value) (st : Stmt) : Addr → Sp := fun f vs H Q _ => ∃ S m t1 t2 v1 v2, SealAt K mg st S H f ∧ Cap S H 1 ∧ vs = [.str m, v1, v2] ∧ isT S H t1 v1 ∧ isT S H t2 v2 ∧
  ∀ v H', Gr S 1 H H' → isT S H' (.nd m t1 t2) v → Q v H'
def spPlain : Sp := fun vs H Q _ => ∃ m v1 v2, vs = [.str m, v1, v2] ∧ ∀ p, H p = none → Q (.ref p) (upd H p (.tup [.str m, v1, v2]))
def spTurned : Sp := fun vs H Q _ => ∃ m v1 v2, vs = [.str m, v1, v2] ∧ ∀ p, H p = none → Q (.ref p) (upd H p (.tup [.str "seal of", v2, v1, .str m]))
abbrev mot : List Str := ["_law_mark", "_law_one", "_law_two"]
theorem vals3 {x y z : V} {us : List Value} (r : Vals [x, y, z] us) : ∃ a b c, us = [a, b, c] := by
  cases r with
  | cons _ r => cases r with
    | cons _ r => cases r with
      | cons _ r => cases r; exact ⟨_, _, _, rfl⟩
end L2

set_option Elab.async false
set_option linter.all false
set_option maxRecDepth 100000
namespace L2
open PySem PySem.Spec PyProof.Rows
/-! ### K. the head, with the table of one def's code in sight -/
def BmAt (mg : Str → Option Value) (h : Heap) : Prop := ∃ bm ob, mg "__builtins__" = some (.ref bm) ∧ bm ≠ builtinsNs ∧ h.get? bm = some ob ∧ ob.cls = .type "module" ∧ ob.dict = some builtinsNs ∧ ob.data = .plain
theorem Scr.sq {K : PySem.W.Frag} {H : Hp} {a : Addr} {xs : List V} (h : Scr K H a xs) (hz : ∀ o u, H a = some (.frz o u) → u = .lst xs) : SqL K H a xs := by
  obtain ⟨its, n, r, z, h | h⟩ := h
  · obtain ⟨u, h⟩ := h
    have e := hz _ _ h
    subst e
    exact .inl (.inr ⟨_, h⟩)
  · refine .inr ⟨_, its.toArray, n, h, rfl, rfl, rfl, ?_, by simpa using r⟩
    have := r.length
    simp; omega
theorem law_callT {P : Program} {w : World} {K : PySem.W.Frag} {mg mb : Str → Option Value} {k : Nat} {fa a c0 Pt : Addr} {fd : FuncData} {x : Str} {sp : Sp} {s₁ : Shared} {vs : List Value} {ns : List Int}
    (KX : K.In s₁.heap) (hns : s₁.heap.Ns mainGlobals mg) (hb : s₁.heap.Ns builtinsNs mb) (hbb : ∀ x : Str, x ≠ "__name__" → mb x = bootBuiltins x) (hlim : s₁.heap.NoLimit) (hg : s₁.gens = #[])
    (ha : s₁.heap.get? a = some { cls := .type "list", data := .seq vs.toArray }) (hi : IntsAre vs ns) (hl : ns.length ≤ sizeLine) (hr : Room k callerA)
    (hC : PySem.W.CodeHd s₁.heap c0 Pt) (hT : s₁.heap.get? Pt = some (PySem.W.tabObj #[])) (hnt : PySem.W.noTabs K = true) (hbm : BmAt mg s₁.heap)
    (F : ∀ base : Heap, K.In base → base.Ns mainGlobals mg → PySem.W.CodeHd base c0 Pt → BmAt mg base → FnOk P w K mg base CX0 k fa fd [x] sp) (hbind : ∀ (s : Shared) (u : Value), BindsTo s fd ⟨[u], []⟩ [(x, u)])
    (hsp : ∀ H : Hp, SqL K H a (ns.map V.int) → Scr K H a (ns.map V.int) → H Pt = some (.tbl #[]) → sp [.ref a] H (fun v _ => v = .bl true) fun _ _ _ => False) :
    codeAny (model P w) callerA (.call (.ref fa) ⟨[.ref a], []⟩) (fun r s' => r = .ok (.ret (.bool true)) ∧ OldK s₁.heap s'.heap ∧ s'.os = s₁.os ∧ AllBare s'.gens) s₁ := by
  have rv := vals_ints hi
  have lenV := hi.length
  have hKP : K.lookup Pt = none := by
    cases q : K.lookup Pt with
    | none => rfl
    | some o =>
      have e := KX _ _ q
      rw [hT] at e; cases e
      have h2 := List.all_eq_true.mp hnt (Pt, PySem.W.tabObj #[]) (PySem.W.mem_of_lookupK q)
      exact absurd (show false = true from h2) Bool.false_ne_true
  have haP : a ≠ Pt := by rintro rfl; rw [hT] at ha; cases ha
  have core : ∀ H : Hp, SqL K H a (ns.map V.int) → Scr K H a (ns.map V.int) → H Pt = some (.tbl #[]) → HOk P w H s₁.heap → (∀ b, H b ≠ none → b = Pt ∨ (b = a ∧ K.lookup a = none ∧ ∃ o xs, H b = some (.frz o (.lst xs)))) →
      codeAny (model P w) callerA (.call (.ref fa) ⟨[.ref a], []⟩) (fun r s' => r = .ok (.ret (.bool true)) ∧ OldK s₁.heap s'.heap ∧ s'.os = s₁.os ∧ AllBare s'.gens) s₁ := by
    intro H hS hScr hP hok hA
    have base_of : ∀ {b : Addr} {o : Obj}, s₁.heap.get? b = some o → H b = none → (hidT s₁.heap H).get? b = some o := fun e n => hidT_get e n
    have noT : ∀ {b : Addr} {o : Obj}, s₁.heap.get? b = some o → o.cls ≠ .none → o.cls ≠ .type "list" → H b = none := fun {b o} e d1 d2 => by
      cases q : H b with
      | none => rfl
      | some u =>
        rcases hA b (by rw [q]; simp) with z | ⟨z, _⟩
        · subst z; rw [hT] at e; cases e; exact absurd rfl d1
        · subst z; rw [ha] at e; cases e; exact absurd rfl d2
    have noA : ∀ {b : Addr} {o : Obj} {es : Array DictEntry} {ep : Nat}, s₁.heap.get? b = some o → o.data = .dict es ep → H b = none := fun {b o es ep} e d => by
      cases q : H b with
      | none => rfl
      | some u =>
        rcases hA b (by rw [q]; simp) with z | ⟨z, _⟩
        · subst z; rw [hT] at e; cases e; cases d
        · subst z; rw [ha] at e; cases e
          have d' : Data.seq vs.toArray _ = Data.dict es ep := d
          cases d'
    have nsK : ∀ {b : Addr} {m : Str → Option Value}, s₁.heap.Ns b m → (hidT s₁.heap H).Ns b m := fun {b m} ⟨o, es, ep, e, d, r⟩ => ⟨o, es, ep, base_of e (noA e d), d, r⟩
    have hKb : K.In (hidT s₁.heap H) := fun b o e => base_of (KX b o e) (by
      cases q : H b with
      | none => rfl
      | some u =>
        rcases hA b (by rw [q]; simp) with z | ⟨z, z2, _⟩
        · subst z; rw [hKP] at e; cases e
        · subst z; rw [z2] at e; cases e)
    have hCb : PySem.W.CodeHd (hidT s₁.heap H) c0 Pt := by
      obtain ⟨o, vs', file, tf, flags, tg, inF, text, tt, e1, r1, r⟩ := hC
      exact ⟨o, vs', file, tf, flags, tg, inF, text, tt, base_of e1 (noT e1 (by rw [r1]; nofun) (by rw [r1]; decide)), r1, r⟩
    have hBb : BmAt mg (hidT s₁.heap H) := by
      obtain ⟨bm, ob, b1, b2, b3, b4, r⟩ := hbm
      exact ⟨bm, ob, b1, b2, base_of b3 (noT b3 (by rw [b4]; nofun) (by rw [b4]; decide)), b4, r⟩
    have hM : Mod K mg (hidT s₁.heap H) := ⟨hKb, nsK hns, ⟨mb, nsK hb, hbb⟩, let ⟨mc, h1, h2⟩ := hlim; ⟨mc, nsK h1, h2⟩⟩
    have e0 : Env0 P w K mg (hidT s₁.heap H) callerA [] s₁ H := ⟨rfl, hM, fun b o e => of_hidT e, Nat.le_of_eq (hidT_size _ _), trivial, fun b hb => absurd (show b ∈ ([] : List Addr) from hb) (by simp), hok, .of_eq hg⟩
    refine codeAny_mono ((F _ hKb (nsK hns) hCb hBb).run callerA [] s₁ H ⟨[.ref a], []⟩ [.ref a] [.ref a] _ _ hr e0 (hbind s₁ (.ref a)) (.cons rfl .nil) (hsp H hS hScr hP)) fun r s' h => ?_
    cases r with
    | error e => exact (show False from h).elim
    | ok fl =>
      cases fl with
      | next => exact False.elim h
      | brk => exact False.elim h
      | cont => exact False.elim h
      | ret u =>
        obtain ⟨v, H', os, bare, un, hok', r', q⟩ := h
        have q' : v = .bl true := q
        subst q'
        obtain rfl : u = Value.bool true := r'
        have kp : ∀ b o, s₁.heap.get? b = some o → b ≠ Pt → s'.heap.get? b = some o := fun b o e hbP => by
          cases q : H b with
          | none => exact un.keep b o e q (by intro z; exact absurd (show b ∈ ([] : List Addr) from z) (by simp)) (by simp)
          | some u =>
            rcases hA b (by rw [q]; simp) with z | ⟨z, _, ob, xs, z2⟩
            · exact absurd z hbP
            · have z3 := un.frzs b ob _ z2
              obtain ⟨e1, _⟩ := hok b _ z2
              obtain ⟨e2, _⟩ := hok' b _ z3
              rw [e] at e1; cases e1
              exact e2
        obtain ⟨more, hm⟩ := un.tbls Pt #[] hP
        have hP' : s'.heap.get? Pt = some (PySem.W.tabObj (#[] ++ more)) := hok' _ _ hm
        refine ⟨rfl, ⟨fun b o e => ?_, fun b o e => ?_⟩, os, bare⟩
        · by_cases hbP : b = Pt
          · subst hbP
            rw [hT] at e; cases e
            exact .inr (.inl ⟨(hC.tab hT).isCodeTable, rfl, #[], more, rfl, hP'⟩)
          · exact .inl (kp b o e hbP)
        · by_cases hbP : b = Pt
          · subst hbP; exact ⟨_, hP'⟩
          · exact ⟨o, kp b o e hbP⟩
  cases hk : K.lookup a with
  | some o =>
    have e := KX a o hk
    rw [ha] at e
    cases e
    refine core (fun b => if b = Pt then some (.tbl #[]) else none) (.inr ⟨_, vs.toArray, _, hk, rfl, rfl, rfl, by rw [List.size_toArray, lenV]; exact hl, by simpa using rv⟩)
      ⟨vs, _, rv, by rw [List.length_map]; exact hl, .inr hk⟩ (if_pos rfl) (fun b u z => ?_) (fun b z => ?_)
    · by_cases hb : b = Pt
      · have z' := (if_pos hb).symm.trans z
        cases z'; subst hb; exact hT
      · have z' := (if_neg hb).symm.trans z
        cases z'
    · by_cases hb : b = Pt
      · exact .inl hb
      · exact absurd (if_neg hb) z
  | none =>
    have eH : (fun b => if b = Pt then some (.tbl #[]) else if b = a then some (.frz { cls := .type "list", data := .seq vs.toArray } (.lst (ns.map V.int))) else none : Hp) a = some (.frz { cls := .type "list", data := .seq vs.toArray } (.lst (ns.map V.int))) := by
      show (if a = Pt then _ else if a = a then _ else _) = _
      rw [if_neg haP, if_pos rfl]
    refine core (fun b => if b = Pt then some (.tbl #[]) else if b = a then some (.frz { cls := .type "list", data := .seq vs.toArray } (.lst (ns.map V.int))) else none) (.inl (.inr ⟨{ cls := .type "list", data := .seq vs.toArray }, eH⟩))
      ⟨vs, _, rv, by rw [List.length_map]; exact hl, .inl ⟨_, eH⟩⟩ (if_pos rfl) (fun b u z => ?_) (fun b z => ?_)
    · by_cases hb : b = Pt
      · have z' := (if_pos hb).symm.trans z
        cases z'; subst hb; exact hT
      · have z1 := (if_neg hb).symm.trans z
        by_cases hb2 : b = a
        · have z2 := (if_pos hb2).symm.trans z1
          cases z2
          subst hb2
          exact ⟨ha, by rw [List.length_map]; exact hl, vs, _, rv, ha⟩
        · have z2 := (if_neg hb2).symm.trans z1
          cases z2
    · by_cases hb : b = Pt
      · exact .inl hb
      · by_cases hb2 : b = a
        · exact .inr ⟨hb2, hk, _, _, by rw [if_neg hb, if_pos hb2]⟩
        · exact absurd (by rw [if_neg hb, if_neg hb2]) z
/-- the goal that k_head leaves, from the law's promise; xn: the def whose table is in sight -/
theorem walk_ofT {l : PySem.W.OpenLaw} {n k : Nat} {q : Program} {loose : List Str} {XP : (Str → Option Value) → Heap → Prop} {YP : World → Heap → Prop} {d dt : DefRec} {K : Params → PySem.W.Frag} {sp : PySem.W.Frag → (Str → Option Value) → Addr → Sp} {x xn : Str} {c0 Pt : Addr}
    (hn : l.most = some n) (hn2 : n ≤ sizeLine) (hdf : d.params.defaults = []) (hr : Room k callerA)
    (hY : ∀ (w : World) (h : Heap), YP w h → (K w.params).In h) (hrec : (recsOf q).find? (fun e => e.name == xn) = some dt)
    (ht : ∀ w : World, PySem.W.tabIn (K w.params) xn = some (c0, Pt)) (hnt : ∀ w : World, PySem.W.noTabs (K w.params) = true)
    (F : ∀ (w : World) (mg : Str → Option Value) (fa : Addr) (h : Heap), (K w.params).In h → h.Ns mainGlobals mg → mg d.name = some (.ref fa) → PySem.W.tabIn (K w.params) xn = some (c0, Pt) →
      ∃ fd : FuncData, (∀ (s : Shared) (u : Value), BindsTo s fd ⟨[u], []⟩ [(x, u)]) ∧
        ∀ base : Heap, (K w.params).In base → base.Ns mainGlobals mg → PySem.W.CodeHd base c0 Pt → BmAt mg base → FnOk l.prog w (K w.params) mg base CX0 k fa fd [x] (sp (K w.params) mg Pt))
    (hsp : ∀ (K : PySem.W.Frag) (mg : Str → Option Value) (Pt : Addr) (H : Hp) (a : Addr) (ns : List Int), ns.length ≤ n → SqL K H a (ns.map V.int) → Scr K H a (ns.map V.int) → H Pt = some (.tbl #[]) → sp K mg Pt [.ref a] H (fun v _ => v = .bl true) fun _ _ _ => False) :
    PySem.W.WalkO q loose XP YP l.row.toRowW d [] (fun f vs => PySem.call f vs) := by
  refine Att.attach_call hn hdf fun w s₀ s₁ mg mb fa o pm cd doc a vs ns G Y ho hd hcd hmg hobj hints hlen hg => ?_
  have KX := hY w _ Y
  obtain ⟨fd, hb, hF⟩ := F w mg fa _ KX G.T.g hmg (ht w)
  obtain ⟨hC, hT⟩ := PySem.W.tab_of G.T KX hrec (ht w)
  exact law_callT KX G.T.g G.T.b G.T.builtins G.T.nolimit hg hobj hints (Nat.le_trans hlen hn2) hr hC hT (hnt w) G.T.bmain hF hb fun H hS hScr hP => hsp _ mg _ H a ns hlen hS hScr hP
end L2
namespace L2
open PySem PySem.Spec PyProof.Rows
/-- the law's own promise, as walk_ofT wants it -/
theorem law_fn {P : Program} {w : World} {K : PySem.W.Frag} {mg : Str → Option Value} {c0 Pt : Addr} {k : Nat} {sp : Sp} {x name : Str} {ps : List Str} {st : Stmt} {fa : Addr} (hmg : mg name = some (.ref fa)) (F : FunAt K mg name st)
    (h : ∀ base : Heap, K.In base → base.Ns mainGlobals mg → PySem.W.CodeHd base c0 Pt → BmAt mg base → FnP P w K mg base k name ps sp)
    (hps : ps = [x] := by rfl) (hbind : ∀ (kV doc pm : Value) (an : Option Addr) (cdv ct u : Value), bindArgs (PySem.W.fnOf name name (defArgs st) (defBody st) (defScope st) .none kV doc pm an cdv ct) ⟨[u], []⟩ = pure [(x, u)] := by intros; rfl) :
    ∃ fd : FuncData, (∀ (s : Shared) (u : Value), BindsTo s fd ⟨[u], []⟩ [(x, u)]) ∧ ∀ base : Heap, K.In base → base.Ns mainGlobals mg → PySem.W.CodeHd base c0 Pt → BmAt mg base → FnOk P w K mg base CX0 k fa fd [x] sp := by
  subst hps
  obtain ⟨f, fd, h1, F⟩ := F
  have e := hmg.symm.trans h1
  cases e
  obtain ⟨oc, od, kV, doc, pm, an, cdv, ct, osl, rfl, lk, hcd⟩ := F.ex
  refine ⟨_, fun s u => .of_eq (hbind kV doc pm an cdv ct u), fun base kb nb hC hB => ?_⟩
  obtain ⟨f', fd', h1', h2', h3', h4', oc2, od2, sl2, lk2⟩ := h base kb nb hC hB
  have e := h1.symm.trans h1'
  cases e
  rw [lk] at lk2
  cases lk2
  exact h4'
end L2
namespace L2
open PySem PySem.Spec PyProof.Rows
theorem tabIn_mk {K : PySem.W.Frag} {x : Str} {f c P : Addr} {oc o1 : Value} {od o2 : Option Addr} {fd : FuncData} {sl s2 : Array (Option Value)} {vs : Array Value} (a : PySem.W.nsIn K mainGlobals x = some (some (.ref f))) (l : K.lookup f = some ⟨oc, od, .func fd, sl⟩) (hc : fd.code = .ref c)
    (lc : K.lookup c = some ⟨o1, o2, .fields vs, s2⟩) (v : vs[11]? = some (.ref P)) : PySem.W.tabIn K x = some (c, P) := by
  unfold PySem.W.tabIn
  rw [a]
  dsimp only
  rw [l]
  dsimp only
  rw [hc]
  dsimp only
  rw [lc]
  dsimp only
  rw [v]
end L2
namespace L2
open PySem PySem.Spec PyProof.Rows
/-! ### rules within a block: the written part by its own name -/
theorem pe_callVK {X : Cx} {CX : CXT} {k : Nat} {sp : Addr → Sp} {E : XK} {x : Str} {p pos : Pos} {e : Expr} {es : List Expr} {t : TA} {i : Nat} (K : PySem.W.Frag) (hK : X.K = K) (F : CallOk X.prog X.w X.K X.mg X.base CX k sp) (hr : Room k X.A) (hx : Passes CX X E) (hN : X.N[i]? = some x) (hv : Vis X.env.scope x) (ha : PA X (e :: es) t)
    (hdb : (x == ("__debug__" : Str)) = false := by decide) (hcd : (x == ("__classdict__" : Str)) = false := by decide)
    (he : starEach (e :: es) X.env = (false, eval e X.env) :: starEach es X.env := by rfl) (hpl : (backTo pos (starEach es X.env)).any (·.1) = false := by rfl) :
    PE X (.Call (.Name x p) (e :: es) [] pos) (tCallV K i sp E t) := by subst hK; exact pe_callV F hr hx hN hv ha hdb hcd he hpl
theorem call_lenK {X : Cx} (K : PySem.W.Frag) (hK : X.K = K) : CallR X (.builtin "len") (fun xs H Q => ∃ p ys, xs = [.ref p] ∧ (SqL K H p ys ∨ SqT K H p ys) ∧ Q (.int ys.length) H) := by subst hK; exact call_len_seq
theorem ix_listK {X : Cx} (K : PySem.W.Frag) (hK : X.K = K) : IxR X (rIxL K) := by subst hK; exact ix_list
theorem ix_tupK {X : Cx} (K : PySem.W.Frag) (hK : X.K = K) : IxR X (rIxT K) := by subst hK; exact ix_tup
end L2

set_option Elab.async false
set_option linter.all false
set_option maxRecDepth 100000
namespace L2
open PySem PySem.Spec PyProof.Rows
/-! ### L. for x in reversed(list) -/
def Itv (K : PySem.W.Frag) (a : Addr) (n : Nat) : It :=
  ⟨fun i H => i < n ∧ ∃ xs, SqL K H a xs ∧ xs.length = n, fun i H x H' => H' = H ∧ ∀ xs, SqL K H a xs → xs[n - 1 - i]? = some x, fun i _ => i = n⟩
theorem turn_rev {P : Program} {w : World} {K : PySem.W.Frag} {tg : Expr} (a it : Addr) (n : Nat) : Turn P w K tg (Itv K a n) [it] it (fun i h => h.IsRevIter it a ((n : Int) - 1 - (i : Nat))) where
  mem := by simp
  obj := fun i h st b hb => by
    have e : b = it := by simpa using hb
    subst e
    obtain ⟨o, e, c, d⟩ := st
    exact ⟨o, e, fun v z => by rw [d] at z; cases z⟩
  keep := fun i h h' st k => st.at fun o e => k it (by simp) o e
  item := by
    intro X hP hw hK hc i pins s σ H E I hf st hg
    subst hP hw hK
    obtain ⟨hi, xs, hq, hn⟩ := hg
    obtain ⟨its, rv, p, hz⟩ := I.list hq
    have hl := rv.length
    have hx : xs[n - 1 - i]? = some (xs[n - 1 - i]'(by omega)) := List.getElem?_eq_getElem (by omega)
    obtain ⟨u, hu, ru⟩ := rv.get hx
    obtain ⟨f0, f1, f2, f3, f4, f5⟩ := hf it (by simp)
    have st : s.heap.IsRevIter it a ((n : Int) - 1 - (i : Nat)) := st
    rw [show (n : Int) - 1 - (i : Nat) = ((n - 1 - i : Nat) : Int) by omega] at st
    refine wpAny_pyNext_rev_item st p.isList (x := u) (by simpa using hu) fun h' st' sb => ?_
    have I1 : Inv X pins σ H { s with heap := h' } := I.turned (t' := s.toks) (fun b o hb e => (sb.2 b hb).trans e) f0 f1 f3 f4 f5
    obtain ⟨o, e, c, d⟩ := id st'
    rw [show ((n - 1 - i : Nat) : Int) - 1 = (n : Int) - 1 - ((i + 1 : Nat) : Int) by omega] at st'
    exact ⟨u, rfl, go_of (s := { s with heap := h' }) e c d (by decide) ⟨_, H, I1, ru, ⟨rfl, fun ys hy => by rw [I.list_inj hy hq]; exact hx⟩, st', fun b hb => (hf b hb).1⟩⟩
  done := by
    intro X hP hw hK hc i pins s σ H E I hf st hg
    subst hP hw hK
    obtain ⟨f0, f1, f2, f3, f4, f5⟩ := hf it (by simp)
    have hg : i = n := hg
    have st : s.heap.IsRevIter it a ((n : Int) - 1 - (i : Nat)) := st
    rw [show (n : Int) - 1 - (i : Nat) = -1 by omega] at st
    exact wpAny_pyNext_rev_end (I.ok.hd hc) st fun h' eb => ⟨rfl, I.turned (t' := s.toks) (fun b o hb e => eb b o hb e) f0 f1 f3 f4 f5⟩
  self := fun _ _ _ _ _ st h => wpAny_pyIter_revIter st h
def iRev (K : PySem.W.Frag) (ta : TA) : TI := fun σ H R => ta σ H fun vs H1 => ∃ a xs, vs = [.ref a] ∧ SqL K H1 a xs ∧ R (Itv K a xs.length) H1
theorem pi_rev {X : Cx} {tg a : Expr} {ta : TA} {p pos : Pos} (hg : Gl X "reversed") (hm : X.mg "reversed" = none) (ha : PA X [a] ta) (hs : starEach [a] X.env = [(false, eval a X.env)] := by rfl) : PI X tg (.Call (.Name "reversed" p) [a] [] pos) (iRev X.K ta) := by
  intro pins s σ H R I h
  refine Call_ (ld_blt I hg hm boot_reversed (PyProof.Rows.callWith_type1 (thn (ha pos pins s σ H _ I h) fun us s1 ⟨vs, H1, I1, r1, q1⟩ => ?_) hs rfl))
  obtain ⟨l, xs, e, hq, q⟩ := q1
  subst e
  cases r1 with
  | cons r rr =>
    cases rr
    cases r
    obtain ⟨its, rv, pl, hz⟩ := I1.list hq
    have hl := rv.length
    refine call_reversed_list pl.isList ?_
    have e1 : ((its.toArray.size : Nat) : Int) - 1 = (xs.length : Int) - 1 - ((0 : Nat) : Int) := by simp; omega
    have I2 : Inv X pins σ H1 { s1 with heap := s1.heap.push (revObj l ((its.toArray.size : Int) - 1)) } := I1.kept (t' := s1.toks) fun b o e => Heap.get?_push_of_some _ e
    have st : (s1.heap.push (revObj l ((its.toArray.size : Int) - 1))).IsRevIter s1.heap.objs.size l ((xs.length : Int) - 1 - ((0 : Nat) : Int)) := by
      rw [← e1]; exact ⟨_, Heap.get?_push_size _ rfl, rfl, rfl⟩
    refine wpAny_pyIter_revIter (s := { s1 with heap := s1.heap.push (revObj l ((its.toArray.size : Int) - 1)) }) st ?_
    refine ⟨s1.heap.objs.size, [s1.heap.objs.size], _, _, H1, rfl, I2, turn_rev l s1.heap.objs.size xs.length, st, fun b hb => ?_, q⟩
    have e : b = s1.heap.objs.size := by simpa using hb
    subst e
    exact I1.fpOk (Nat.le_refl _) (I1.hok.fresh (Nat.le_refl _))
/-- over the reversed list, which the body leaves as it is -/
theorem for_rev {K : PySem.W.Frag} {a : Addr} {xs : List V} {g : TG} {tb : TS} {D : Ends} {σ : St} {H : Hp} (Pv : Nat → St → Hp → Prop) (h0 : Pv 0 σ H) (hl : ∀ i σ H, i ≤ xs.length → Pv i σ H → SqL K H a xs)
    (hs : ∀ i x σ H, i < xs.length → xs[xs.length - 1 - i]? = some x → Pv i σ H → g x σ H fun σ2 H2 => tb { D with nx := Pv (i + 1), ct := Pv (i + 1), bk := D.nx } σ2 H2) (hd : ∀ σ H, Pv xs.length σ H → D.nx σ H) :
    ∃ W : Nat → Nat → St → Hp → Prop, (∃ m, W 0 m σ H) ∧ ∀ i m σ H, W i m σ H →
      ((Itv K a xs.length).stop i H ∧ D.nx σ H) ∨ ((Itv K a xs.length).go i H ∧ ∃ N : St → Hp → Prop, (∀ σ' H', N σ' H' → ∃ m', m' < m ∧ W (i + 1) m' σ' H') ∧ ∀ x H', (Itv K a xs.length).yld i H x H' → g x σ H' fun σ2 H2 => tb { D with nx := N, ct := N, bk := D.nx } σ2 H2) := by
  refine ⟨fun i m σ H => m = xs.length - i ∧ i ≤ xs.length ∧ Pv i σ H, ⟨xs.length, by simp, Nat.zero_le _, h0⟩, ?_⟩
  rintro i m σ H ⟨rfl, hi, p⟩
  have q := hl i σ H hi p
  by_cases hlt : i < xs.length
  · refine .inr ⟨⟨hlt, xs, q, rfl⟩, Pv (i + 1), fun σ' H' p' => ⟨xs.length - (i + 1), by omega, rfl, hlt, p'⟩, fun x H' y => ?_⟩
    obtain ⟨e, y⟩ := y
    subst e
    exact hs i x σ _ hlt (y xs q) p
  · have e : i = xs.length := by omega
    subst e
    exact .inl ⟨rfl, hd σ H p⟩

/-! ### M. classes -/
/-- a method of the class at C, as it stands in the text -/
def MethAt (K : PySem.W.Frag) (C : Addr) (m qual : Str) (st : Stmt) : Prop := ∃ f fd, Meth K C m f ∧ Fun K m qual st f fd
theorem methAt_mk {K : PySem.W.Frag} {C : Addr} {m qual : Str} {st : Stmt} {f : Addr} {oc : Value} {od an : Option Addr} {osl : Array (Option Value)} {kV doc pm cdv ct : Value} (a : PySem.W.findIn K (.ref C) m = some (some (.ref f))) (i : PySem.W.isFn K (.ref f) = true)
    (l : K.lookup f = some ⟨oc, od, .func (PySem.W.fnOf m qual (defArgs st) (defBody st) (defScope st) .none kV doc pm an cdv ct), osl⟩) (c : PySem.W.codeIn K cdv qual = true) (k : PySem.W.keepIn K (.ref f) = true) : MethAt K C m qual st := ⟨f, _, ⟨a, i, k⟩, fun_mk l c k⟩
def MtP (P : Program) (w : World) (K : PySem.W.Frag) (mg : Str → Option Value) (base : Heap) (C : Addr) (k : Nat) (m : Str) (ps : List Str) (sp : Sp) : Prop := ∃ f fd, Meth K C m f ∧ Binds K fd ps [] ∧ FnOk P w K mg base CX0 k f fd ps sp
section
variable {P : Program} {w : World} {K : PySem.W.Frag} {mg : Str → Option Value} {base : Heap} {C : Addr}
theorem MtP.mono {j k : Nat} {x : Str} {ps : List Str} {sp : Sp} (F : MtP P w K mg base C j x ps sp) (h : j ≤ k) : MtP P w K mg base C k x ps sp := by
  obtain ⟨f, fd, h1, h3, h4⟩ := F
  exact ⟨f, fd, h1, h3, h4.mono h⟩
theorem MethAt.ok {m qual : Str} {st : Stmt} {N ps : List Str} {k : Nat} {sp : Sp} (F : MethAt K C m qual st) (S : FnScope N ps (defScope st))
    (hb : ∀ (kV doc pm : Value) (an : Option Addr) (cdv ct : Value) (us : List Value), us.length = ps.length → bindArgs (PySem.W.fnOf m qual (defArgs st) (defBody st) (defScope st) .none kV doc pm an cdv ct) ⟨us, []⟩ = pure (ps.zip us))
    (len : ∀ vs H Q E, sp vs H Q E → vs.length = ps.length)
    (hbody : ∀ (f : Addr) (cdv : Value) (A : Around) (outer : List Env) (s : Shared) (H : Hp) (vs : List V) (Q : VK) (E : XK), Room k (A.deeper (envOfC qual (defScope st) s.heap.objs.size f cdv)) → sp vs H Q E →
      ∃ t, PSs (cxOf CX0 P w K mg base N qual (defScope st) f cdv A outer s H E).nox (defBody st) t ∧ t { nx := fun _ H' => Q .non H', rt := Q } (start N vs) H) : MtP P w K mg base C (k + 1) m ps sp := by
  obtain ⟨f, fd, h1, F⟩ := F
  exact ⟨f, fd, h1, F.binds hb, F.ok S len fun cdv A outer s H vs Q E => hbody f cdv A outer s H vs Q E⟩
end
section
variable {X : Cx} {C : Addr} {k : Nat} {ps : List Str} {sp : Sp} {m : Str} {o e : Expr} {es : List Expr} {ta : TE} {t : TA} {apos pos : Pos}
theorem pe_methN {pl : Sem Bool} (F : MtP X.prog X.w X.K X.mg X.base C k m ps sp) (he : PE X o ta) (c : Cls X.K C) (hr : Room k X.A) (ha : PA X (e :: es) t)
    (hst : starEach (e :: es) X.env = (false, eval e X.env) :: starEach es X.env := by rfl) (hpl : (backTo pos (starEach es X.env)).any (·.1) = false := by rfl)
    (ht : eval (.Call (.Attribute o m apos) (e :: es) [] pos) X.env = (do
      let ov ← eval o X.env
      standAt apos.atName
      let (f, first) ← holding [ov] (getMethod ov m pl)
      callWith pos f first (backTo pos (starEach (e :: es) X.env)) (backToKw pos (keywordEach [] X.env))) := by rfl) :
    PE X (.Call (.Attribute o m apos) (e :: es) [] pos) (tMeth C m sp [] E0 ta t) := by
  obtain ⟨f, fd, h1, h3, h4⟩ := F
  exact pe_meth he c h1 h4 hr h3 .nil pass0 ha hst hpl ht
theorem pe_methN0 {pl : Sem Bool} (F : MtP X.prog X.w X.K X.mg X.base C k m ps sp) (he : PE X o ta) (c : Cls X.K C) (hr : Room k X.A)
    (ht : eval (.Call (.Attribute o m apos) [] [] pos) X.env = (do
      let ov ← eval o X.env
      standAt apos.atName
      let (f, first) ← holding [ov] (getMethod ov m pl)
      callWith pos f first (backTo pos (starEach [] X.env)) (backToKw pos (keywordEach [] X.env))) := by rfl) :
    PE X (.Call (.Attribute o m apos) [] [] pos) (tMeth C m sp [] E0 ta tNil) := by
  obtain ⟨f, fd, h1, h3, h4⟩ := F
  exact pe_meth0 he c h1 h4 hr h3 .nil pass0 ht
end
end L2

namespace Gb
section
variable {α : Type} (nl : α) (pr : α → α → α)
/-! ### turns, and how a leaf rises -/
def turnsT (n p : Nat) : List Bool :=
  if h : n < 2 then [] else if p < spl n then true :: turnsT (spl n) p else false :: turnsT (n - spl n) (p - spl n)
termination_by n
decreasing_by
  · exact spl_lt (by omega)
  · have := spl_pos n; omega
theorem turnsT_few {n p : Nat} (h : n < 2) : turnsT n p = [] := by rw [turnsT, dif_pos h]
theorem turnsT_low {n p : Nat} (h : 2 ≤ n) (h2 : p < spl n) : turnsT n p = true :: turnsT (spl n) p := by rw [turnsT, dif_neg (by omega), if_pos h2]
theorem turnsT_high {n p : Nat} (h : 2 ≤ n) (h2 : ¬ p < spl n) : turnsT n p = false :: turnsT (n - spl n) (p - spl n) := by rw [turnsT, dif_neg (by omega), if_neg h2]
def rise : List Bool → List α → α → α
  | u :: us, o :: os, x => rise us os (if u then pr x o else pr o x)
  | _, _, x => x
theorem rise_snoc : ∀ {us : List Bool} {os : List α} {u : Bool} {o x : α}, us.length = os.length → rise pr (us ++ [u]) (os ++ [o]) x = if u then pr (rise pr us os x) o else pr o (rise pr us os x)
  | [], [], u, o, x, _ => rfl
  | v :: us, p :: os, u, o, x, h => by
    show rise pr (us ++ [u]) (os ++ [o]) _ = _
    rw [rise_snoc (by simpa using h)]
    rfl
theorem path_turns : ∀ (n : Nat) (ts : List α) (p : Nat), ts.length = n → p < n → (pathT nl pr ts p).length = (turnsT n p).length ∧ ∀ x, ts[p]? = some x → rise pr (turnsT n p).reverse (pathT nl pr ts p) x = topT nl pr ts := by
  intro n
  induction n using Nat.strongRecOn with
  | ind n ih =>
    intro ts p hn hp
    by_cases h : n < 2
    · rw [pathT_few nl pr (by omega), turnsT_few h]
      refine ⟨rfl, fun x hx => ?_⟩
      have h1 : n = 1 := by omega
      subst h1
      obtain ⟨t, rfl⟩ := List.length_eq_one_iff.mp hn
      have : p = 0 := by omega
      subst this
      simp at hx
      rw [topT_one, ← hx]; rfl
    · have h2 : 2 ≤ ts.length := by omega
      have a1 := spl_lt h2
      have a2 := spl_pos ts.length
      by_cases hq : p < spl n
      · have hq' : p < spl ts.length := by rw [hn]; exact hq
        rw [pathT_low nl pr h2 hq', turnsT_low (by omega) hq, topT_more nl pr h2]
        obtain ⟨i1, i2⟩ := ih (spl n) (by rw [← hn]; exact a1) (ts.take (spl ts.length)) p (by simp; rw [hn]; rw [hn] at a1; omega) hq
        refine ⟨by simp [i1], fun x hx => ?_⟩
        rw [List.reverse_cons, rise_snoc pr (by simp [i1])]
        rw [i2 x (by rw [List.getElem?_take_of_lt hq']; exact hx)]
        rfl
      · have hq' : ¬ p < spl ts.length := by rw [hn]; exact hq
        rw [pathT_high nl pr h2 hq', turnsT_high (by omega) hq, topT_more nl pr h2]
        have e1 : (ts.drop (spl ts.length)).length = n - spl n := by simp; rw [hn]
        have b2 : 1 ≤ spl n := spl_pos n
        have b1 : spl n < n := spl_lt (by omega)
        obtain ⟨i1, i2⟩ := ih (n - spl n) (by omega) (ts.drop (spl ts.length)) (p - spl ts.length) e1 (by rw [hn]; omega)
        rw [hn] at i1 i2 ⊢
        refine ⟨by simp [i1], fun x hx => ?_⟩
        rw [List.reverse_cons, rise_snoc pr (by simp [i1])]
        rw [i2 x (by rw [List.getElem?_drop, show spl n + (p - spl n) = p by omega]; exact hx)]
        rfl
/-- its length: with n ≤ 2 ^ j at most j -/
theorem turns_len : ∀ (j n p : Nat), n ≤ 2 ^ j → (turnsT n p).length ≤ j
  | j, n, p, h => by
    by_cases h2 : n < 2
    · rw [turnsT_few h2]; simp
    match j, h with
    | 0, h => simp at h; omega
    | j + 1, h =>
      have a1 := spl_lt (n := n) (by omega)
      have a2 := spl_ge (n := n) (by omega)
      have c : spl n ≤ 2 ^ j := by
        unfold spl
        refine Nat.pow_le_pow_right (by omega) ?_
        have : 2 ^ Nat.log2 (n - 1) < 2 ^ (j + 1) := Nat.lt_of_lt_of_le (spl_lt (by omega)) h
        have := (Nat.pow_lt_pow_iff_right (by omega : 1 < 2)).mp this
        omega
      by_cases h3 : p < spl n
      · rw [turnsT_low (by omega) h3]
        have := turns_len j (spl n) p c
        simp; omega
      · rw [turnsT_high (by omega) h3]
        have := turns_len j (n - spl n) (p - spl n) (by omega)
        simp; omega
/-- one step up -/
theorem rise_take {us : List Bool} {os : List α} {i : Nat} {u : Bool} {o x : α} (hl : us.length = os.length) (hu : us[i]? = some u) (ho : os[i]? = some o) :
    rise pr (us.take (i + 1)) (os.take (i + 1)) x = if u then pr (rise pr (us.take i) (os.take i) x) o else pr o (rise pr (us.take i) (os.take i) x) := by
  have e1 : us.take (i + 1) = us.take i ++ [u] := by rw [List.take_add_one, hu]; rfl
  have e2 : os.take (i + 1) = os.take i ++ [o] := by rw [List.take_add_one, ho]; rfl
  rw [e1, e2, rise_snoc pr (by simp [hl])]
end
end Gb

set_option Elab.async false
set_option linter.all false
set_option maxRecDepth 100000
namespace L2
open PySem PySem.Spec PyProof.Rows
/-! ### M. exceptions of one's own -/
theorem ObjOk.there {P : Program} {w : World} {H : Hp} {h : Heap} {a : Addr} {o : HO} (x : ObjOk P w H h a o) : ∃ ob, h.get? a = some ob := by
  cases o with
  | lst xs => obtain ⟨_, _, _, _, e⟩ := x; exact ⟨_, e⟩
  | tup xs => obtain ⟨_, _, _, o, e, _⟩ := x; exact ⟨_, e⟩
  | dK kvs => obtain ⟨_, _, _, _, o, _, _, e, _⟩ := x; exact ⟨_, e⟩
  | dT kvs => obtain ⟨_, _, _, _, o, _, _, e, _⟩ := x; exact ⟨_, e⟩
  | set S n => obtain ⟨o, _, _, _, e, _⟩ := x; exact ⟨_, e⟩
  | ins C dx fs => obtain ⟨_, _, _, e, _⟩ := x; exact ⟨_, e⟩
  | own y => exact x
  | xd fs => obtain ⟨_, ⟨_, _, _, e, _⟩, _⟩ := x; exact ⟨_, e⟩
  | rng lo hi => obtain ⟨_, _, _, e⟩ := x; exact ⟨_, e⟩
  | frz ob u => obtain ⟨e, _⟩ := x; exact ⟨_, e⟩
  | tbl ps => exact ⟨_, (show h.get? a = some _ from x)⟩
  | met f y => exact ⟨_, (show h.get? a = some _ from x)⟩
  | ext φ => obtain ⟨_, e, _⟩ := x; exact e
def quietIn (K : PySem.W.Frag) (N : Addr) : Bool := PySem.W.nsOkIn K N && quietNames.all fun n => PySem.W.nsIn K N n == some none
def tailQ (K : PySem.W.Frag) (bmB : List Value) : List Value → Bool
  | [] => bmB == []
  | v :: r => (v :: r == bmB) || match v with
    | .ref A => (match List.lookup A K with
      | some ⟨_, _, .cls cd, _⟩ => quietIn K cd.ns && tailQ K bmB r
      | _ => false)
    | _ => false
theorem quietIn.ns {K : PySem.W.Frag} {N : Addr} {h : Heap} (X : K.In h) (q : quietIn K N = true) : ∃ mN, h.Ns N mN ∧ ∀ n ∈ quietNames, mN n = none := by
  have q := Bool.and_eq_true_iff.mp q
  have nsI := Heap.Ns.of_isNs (PySem.W.isNs_of_in X q.1)
  refine ⟨_, nsI, fun n hn => ?_⟩
  have z := List.all_eq_true.mp q.2 n hn
  exact PySem.W.nsMap_none_of_in X q.1 (eq_of_beq z)
theorem tailQ.ok {K : PySem.W.Frag} {bmB : List Value} {h : Heap} (X : K.In h) : ∀ {l : List Value}, tailQ K bmB l = true → OwnTailQ h bmB l
  | [], q => by
    have e : bmB = [] := eq_of_beq (show (bmB == []) = true from q)
    subst e; exact .base
  | v :: r, q => by
    unfold tailQ at q
    rcases Bool.or_eq_true_iff.mp q with q | q
    · have e : v :: r = bmB := eq_of_beq q
      subst e; exact .base
    · split at q
      · split at q
        · next A _ c0 dd cd sl lk =>
          have q := Bool.and_eq_true_iff.mp q
          obtain ⟨mA, h1, h2⟩ := quietIn.ns X q.1
          exact .own (X _ _ lk) h1 h2 (tailQ.ok X q.2)
        · cases q
      · cases q
/-- the class at C makes exceptions when it is called -/
structure XCls (K : PySem.W.Frag) (C : Addr) : Prop where
  ex : ∃ (nm q : Str) (N : Addr) (bs bm bmB : List Value) (hdct : Bool) (sn : List Str) (sub : List Value) (ab : Bool) (col : Option Bool) (dd : Option Addr) (k0 k1 k2 k3 k5 : Option Value) (newId B nid initId Bn inN : String) (bmN : List Value),
    K.lookup C = some (excClassObj nm q C N bs bm hdct sn sub ab col dd k0 k1 k2 k3 k5 newId) ∧ quietIn K N = true ∧ tailQ K bmB bm = true ∧ bm.contains (Value.type "BaseException") = true ∧
    ExcBaseFacts Bn newId inN bmN ∧ bmB.contains (Value.type Bn) = true ∧ ExcBaseFacts B nid initId bmB ∧ ExcAttrBase B bmB
  ga : PySem.W.findIn K (.ref C) "__getattribute__" = some (some (.builtin "BaseException.__getattribute__"))
  gn : PySem.W.findIn K (.ref C) "__getattr__" = some none
  fo : PySem.W.findIn K (.ref C) "__class__" = some (some (.builtin "object.__class__"))
  sp : PySem.W.specialIn K (.builtin "object.__class__") "__get__" = some (some (.builtin "getset_descriptor.__get__"))
  tk : PySem.W.takesIn K (.builtin "object.__class__") = some true
  mo : PySem.W.mroIn K C (.type "object") = some true
theorem xcls_mk {K : PySem.W.Frag} {C : Addr} {nm q : Str} {N : Addr} {bs bm : List Value} {hdct : Bool} {sn : List Str} {sub : List Value} {ab : Bool} {col : Option Bool} {dd : Option Addr} {k0 k1 k2 k3 k5 : Option Value}
    (a : K.lookup C = some (excClassObj nm q C N bs bm hdct sn sub ab col dd k0 k1 k2 k3 k5 "ValueError.__new__")) (b : quietIn K N = true) (c : tailQ K [Value.type "ValueError", Value.type "Exception", Value.type "BaseException", Value.type "object"] bm = true)
    (d : bm.contains (Value.type "BaseException") = true) (ga : PySem.W.findIn K (.ref C) "__getattribute__" = some (some (.builtin "BaseException.__getattribute__"))) (gn : PySem.W.findIn K (.ref C) "__getattr__" = some none)
    (fo : PySem.W.findIn K (.ref C) "__class__" = some (some (.builtin "object.__class__"))) (sp : PySem.W.specialIn K (.builtin "object.__class__") "__get__" = some (some (.builtin "getset_descriptor.__get__")))
    (tk : PySem.W.takesIn K (.builtin "object.__class__") = some true) (mo : PySem.W.mroIn K C (.type "object") = some true) : XCls K C :=
  ⟨⟨nm, q, N, bs, bm, _, hdct, sn, sub, ab, col, dd, k0, k1, k2, k3, k5, _, _, _, _, _, _, _, a, b, c, d, F.excBase_ValueError, by decide, F.excBase_ValueError, F.attrBase_ValueError⟩, ga, gn, fo, sp, tk, mo⟩

theorem exc_class_get {K : PySem.W.Frag} {C e : Addr} {oe : Obj} {prog : Program} {w : World} {A : Around} {s : Shared} {R : Result → Shared → Prop} {tp : Value} (X : K.In s.heap) (he : s.heap.get? e = some oe) (hc : oe.cls = .ref C)
    (mo : PySem.W.mroIn K C (.type "object") = some true) (h : R (.ok (.ret (.ref C))) s) (htp : (tp == Value.none) = false) :
    codeAny (model prog w) A (.call (.builtin "getset_descriptor.__get__") { pos := [.builtin "object.__class__", .ref e, tp] }) R s := by
  refine codeAny_call_builtin PySem.W.KF.slot_gs.plain PySem.W.KF.entry_gs ?_
  refine PySem.W.KF.slot_gs.check _ _ _ s _ _ _ _ PySem.W.KF.type_class (PySem.W.KF.args_gs _ _ _) ?_
  unfold Builtin.«getset_descriptor.__get__» Builtin.Getset_descriptor.descrGet
  refine wpAny_bind ?_
  show wpAny _ _ (pure (Value.builtin "object.__class__", some (Value.ref e), if (tp == Value.none) = true then none else some tp)) _ _ _
  refine wpAny_pure ?_
  show wpAny _ _ (Builtin.Getset_descriptor.descrGetter _ (some _)) _ _ _
  unfold Builtin.Getset_descriptor.descrGetter
  unfold Builtin.Getset_descriptor.descrCheckInstance
  refine wpAny_bind (wpAny_bind ?_)
  have hnc : Builtin.Getset_descriptor.descrNameAndClass (Value.builtin "object.__class__") = pure (Str.ofString "__class__", Value.type "object") := by
    show (match Builtin.Getset_descriptor.descrOwnerAndName "object.__class__" with | (o, n) => (pure (Str.ofString n, Value.type o) : Sem _)) = _
    rw [PySem.W.KF.owner_class]
  rw [hnc]
  refine wpAny_pure ?_
  refine wpAny_bind ?_
  unfold isInstance
  refine wpAny_bind (wpAny_typeOf_ref he ?_)
  rw [hc]
  refine PySem.W.looks_mroIn X mo _ _ _ s (fun _ _ z => z) ?_
  refine wpAny_pure ?_
  refine wpAny_pure ?_
  refine ⟨by kernel_rfl, codeAny_builtin PySem.W.KF.entry_class ?_⟩
  unfold Builtin.«object.__class__» shownTypeOf
  refine wpAny_bind (wpAny_bind (wpAny_typeOf_ref he ?_))
  rw [hc]
  refine wpAny_pure ?_
  exact wpAny_pure h
theorem exc_cls_attr {K : PySem.W.Frag} {C e : Addr} {oe : Obj} (x : XCls K C) {prog : Program} {w : World} {A : Around} {E : Value → Shared → Prop} {Q : Option Value → Shared → Prop} {s : Shared} (X : K.In s.heap)
    (he : s.heap.get? e = some oe) (hc : oe.cls = .ref C)
    (h : Q (some (.ref C)) { s with toks := s.toks + 1 }) : wpAny (model prog w) A (getAttr? (.ref e) "__class__") Q E s := by
  have ty : ∀ {A : Around} {Q : Value → Shared → Prop} {E : Value → Shared → Prop}, Q (.ref C) { s with toks := s.toks + 1 } → wpAny (model prog w) A (typeOf (.ref e)) Q E { s with toks := s.toks + 1 } := fun q => wpAny_typeOf_ref (s := { s with toks := s.toks + 1 }) he (by rw [hc]; exact q)
  obtain ⟨nm, q, N, bs, bm, bmB, hdct, sn, sub, ab, col, dd, k0, k1, k2, k3, k5, newId, B, nid, initId, Bn, inN, bmN, lk, qn, tl, has, F1, F2, F3, F4⟩ := x.ex
  obtain ⟨mN, hN, hq⟩ := quietIn.ns X qn
  have TQ := tailQ.ok X tl
  have hC := X _ _ lk
  unfold getAttr?
  refine wpAny_bind (wpAny_mkText ?_)
  unfold getAttrBy?
  refine wpAny_bind (wpAny_attempt ?_)
  unfold getAttrBy
  refine wpAny_holding (wpAny_bind (ty ?_))
  refine wpAny_bind (PySem.W.looks_findIn X x.ga A _ _ { s with toks := s.toks + 1 } (fun _ _ z => z) ?_)
  show wpAny _ _ (getAttrByItsOwn _ _ _ _ _ _) _ _ _
  unfold getAttrByItsOwn
  refine wpAny_bind (PySem.W.looks_hook X (r := none) (by show PySem.W.findIn K (.ref C) _ = _; exact x.gn) A _ _ { s with toks := s.toks + 1 } (fun _ _ z => z) ?_)
  refine wpAny_bind (wpAny_attempt (wpAny_holding ?_))
  show wpAny _ _ (boundAndCalled _ _ _) _ _ _
  unfold boundAndCalled
  rw [F4.ga.bind]
  refine wpAny_bind (wpAny_pure ?_)
  refine wpAny_call (codeAny_call_builtin F4.ga.plain F.entry_bexc_ga ?_)
  refine wpAny_check_ga_own F4 hC TQ he hc ?_
  unfold Builtin.«object.__getattribute__»
  refine wpAny_bind (wpAny_pure ?_)
  refine wpAny_bind (wpAny_pure ?_)
  refine wpAny_bind (ty ?_)
  refine wpAny_bind ?_
  unfold Builtin.ObjectAttr.find
  refine wpAny_bind (PySem.W.looks_findIn X x.fo _ _ _ { s with toks := s.toks + 1 } (fun _ _ z => z) ?_)
  refine wpAny_bind (PySem.W.looks_specialIn X x.sp _ _ _ { s with toks := s.toks + 1 } (fun _ _ z => z) ?_)
  refine wpAny_bind ?_
  unfold Builtin.ObjectAttr.dataDescriptor?
  refine wpAny_bind (PySem.W.looks_takesIn X x.tk _ _ _ { s with toks := s.toks + 1 } (fun _ _ z => z) ?_)
  refine wpAny_pure ?_
  refine wpAny_bind (wpAny_rule ?_)
  refine wpAny_pure ?_
  show wpAny _ _ (Builtin.ObjectAttr.bindTo _ _ _ _) _ _ _
  refine wpAny_bind (wpAny_holding (wpAny_call (exc_class_get (s := { s with toks := s.toks + 1 }) X he hc x.mo ?_ rfl)))
  refine wpAny_pure ?_
  refine wpAny_pure ?_
  exact wpAny_pure h

/-- an exception that has been caught -/
structure IsExc (K : PySem.W.Frag) (C : Addr) (oe : Obj) : Prop where
  x : XCls K C
  cls : oe.cls = .ref C
theorem kitx_exc {K : PySem.W.Frag} {C e : Addr} {oe : Obj} (x : IsExc K C oe) : PySem.W.KitX K (.ref e) (.ref C) fun h => h.get? e = some oe where
  ty := fun M h X he => fun A Q E s k q => wpAny_typeOf_ref (k _ _ he) (by rw [x.cls]; exact q)
  it := fun M h X he => by
    obtain ⟨nm, q, N, bs, bm, bmB, hdct, sn, sub, ab, col, dd, k0, k1, k2, k3, k5, newId, B, nid, initId, Bn, inN, bmN, lk, _⟩ := x.x.ex
    intro A Q E s k q
    exact ks_wpAny_isType_cls (k _ _ (X _ _ lk)) rfl q
  ne := fun h tp dd its n sl X ht => by
    obtain ⟨nm, q, N, bs, bm, bmB, hdct, sn, sub, ab, col, dd, k0, k1, k2, k3, k5, newId, B, nid, initId, Bn, inN, bmN, lk, _⟩ := x.x.ex
    have e := X _ _ lk
    rw [beq_eq_false_iff_ne]
    intro z
    cases z
    rw [ht] at e
    have e2 := congrArg Obj.data (Option.some.inj e)
    cases e2
  ca := fun X he q => exc_cls_attr x.x X he x.cls q
/-- isinstance(e, T) of a caught exception -/
theorem call_isinstX {X : Cx} {K : PySem.W.Frag} (hK : X.K = K := by rfl) : CallR X (.builtin "isinstance") (fun xs H Q => ∃ ea C oe c cv b, xs = [.ref ea, c] ∧ RelV c cv ∧ (∀ u, RelV c u → u = cv) ∧ H ea = some (.frz oe (.own 0)) ∧ IsExc K C oe ∧ PySem.W.kitOne K (.ref C) cv = some b ∧ Q (.bl b) H) := by
  subst hK
  intro pins s σ H xs us Q I r h
  obtain ⟨ea, C, oe, c, cv, b, rfl, rc, uq, ha, ix, e, q⟩ := h
  obtain ⟨u, w', rfl, rx, rc'⟩ := vals2 r
  obtain rfl : u = Value.ref ea := rx
  obtain rfl := uq _ rc'
  exact PySem.W.kia_one (kitx_exc ix) I.kIn (I.hok _ _ ha).1 e (fun z => nomatch z) fun tk => ⟨.bl b, H, I.tok tk, rfl, q⟩

/-- an exception of the class C flies out of a call: the frames that run, the abstract heaps ahead and behind, the state ahead, the exception, what is kept of the heap, the state behind -/
structure Fly (P : Program) (w : World) (outer : List Env) (H H' : Hp) (s : Shared) (C ea t : Addr) (B : Heap) (s' : Shared) : Prop where
  os : s'.os = s.os
  bare : AllBare s'.gens
  fly : B.FlyingW outer ea (.ref C) (.ref t) s'.heap
  un : Un (frs outer) [] H H' s.heap s'.heap
  hok : HOk P w H' s'.heap
  old : ∀ b o, s.heap.get? b = some o → H b = none → b ∉ frs outer → B.get? b = some o
  trk : ∀ b u, H' b = some u → b ∉ frs outer ∧ ∀ o, s'.heap.get? b = some o → B.get? b = some o
  all : ∀ b o, s.heap.get? b = some o → b ∈ frs outer ∨ ∃ o', B.get? b = some o'
def CXB (P : Program) (w : World) : CXT := fun outer H s E e s' => ∃ ea t C B H', e = .ref ea ∧ Fly P w outer H H' s C ea t B s' ∧ E (.ref C) none H'
theorem funFrames_base {h b1 b2 : Heap} : ∀ {l : List Env}, h.FunFrames b1 l → (∀ a ∈ frs l, b2.get? a = none) → h.FunFrames b2 l
  | [], _, _ => trivial
  | env :: r, x, k => by
    obtain ⟨hk, ⟨L, o, hf, hn, ho, hd⟩, hr⟩ := x
    refine ⟨hk, ⟨L, o, hf, k L (by unfold frs; rw [List.filterMap_cons, hf]; exact List.mem_cons_self), ho, hd⟩, funFrames_base hr fun a ha => k a ?_⟩
    unfold frs; rw [List.filterMap_cons, hf]; exact List.mem_cons_of_mem _ ha

/-- what X wants of an exception made here -/
def Raises (X : Cx) (E : XK) : Prop := ∀ (pins : List (Addr × Obj)) (σ : St) (H : Hp) (s : Shared) (h' : Heap) (e C : Addr) (vs : List Value), Inv X pins σ H s → s.heap.MadeExcOf h' e (.ref C) vs → E (.ref C) none H → X.xe (.ref e) { s with heap := h' }
theorem raises_cx {P : Program} {w : World} {K : PySem.W.Frag} {mg : Str → Option Value} {base : Heap} {N : List Str} {qual : Str} {scope : Scope} {f : Addr} {cd : Value} {A : Around} {outer : List Env} {s : Shared} {H : Hp} {E : XK} :
    Raises (cxOf (CXB P w) P w K mg base N qual scope f cd A outer s H E) E := by
  intro pins σ H1 s1 h' e C vs I M q
  have hfr : ∀ b ∈ frs (envOfC qual scope s.heap.objs.size f cd :: outer), H1 b = none := I.stkFree
  have hB : ∀ {b o}, s1.heap.get? b = some o → b ∉ frs (envOfC qual scope s.heap.objs.size f cd :: outer) → (PySem.W.hideAll s1.heap (frs (envOfC qual scope s.heap.objs.size f cd :: outer))).get? b = some o := fun e n => PySem.W.hideAll_get _ e n
  have hsub : ∀ b ∈ frs outer, b ∈ frs (envOfC qual scope s.heap.objs.size f cd :: outer) := fun b hb => List.mem_cons_of_mem _ hb
  have hnew : ∀ b o, s.heap.get? b = some o → b ∉ frs outer → b ∉ frs (envOfC qual scope s.heap.objs.size f cd :: outer) := fun b o e n z => by
    rcases List.mem_cons.mp (show b ∈ s.heap.objs.size :: frs outer from z) with z | z
    · exact absurd (Heap.lt_size e) (by rw [z]; exact Nat.lt_irrefl _)
    · exact n z
  obtain ⟨t0, me, mt⟩ := M.there
  refine wpAny_leaves_madeW (base := PySem.W.hideAll s1.heap (frs (envOfC qual scope s.heap.objs.size f cd :: outer))) (h := s1.heap) (outer := outer) (L := s.heap.objs.size) I.ok.frames rfl (fun b o z => PySem.W.of_hideAll _ z)
    (funFrames_base I.stack fun a ha => PySem.W.hideAll_none _ ha) M fun h2 t fly tup tn up => ?_
  have keepT : ∀ b u, H1 b = some u → b ∉ frs (envOfC qual scope s.heap.objs.size f cd :: outer) := fun b u e z => by rw [hfr b z] at e; cases e
  have old : ∀ b o, s.heap.get? b = some o → H b = none → b ∉ frs outer → (PySem.W.hideAll s1.heap (frs (envOfC qual scope s.heap.objs.size f cd :: outer))).get? b = some o := fun b o e n nf =>
    hB (I.base.keep b o e n nf (fun z => absurd (show b ∈ ([] : List Addr) from z) (by simp))) (hnew b o e nf)
  have slot : ∀ b o, s.heap.get? b = some o → b ∈ frs outer → ∃ sl, h2.get? b = some { o with slots := sl } := fun b o e hb => by
    have hn : H b = none := I.ok.frf b hb
    obtain ⟨sl, e1⟩ := I.base.slot b o e hn hb (fun z => absurd (show b ∈ ([] : List Addr) from z) (by simp))
    obtain ⟨_, o2, e2, d2⟩ := I.ok.funs.mem hb
    have e2' : s.heap.get? b = some o2 := e2
    rw [e] at e2'; cases e2'
    obtain ⟨sl2, e3⟩ := up b _ (M.keeps _ _ e1) d2
    exact ⟨sl2, e3⟩
  have all : ∀ b o, s.heap.get? b = some o → b ∈ frs outer ∨ ∃ o', (PySem.W.hideAll s1.heap (frs (envOfC qual scope s.heap.objs.size f cd :: outer))).get? b = some o' := fun b o e => by
    by_cases hb : b ∈ frs outer
    · exact .inl hb
    · obtain ⟨o', e1⟩ := I.base.there b o e (fun z => absurd (show b ∈ ([] : List Addr) from z) (by simp))
      exact .inr ⟨o', hB e1 (hnew b o e hb)⟩
  refine ⟨e, t, C, _, H1, rfl, ⟨I.os, I.bare, fly, ⟨fun b o e n nf _ => fly.1 _ _ (old b o e n nf), fun b o e n hb _ => slot b o e hb, I.base.free, fun b o e _ => ?_, I.base.tups, I.base.frzs, I.base.tbls⟩, fun a u z => ?_, old, fun b u z => ⟨fun y => keepT b u z (hsub b y), fun o zo => ?_⟩, all⟩, q⟩
  · rcases all b o e with hb | ⟨o', z⟩
    · obtain ⟨sl, z⟩ := slot b o e hb
      exact ⟨_, z⟩
    · exact ⟨o', fly.1 _ _ z⟩
  · refine (I.hok a u z).stay (fun b v hb hv => fly.1 _ _ (hB hv ?_)) (fun _ y => y) fun _ _ y => y
    rcases hb with rfl | hb
    · exact keepT _ _ z
    · exact keepT _ _ hb
  · obtain ⟨o', e1⟩ := (I.hok b u z).there
    have e2 := hB e1 (keepT b u z)
    have e3 := fly.1 _ _ e2
    rw [zo] at e3; cases e3
    exact e2
end L2

set_option Elab.async false
set_option linter.all false
set_option maxRecDepth 100000
namespace L2
open PySem PySem.Spec PyProof.Rows
/-! ### N. raise -/
def tRaise (C : Addr) (E : XK) (t : TA) : TS := fun D σ H => t σ H fun vs H1 => vs.length ≤ sizeLine ∧ E (.ref C) none H1
section
variable {X : Cx}
theorem ps_raise {x : Str} {C : Addr} {E : XK} {e : Expr} {es : List Expr} {t : TA} {np cpos pos : Pos} (hx : Raises X E) (hr : X.A.handled = none) (xc : XCls X.K C) (hg : Gl X x) (hm : X.mg x = some (.ref C)) (ha : PA X (e :: es) t)
    (hdb : (x == ("__debug__" : Str)) = false := by decide) (he : starEach (e :: es) X.env = (false, eval e X.env) :: starEach es X.env := by rfl) (hpl : (backTo cpos (starEach es X.env)).any (·.1) = false := by rfl) :
    PS X (.Raise (some (.Call (.Name x np) (e :: es) [] cpos)) none pos) (tRaise C E t) := by
  intro pins s σ H D I h
  obtain ⟨nm, q, N, bs, bm, bmB, hdct, sn, sub, ab, col, dd, k0, k1, k2, k3, k5, newId, B, nid, initId, Bn, inN, bmN, lk, qn, tl, has, F1, F2, F3, F4⟩ := xc.ex
  obtain ⟨mN, hN, hq⟩ := quietIn.ns I.ok.mod.kin qn
  refine wpAny_Raise_call_subU (nm := nm) (q := q) (N := N) (bs := bs) (hdct := hdct) (sn := sn) (sub := sub) (ab := ab) (col := col) (dd := dd) (k0 := k0) (k1 := k1) (k2 := k2) (k3 := k3) (k5 := k5) F1 F2 F3 (mN := mN) has hr ?_ (hq _ (by decide)) (ld_glob I hg hm ⟨rfl, ?_⟩ hdb)
  · rw [he]; simpa [backTo] using hpl
  obtain ⟨x0, hb⟩ : ∃ x0, backTo cpos (starEach (e :: es) X.env) = (false, x0) :: backTo cpos (starEach es X.env) := by rw [he]; exact ⟨_, rfl⟩
  rw [hb]
  refine Calls.evalArgs_plain ?_
  rw [← hb]
  refine thn (ha cpos pins s σ H _ I h) fun us s1 ⟨vs, H1, I1, r, hl, q1⟩ => ?_
  have X1 := I1.kIn
  exact ⟨rfl, by show us.length ≤ _; rw [← r.length]; exact hl, X1 _ _ lk, hN.keeps I1.bk, (tailQ.ok X1 tl).tail, fun h' e' M => hx pins σ H1 s1 h' e' C us I1 M q1⟩
end

/-! ### O. what is caught -/
section
variable {X : Cx} {pins : List (Addr × Obj)} {σ : St} {H H' : Hp} {s s' : Shared} {C ea t : Addr} {B h2 : Heap}
theorem Inv.fly (I : Inv X pins σ H s) (F : Fly X.prog X.w X.stack H H' s C ea t B s') (f2 : B.StaysIn h2) (up : s'.heap.UpToSlots h2) : Inv X pins σ H' { s' with heap := h2 } := by
  have slot : ∀ b o, s.heap.get? b = some o → H b = none → b ∈ frs X.stack → ∃ sl, h2.get? b = some { o with slots := sl } := fun b o e hn hb => by
    obtain ⟨sl, e1⟩ := F.un.slot b o e hn hb (by simp)
    obtain ⟨_, o2, e2, d2⟩ := I.stack.mem hb
    rw [e] at e2; cases e2
    obtain ⟨sl2, e3⟩ := up b _ e1 d2
    exact ⟨sl2, e3⟩
  refine I.call' (s' := { s' with heap := h2 }) (ch := []) F.os ⟨fun b o e n nf _ => f2 _ _ (F.old b o e n nf), fun b o e n hb _ => slot b o e n hb, F.un.free, fun b o e _ => ?_, F.un.tups, F.un.frzs, F.un.tbls⟩ (fun a u z => ?_) F.bare (fun b z => absurd z (by simp))
  · rcases F.all b o e with hb | ⟨o', z⟩
    · obtain ⟨sl, z⟩ := slot b o e (I.stkFree b hb) hb
      exact ⟨_, z⟩
    · exact ⟨o', f2 _ _ z⟩
  · refine (F.hok a u z).stay (fun b v hb hv => f2 _ _ ?_) (fun _ y => y) fun _ _ y => y
    rcases hb with rfl | hb
    · exact (F.trk _ _ z).2 _ hv
    · exact (F.trk _ _ hb).2 _ hv
end
abbrev XR := St → Addr → Hp → Prop
/-- an exception on its way, and where it came up -/
def XQ (X : Cx) (pins : List (Addr × Obj)) (R : XR) (e : Value) (s' : Shared) : Prop :=
  ∃ ea t C B H H' σ s, e = .ref ea ∧ Inv X pins σ H s ∧ Fly X.prog X.w X.stack H H' s C ea t B s' ∧ R σ C H'
abbrev TEx := St → Hp → VK → (Addr → Hp → Prop) → Prop
abbrev TSx := Ends → XR → St → Hp → Prop
def PEx (X : Cx) (e : Expr) (t : TEx) : Prop :=
  ∀ (pins : List (Addr × Obj)) (s : Shared) (σ : St) (H : Hp) (Q : VK) (R : Addr → Hp → Prop), Inv X pins σ H s → t σ H Q R → wpAny (model X.prog X.w) X.A (eval e X.env) (EP X pins σ Q) (XQ X pins fun σ' C H' => σ' = σ ∧ R C H') s
def PSx (X : Cx) (st : Stmt) (t : TSx) : Prop :=
  ∀ (pins : List (Addr × Obj)) (s : Shared) (σ : St) (H : Hp) (D : Ends) (R : XR), Inv X pins σ H s → t D R σ H → wpAny (model X.prog X.w) X.A (exec st X.env) (SP X pins D) (XQ X pins R) s
def PSsx (X : Cx) (st : List Stmt) (t : TSx) : Prop :=
  ∀ (pins : List (Addr × Obj)) (s : Shared) (σ : St) (H : Hp) (D : Ends) (R : XR), Inv X pins σ H s → t D R σ H → wpAny (model X.prog X.w) X.A (execs st X.env) (SP X pins D) (XQ X pins R) s
section
variable {X : Cx} {e : Expr} {es : List Expr} {st : Stmt} {rest : List Stmt} {pos : Pos}
theorem psx_ps {t : TS} (h : PS X.nox st t) : PSx X st (fun D _ => t D) := fun pins s σ H D R I hw =>
  wpAny_mono (h pins s σ H D (I.wish _) hw) (fun _ _ q => q.unwish) fun _ _ z => False.elim z
theorem pex_pe {t : TE} (h : PE X.nox e t) : PEx X e (fun σ H Q _ => t σ H Q) := fun pins s σ H Q R I hw =>
  wpAny_mono (h pins s σ H Q (I.wish _) hw) (fun _ _ ⟨v, H', I', r, q⟩ => ⟨v, H', I'.unwish, r, q⟩) fun _ _ z => False.elim z
def txDrop (te : TEx) : TSx := fun D R σ H => te σ H (fun _ H1 => D.nx σ H1) (R σ)
theorem psx_expr {te : TEx} (he : PEx X e te) (hs : swapsWith e none pos.line X.env = pure false := by rfl) : PSx X (.Expr e pos) (txDrop te) := by
  intro pins s σ H D R I h
  refine wpAny_Expr_any (wpAny_mono (he pins s σ H _ _ I h) (fun v s1 ⟨x, H1, I1, r1, q1⟩ => ⟨σ, H1, I1, q1⟩) fun e' s1 ⟨ea, t, C, B, H3, H', σ', s3, e1, I3, F, e2, q⟩ => ?_) I.quiet hs
  subst e2
  exact ⟨ea, t, C, B, H3, H', _, s3, e1, I3, F, q⟩
def txRet (te : TEx) : TSx := fun D R σ H => te σ H D.rt (R σ)
theorem psx_ret {te : TEx} (he : PEx X e te) : PSx X (.Return (some e) pos) (txRet te) := by
  intro pins s σ H D R I h
  refine wpAny_Return_some (wpAny_mono (he pins s σ H _ _ I h) (fun v s1 ⟨x, H1, I1, r1, q1⟩ => ⟨x, σ, H1, I1, r1, q1⟩) fun e' s1 ⟨ea, t, C, B, H3, H', σ', s3, e1, I3, F, e2, q⟩ => ?_)
  subst e2
  exact ⟨ea, t, C, B, H3, H', _, s3, e1, I3, F, q⟩
def txIf (c : TT) (t u : TSx) : TSx := fun D R σ H => c σ H fun b H1 => if b = true then t D R σ H1 else u D R σ H1
theorem psx_if {c : Expr} {a b : List Stmt} {tc : TT} {t u : TSx} (hc : PT X.nox c tc) (ha : PSsx X a t) (hb : PSsx X b u) : PSx X (.If c a b pos) (txIf tc t u) := by
  intro pins s σ H D R I h
  refine wpAny_If (wpAny_mono (hc pins s σ H _ (I.wish _) h) (fun d s1 ⟨H1, I1, q1⟩ => ?_) fun _ _ z => False.elim z)
  cases d with
  | true => exact ha pins s1 σ H1 D R I1.unwish q1
  | false => exact hb pins s1 σ H1 D R I1.unwish q1
theorem pssx_nil : PSsx X [] (fun D _ σ H => D.nx σ H) := fun _ _ σ H _ _ I h => wpAny_execs_nil ⟨σ, H, I, h⟩
def txSeq (t u : TSx) : TSx := fun D R σ H => t { D with nx := u D R } R σ H
theorem pssx_cons {t u : TSx} (h1 : PSx X st t) (h2 : PSsx X rest u) : PSsx X (st :: rest) (txSeq t u) := by
  intro pins s σ H D R I h
  refine wpAny_execs_cons (thn (h1 pins s σ H { D with nx := u D R } R I h) fun f s1 q => ?_)
  cases f with
  | next =>
    obtain ⟨σ', H', I', q⟩ := q
    exact h2 pins s1 σ' H' D R I' q
  | brk => exact q
  | cont => exact q
  | ret v => exact q
/-- f(e, ..), which may raise -/
def txCall (sp : Sp) (t : TA) : TEx := fun σ H Q R => t σ H fun vs H1 => sp vs H1 Q (fun c _ H2 => ∃ C, c = .ref C ∧ R C H2)
theorem run_fnX {pins : List (Addr × Obj)} {σ : St} {H : Hp} {s : Shared} {Q : VK} {R : Addr → Hp → Prop} {us : List Value} {vs : List V} {k : Nat} {f : Addr} {fd : FuncData} {ps : List Str} {sp : Sp} (F : FnOk X.prog X.w X.K X.mg X.base (CXB X.prog X.w) k f fd ps sp) (hr : Room k X.A) (hb : Binds X.K fd ps [])
    (I : Inv X pins σ H s) (r : Vals vs us) (h : sp vs H Q (fun c _ H2 => ∃ C, c = .ref C ∧ R C H2)) : wpAny (model X.prog X.w) X.A (call (.ref f) us) (EP X pins σ Q) (XQ X pins fun σ' C H' => σ' = σ ∧ R C H') s := by
  have hl : us.length = ps.length := by rw [← r.length]; exact F.len _ _ _ _ h
  have hb' : BindsTo s fd ⟨us, []⟩ (ps.zip us) := by
    have z := hb s us I.kIn (by simpa using hl)
    rwa [List.append_nil] at z
  refine wpAny_call (codeAny_mono (F.run X.A X.stack s H ⟨us, []⟩ us vs Q _ hr I.env0 hb' r h) fun r s' hq => ?_)
  cases r with
  | error e =>
    obtain ⟨ea, t, C, B, H', e1, F, C', e2, q⟩ := hq
    cases e2
    exact ⟨ea, t, C, B, H, H', σ, s, e1, I, F, rfl, q⟩
  | ok fl =>
    cases fl with
    | ret u => exact I.after hq
    | next => exact False.elim hq
    | brk => exact False.elim hq
    | cont => exact False.elim hq
/-- what the def of that name promises; it may raise -/
def FnX (P : Program) (w : World) (K : PySem.W.Frag) (mg : Str → Option Value) (base : Heap) (k : Nat) (x : Str) (ps : List Str) (sp : Sp) : Prop :=
  ∃ f fd, mg x = some (.ref f) ∧ PySem.W.keepIn K (.ref f) = true ∧ Binds K fd ps [] ∧ FnOk P w K mg base (CXB P w) k f fd ps sp ∧ ∃ oc od sl, K.lookup f = some ⟨oc, od, .func fd, sl⟩
theorem FnX.mono {P : Program} {w : World} {K : PySem.W.Frag} {mg : Str → Option Value} {base : Heap} {j k : Nat} {x : Str} {ps : List Str} {sp : Sp} (F : FnX P w K mg base j x ps sp) (h : j ≤ k) : FnX P w K mg base k x ps sp := by
  obtain ⟨f, fd, h1, h2, h3, h4, h5⟩ := F
  exact ⟨f, fd, h1, h2, h3, h4.mono h, h5⟩
theorem FunAt.okX {P : Program} {w : World} {K : PySem.W.Frag} {mg : Str → Option Value} {base : Heap} {x : Str} {st : Stmt} {N ps : List Str} {k : Nat} {sp : Sp} (F : FunAt K mg x st) (S : FnScope N ps (defScope st))
    (hb : ∀ (kV doc pm : Value) (an : Option Addr) (cdv ct : Value) (us : List Value), us.length = ps.length → bindArgs (PySem.W.fnOf x x (defArgs st) (defBody st) (defScope st) .none kV doc pm an cdv ct) ⟨us, []⟩ = pure (ps.zip us))
    (len : ∀ vs H Q E, sp vs H Q E → vs.length = ps.length)
    (hbody : ∀ (f : Addr) (cdv : Value) (A : Around) (outer : List Env) (s : Shared) (H : Hp) (vs : List V) (Q : VK) (E : XK), Room k (A.deeper (envOfC x (defScope st) s.heap.objs.size f cdv)) → sp vs H Q E →
      ∃ t, PSs (cxOf (CXB P w) P w K mg base N x (defScope st) f cdv A outer s H E) (defBody st) t ∧ t { nx := fun _ H' => Q .non H', rt := Q } (start N vs) H) : FnX P w K mg base (k + 1) x ps sp := by
  obtain ⟨f, fd, h1, F⟩ := F
  refine ⟨f, fd, h1, F.kp, F.binds hb, ?_, ?_⟩
  · obtain ⟨oc, od, kV, doc, pm, an, cdv, ct, osl, rfl, lk, hcd⟩ := F.ex
    exact fn_of lk hcd S len fun A outer s H vs Q E hr hsp => hbody f cdv A outer s H vs Q E hr hsp
  · obtain ⟨oc, od, kV, doc, pm, an, cdv, ct, osl, rfl, lk, hcd⟩ := F.ex
    exact ⟨_, _, _, lk⟩
theorem pex_callN {k : Nat} {x : Str} {ps : List Str} {sp : Sp} {t : TA} {p : Pos} (F : FnX X.prog X.w X.K X.mg X.base k x ps sp) (hr : Room k X.A) (hg : Gl X x) (ha : PA X.nox (e :: es) t) (hdb : (x == ("__debug__" : Str)) = false := by decide)
    (he : starEach (e :: es) X.env = (false, eval e X.env) :: starEach es X.env := by rfl) (hpl : (backTo pos (starEach es X.env)).any (·.1) = false := by rfl) : PEx X (.Call (.Name x p) (e :: es) [] pos) (txCall sp t) := by
  obtain ⟨f, fd, h1, h2, h3, h4, _⟩ := F
  intro pins s σ H Q R I h
  refine wpAny_Call_Name_kw (ld_glob I hg h1 ?_ hdb)
  refine PySem.W.callWith_K (h₀ := X.base) I.ok.mod.kin h2 (wpAny_mono (ha pos pins s σ H _ (I.wish _) h) (fun us s1 ⟨vs, H1, I1, r, q⟩ => ⟨I1.unwish.kIn, ?_⟩) fun _ _ z => False.elim z) he hpl
  exact run_fnX h4 hr h3 I1.unwish r q
end
end L2

set_option Elab.async false
set_option linter.all false
set_option maxRecDepth 100000
namespace L2
open PySem PySem.Spec PyProof.Rows
/-! ### P. try: .. except C as n: .. -/
abbrev Cx.hand (X : Cx) (e : Addr) : Cx := { X with A := X.A.mark (some (.ref e)), calm := false }
section
variable {X : Cx} {pins : List (Addr × Obj)} {σ : St} {H : Hp} {s : Shared} {ea : Addr}
theorem Cx.Ok.hand (ok : X.Ok) (e : Addr) : (X.hand e).Ok :=
  ⟨ok.mod, ok.kind, ok.glob, ok.blt, ok.above, ok.inj, ok.has, ok.cab, (fun z => by cases z), ok.frames, ok.stk, ok.exf, ok.bs, ok.bsz, ok.noex, ok.exfs, ok.funs, ok.frf⟩
theorem Inv.hand (I : Inv X pins σ H s) (e : Addr) : Inv (X.hand e) pins σ H s := ⟨I.ok.hand e, I.os, I.bare, I.base, I.loc, I.cell, I.free, I.freeC, I.pin, I.hok, I.len⟩
theorem Inv.unhand (ok : X.Ok) (I : Inv (X.hand ea) pins σ H s) : Inv X pins σ H s := ⟨ok, I.os, I.bare, I.base, I.loc, I.cell, I.free, I.freeC, I.pin, I.hok, I.len⟩
/-- a thing that was not there at the entry is known -/
theorem Inv.track' {a : Addr} {o : Obj} (I : Inv X pins σ H s) (ho : s.heap.get? a = some o) (h0 : H a = none) (h1 : a ≠ X.env.locals) (h4 : ∀ x c, X.env.cells.lookup x = some c → c ≠ a) (h5 : ∀ p ∈ X.pn ++ pins, p.1 ≠ a) (hs : X.s₀.heap.get? a = none) :
    Inv X pins σ (upd H a (.frz o (.own 0))) s := by
  refine ⟨I.ok, I.os, I.bare, ⟨I.base.keep, I.base.slot, fun b ob e n hx => ?_, I.base.there, fun b xs e => ?_, fun b ob u e => ?_, fun b ps e => ?_⟩, I.loc, I.cell, ?_, fun x c e => ?_, fun p hp => ?_, ?_, I.len⟩
  · have z : b ≠ a := fun z => by rw [z, hs] at e; cases e
    rw [upd_ne z]; exact I.base.free b ob e n hx
  · have q := I.base.tups b xs e
    rw [upd_ne (ne_of_none q h0)]; exact q
  · have q := I.base.frzs b ob u e
    rw [upd_ne (ne_of_none q h0)]; exact q
  · obtain ⟨more, q⟩ := I.base.tbls b ps e
    exact ⟨more, by rw [upd_ne (ne_of_none q h0)]; exact q⟩
  · rw [upd_ne (Ne.symm h1)]; exact I.free
  · rcases I.freeC x c e with z | ⟨z1, ob, z⟩
    · left; rw [upd_ne (h4 x c e)]; exact z
    · right; exact ⟨z1, ob, by rw [upd_ne (h4 x c e)]; exact z⟩
  · obtain ⟨e, n, ne, nf, d⟩ := I.pin p hp
    exact ⟨e, by rw [upd_ne (h5 p hp)]; exact n, ne, nf, d⟩
  · exact I.hok.track ho h0
theorem unbind_ok {M : Model} {A : Around} {E : Value → Shared → Prop} {i : Nat} {n : Str} {pos : Pos} {Q : Unit → Shared → Prop} (I : Inv X pins σ H s) (hN : X.N.Nodup) (hi : X.N[i]? = some n) (hk : X.env.scope.names.lookup n = some .local)
    (h : ∀ s', Inv X pins (σ.set i none) H s' → Q () s') : wpAny M A (do bindName X.env n Value.none; unbindBehindTheSuite X.env n pos) Q E s := by
  have hcls : (X.env.scope.kind == .class || (X.env.scope.kind == .module && X.env.locals != X.env.globals)) = false := by rw [I.ok.kind]; rfl
  refine wpAny_bind ?_
  unfold bindName
  refine wpAny_bind (wpAny_holding (wpAny_point (wpAny_bind (store_ok (v := .non) I hN hi (.inl hk) rfl (fun s1 I1 => wpAny_point ?_) (.inr hk)))))
  unfold unbindBehindTheSuite
  refine wpAny_onRaise ?_
  have hiσ : i < σ.length := by rw [I.len]; exact (List.getElem?_eq_some_iff.mp hi).1
  obtain ⟨m, hn, hl⟩ := id I1.loc
  have hmn : ∃ v, m n = some v := by
    obtain ⟨u, _, z⟩ := hl i n .non hi (by rw [List.getElem?_set_self hiσ]) (.inl hk)
    rcases z with ⟨_, z⟩ | ⟨z, _⟩
    · exact ⟨u, z⟩
    · rcases z with z | z <;> (rw [show X.env.kindOf n = some .local from hk] at z; cases z)
  obtain ⟨v, hv⟩ := hmn
  refine wpAny_unbindName_local hk hn hv hcls fun h' u hn' hs => ?_
  have cne := I1.cne
  obtain ⟨oL, _, _, hoL, _⟩ := id hn
  refine h _ ⟨I1.ok, I1.os, I1.bare, ⟨fun b o e n hb hx => ?_, fun b o e n hb hx => ?_, I1.base.free, fun b o e hx => ?_, I1.base.tups, I1.base.frzs, I1.base.tbls⟩, ⟨_, hn', fun j y v' e1 e2 e3 => ?_⟩, fun y c e => ?_, I1.free, I1.freeC, fun p hp => ?_, fun b ob e => ?_, by simpa using I.len⟩
  · exact (hs.2 b (Nat.ne_of_lt (Nat.lt_of_lt_of_le (Heap.lt_size e) I1.ok.above))).trans (I1.base.keep b o e n hb hx)
  · obtain ⟨sl, e1⟩ := I1.base.slot b o e n hb hx
    exact ⟨sl, (hs.2 b (Nat.ne_of_lt (Nat.lt_of_lt_of_le (Heap.lt_size e) I1.ok.above))).trans e1⟩
  · obtain ⟨o', e1⟩ := I1.base.there b o e hx
    exact ⟨o', (hs.2 b (Nat.ne_of_lt (Nat.lt_of_lt_of_le (Heap.lt_size e) I1.ok.above))).trans e1⟩
  · have hj : j ≠ i := fun z => by
      subst z
      rw [List.getElem?_set_self hiσ] at e2; cases e2
    have e2' : (σ.set i (some V.non))[j]? = some (some v') := by
      rw [List.getElem?_set_ne (Ne.symm hj)] at e2 ⊢; exact e2
    obtain ⟨u', r', q⟩ := hl j y v' e1 e2' e3
    refine ⟨u', r', ?_⟩
    rcases q with ⟨k, e⟩ | ⟨k, c, e, z⟩
    · refine .inl ⟨k, ?_⟩
      have : y ≠ n := fun e => hj (nodup_ix hN e1 (e ▸ hi))
      simp [this, e]
    · exact .inr ⟨k, c, e, z.sameBut hs (cne y c e)⟩
  · obtain ⟨w', z⟩ := I1.cell y c e
    exact ⟨w', z.sameBut hs (cne y c e)⟩
  · obtain ⟨e, n, ne, nf, d⟩ := I1.pin p hp
    exact ⟨(hs.2 p.1 ne).trans e, n, ne, nf, d⟩
  · refine (I1.hok b ob e).stay (fun c w' hc q => (hs.2 c ?_).trans q) (fun _ q => q) fun _ _ q => q
    rintro rfl
    rcases hc with rfl | hc
    · rw [I1.free] at e; cases e
    · rw [I1.free] at hc; cases hc
end

def handEnds (i : Nat) (D : Ends) : Ends := { nx := fun σ H => D.nx (σ.set i none) H, rt := D.rt, bk := fun σ H => D.bk (σ.set i none) H, ct := fun σ H => D.ct (σ.set i none) H }
def tTryAs (K : PySem.W.Frag) (C : Addr) (i : Nat) (tb : TSx) (th : TS) : TS := fun D σ H => tb D (fun σ' C' H' => C' = C ∧ ∀ ea oe, H' ea = none → IsExc K C oe → th (handEnds i D) (σ'.set i (some (.ref ea))) (upd H' ea (.frz oe (.own 0)))) σ H
theorem UpToSlots.trans {a b c : Heap} (x : a.UpToSlots b) (y : b.UpToSlots c) : a.UpToSlots c := fun p o e d => by
  obtain ⟨sl, e1⟩ := x p o e d
  obtain ⟨sl2, e2⟩ := y p _ e1 d
  exact ⟨sl2, e2⟩
section
variable {X : Cx}
/-- the state in which the handler's suite begins -/
theorem land_ok {pins : List (Addr × Obj)} {σ0 : St} {H0 H' : Hp} {s0 s1 : Shared} {C ea t : Addr} {B : Heap} {x : Str} {np hpos : Pos} {rest : List ExceptHandler} {name : Option Str} {suite : List Stmt} {Q : Flow → Shared → Prop}
    (hex : X.ex = []) (hst : X.stack = X.env :: X.outer ∧ X.env.frame = some X.env.locals) (xc : XCls X.K C) (hg : Gl X x) (hm : X.mg x = some (.ref C)) (hdb : (x == ("__debug__" : Str)) = false)
    (I0 : Inv X pins σ0 H0 s0) (F : Fly X.prog X.w X.stack H0 H' s0 C ea t B s1)
    (h : ∀ (s3 : Shared), (∀ {Q' : Unit → Shared → Prop} {E' : Value → Shared → Prop}, (∀ s4 oe, Inv X pins σ0 H' s4 → Inv X pins σ0 (upd H' ea (.frz oe (.own 0))) s4 → H' ea = none → IsExc X.K C oe → Q' () s4) → wpAny (model X.prog X.w) (X.A.mark (some (.ref ea))) (setFlight (.ref ea) none) Q' E' s3) →
      codeAny (model X.prog X.w) (X.A.mark (some (.ref ea))) (.handlers (.ref ea) [.ExceptHandler none name suite hpos] X.env) (fun r s₂ => match r with
        | .ok f => match name with
          | none => Q f s₂
          | some n => wpAny (model X.prog X.w) X.A (do bindName X.env n Value.none; unbindBehindTheSuite X.env n hpos) (fun _ s₃ => Q f s₃) X.xe s₂
        | .error x => cameBackBy (model X.prog X.w) X.A X.env X.xe x s₂) s3) :
    wpAny (model X.prog X.w) X.A (noteFrame (.ref ea) X.env) (fun _ s₂ => wpAny (model X.prog X.w) X.A (setFlight (.ref ea) none) (fun _ s₃ => wpAny (model X.prog X.w) X.A (handleBy (.ref ea) X.env (.ExceptHandler (some (.Name x np)) name suite hpos :: rest)) Q X.xe s₃) X.xe s₂) X.xe s1 := by
  have hfl : B.FlyingW (X.env :: X.outer) ea (.ref C) (.ref t) s1.heap := by rw [← hst.1]; exact F.fly
  refine wpAny_looks_onW (base := B) (env := X.env) (outer := X.outer) (by rw [I0.ok.frames, hst.1]) hst.2 hfl fun h2 held up => ?_
  refine wpAny_landsW (s := { s1 with heap := h2 }) held fun h3 fly3 up3 => ?_
  have up13 : s1.heap.UpToSlots h3 := UpToSlots.trans up up3
  have I3 : Inv X pins σ0 H' { s1 with heap := h3 } := I0.fly F fly3.1 up13
  obtain ⟨st3, hne, ff3, tr3⟩ := id fly3
  obtain ⟨oe, vs, T, oT, ts, he, ⟨hc, h0⟩, hd, _⟩ := id tr3
  obtain ⟨nm, q, N, bs, bm, bmB, hdct, sn, sub, ab, col, dd, k0, k1, k2, k3, k5, newId, B', nid, initId, Bn, inN, bmN, lk, qn, tl, has, F1, F2, F3, F4⟩ := xc.ex
  refine wpAny_handleBy_cons (codeAny_handlers_test ?_) (by nofun)
  refine ld_glob (X := X.hand ea) (I3.hand ea) hg hm ?_ hdb
  refine wpAny_excMatches_sub_self (I3.kIn _ _ lk) he hc has ?_
  refine h { s1 with heap := h3 } fun {Q' E'} k => ?_
  refine wpAny_setFlight_noneW (s := { s1 with heap := h3 }) (base := B) (l := X.env :: X.outer) (fl := .none) st3 ff3 tr3 fun h4 st4 ff4 tr4 k4 => ?_
  have up34 : h3.UpToSlots h4 := fun b o e d => ⟨o.slots, k4 b o e d⟩
  have I4 : Inv X pins σ0 H' { s1 with heap := h4 } := I0.fly F st4 (UpToSlots.trans up13 up34)
  obtain ⟨oe4, vs4, T4, oT4, ts4, he4, ⟨hc4, h04⟩, hd4, _⟩ := id tr4
  have n0 : H' ea = none := by
    cases z : H' ea with
    | none => rfl
    | some u =>
      obtain ⟨_, y⟩ := F.trk ea u z
      obtain ⟨_, _, _, tr⟩ := F.fly
      obtain ⟨o1, _, _, _, _, e1, _⟩ := tr
      have := y _ e1
      rw [F.fly.2.1] at this; cases this
  have nst : ea ∉ frs X.stack := fun z => by
    obtain ⟨_, o, e, d⟩ := I4.stack.mem z
    have e' : h4.get? ea = some o := e
    rw [he4] at e'; cases e'
    exact d _ hd4
  have nall : s0.heap.get? ea = none := by
    cases z : s0.heap.get? ea with
    | none => rfl
    | some o =>
      rcases F.all ea o z with y | ⟨o', y⟩
      · exact absurd y nst
      · rw [F.fly.2.1] at y; cases y
  refine k _ oe4 I4 (I4.track' he4 n0 (fun z => ?_) (fun y c e z => ?_) (fun p hp z => ?_) ?_) n0 ⟨xc, hc4⟩
  · obtain ⟨m, ⟨o, es, ep, e, d, _⟩, _⟩ := I4.loc
    have e' : h4.get? X.env.locals = some o := e
    rw [← z, he4] at e'; cases e'
    rw [hd4] at d; cases d
  · obtain ⟨v, o, e', d⟩ := I4.cell y c e
    have e' : h4.get? c = some o := e'
    rw [z, he4] at e'; cases e'
    rw [hd4] at d; cases d
  · obtain ⟨e, _⟩ := I0.pin p hp
    rw [z, nall] at e; cases e
  · cases z : X.s₀.heap.get? ea with
    | none => rfl
    | some o =>
      obtain ⟨o', e⟩ := I0.base.there ea o z (by rw [hex]; simp)
      rw [nall] at e; cases e
theorem ps_tryAs {x n : Str} {C : Addr} {i : Nat} {body suite : List Stmt} {b₀ : Stmt} {tb : TSx} {th : TS} {np hpos pos : Pos} (hex : X.ex = []) (hst : X.stack = X.env :: X.outer ∧ X.env.frame = some X.env.locals) (hN : X.N.Nodup) (hi : X.N[i]? = some n) (hk : X.env.scope.names.lookup n = some .local)
    (xc : XCls X.K C) (hg : Gl X x) (hm : X.mg x = some (.ref C)) (hb : PSsx X body tb) (hh : ∀ e, PSs (X.hand e).nox (b₀ :: suite) th) (hdb : (x == ("__debug__" : Str)) = false := by decide) :
    PS X (.Try body [.ExceptHandler (some (.Name x np)) (some n) (b₀ :: suite) hpos] [] [] pos) (tTryAs X.K C i tb th) := by
  intro pins s σ H D I h
  refine wpAny_Try_except (wpAny_mono (hb pins s σ H D _ I h) (fun f s1 q => ?_) fun e s1 q => ?_)
  · cases f with
    | next => exact wpAny_execs_nil q
    | brk => exact q
    | cont => exact q
    | ret u => exact q
  · obtain ⟨ea, t, C', B, H0, H', σ', s0, rfl, I0, F, rfl, q⟩ := q
    refine land_ok hex hst xc hg hm hdb I0 F fun s3 k => codeAny_handlers_suite_as (k fun s4 oe I4 I5 n0 ix => ?_)
    refine store_ok (X := X.hand ea) (I5.hand ea) hN hi (.inl hk) (v := .ref ea) rfl (fun s6 I6 => ?_) (.inr hk)
    refine wpAny_mono (hh ea pins s6 _ _ (handEnds i D) (I6.wish _) (q ea oe n0 ix)) (fun f s7 q7 => ?_) fun _ _ z => z.elim
    cases f with
    | next => obtain ⟨σ7, H7, I7, q⟩ := q7; exact unbind_ok (I7.unwish.unhand I0.ok) hN hi hk fun s8 I8 => ⟨_, _, I8, q⟩
    | brk => obtain ⟨σ7, H7, I7, q⟩ := q7; exact unbind_ok (I7.unwish.unhand I0.ok) hN hi hk fun s8 I8 => ⟨_, _, I8, q⟩
    | cont => obtain ⟨σ7, H7, I7, q⟩ := q7; exact unbind_ok (I7.unwish.unhand I0.ok) hN hi hk fun s8 I8 => ⟨_, _, I8, q⟩
    | ret u => obtain ⟨v, σ7, H7, I7, r, q⟩ := q7; exact unbind_ok (I7.unwish.unhand I0.ok) hN hi hk fun s8 I8 => ⟨v, _, _, I8, r, q⟩
def tTry0 (C : Addr) (tb : TSx) (th : TS) : TS := fun D σ H => tb D (fun σ' C' H' => C' = C ∧ th D σ' H') σ H
theorem ps_try0 {x : Str} {C : Addr} {body suite : List Stmt} {b₀ : Stmt} {tb : TSx} {th : TS} {np hpos pos : Pos} (hex : X.ex = []) (hst : X.stack = X.env :: X.outer ∧ X.env.frame = some X.env.locals)
    (xc : XCls X.K C) (hg : Gl X x) (hm : X.mg x = some (.ref C)) (hb : PSsx X body tb) (hh : ∀ e, PSs (X.hand e).nox (b₀ :: suite) th) (hdb : (x == ("__debug__" : Str)) = false := by decide) :
    PS X (.Try body [.ExceptHandler (some (.Name x np)) none (b₀ :: suite) hpos] [] [] pos) (tTry0 C tb th) := by
  intro pins s σ H D I h
  refine wpAny_Try_except (wpAny_mono (hb pins s σ H D _ I h) (fun f s1 q => ?_) fun e s1 q => ?_)
  · cases f with
    | next => exact wpAny_execs_nil q
    | brk => exact q
    | cont => exact q
    | ret u => exact q
  · obtain ⟨ea, t, C', B, H0, H', σ', s0, rfl, I0, F, rfl, q⟩ := q
    refine land_ok hex hst xc hg hm hdb I0 F fun s3 k => codeAny_handlers_suite (k fun s4 oe I4 I5 n0 ix => ?_)
    refine wpAny_mono (hh ea pins s4 _ _ D ((I4.hand ea).wish _) q) (fun f s7 q7 => ?_) fun _ _ z => z.elim
    cases f with
    | next => obtain ⟨σ7, H7, I7, q⟩ := q7; exact ⟨_, _, I7.unwish.unhand I0.ok, q⟩
    | brk => obtain ⟨σ7, H7, I7, q⟩ := q7; exact ⟨_, _, I7.unwish.unhand I0.ok, q⟩
    | cont => obtain ⟨σ7, H7, I7, q⟩ := q7; exact ⟨_, _, I7.unwish.unhand I0.ok, q⟩
    | ret u => obtain ⟨v, σ7, H7, I7, r, q⟩ := q7; exact ⟨v, _, _, I7.unwish.unhand I0.ok, r, q⟩
end
end L2

set_option Elab.async false
set_option linter.all false
set_option maxRecDepth 100000
namespace L2
open PySem PySem.Spec PyProof.Rows
/-! ### Q. zip(reversed(list), list) -/
theorem stop_ok {α : Type} {M : Model} {A : Around} {E : Value → Shared → Prop} {s : Shared} {Q : α → Shared → Prop} (hh : A.handled = none)
    (h : ∀ (h' : Heap) (e : Addr), (∀ b o, s.heap.get? b = some o → h'.get? b = some o) → (∃ o, h'.get? e = some o ∧ o.cls = .type "StopIteration") → E (.ref e) { s with heap := h' }) :
    wpAny M A (Builtin.SmallTypes.stopIteration : Sem α) Q E s := by
  unfold Builtin.SmallTypes.stopIteration newExc
  refine wpAny_bind (wpAny_bind (wpAny_newTuple ?_))
  rw [firstArgMember.eq_1]
  refine wpAny_bind (wpAny_bind (wpAny_pure (wpAny_pure ?_)))
  refine wpAny_newObj_type ?_ (by show sizeOk (.fields _); unfold sizeOk; rw [show ownMembersOf (Value.type "StopIteration") [] = #[] by kernel_rfl]; show (6 : Nat) ≤ _; decide)
  refine wpAny_raiseNew_none hh (h _ _ (fun b o e => Heap.get?_push_of_some _ (Heap.get?_push_of_some _ e)) ⟨_, Heap.get?_push_size _ rfl, rfl⟩)
theorem next_rev_item {prog : Program} {w : World} {A : Around} {E : Value → Shared → Prop} {s : Shared} {it l : Addr} {i : Nat} {items : Array Value} {x : Value} {Q : Value → Shared → Prop}
    (st : s.heap.IsRevIter it l i) (p : s.heap.IsList l items) (hx : items[i]? = some x) (h : ∀ h' : Heap, h'.IsRevIter it l ((i : Int) - 1) → Heap.SameBut it s.heap h' → Q x { s with heap := h' }) :
    wpAny (model prog w) A (Builtin.SmallTypes.nextOf (.ref it)) Q E s := by
  unfold Builtin.SmallTypes.nextOf
  obtain ⟨⟨oc, od, oda, osl⟩, e, c, d⟩ := id st
  cases d
  refine wpAny_bind (wpAny_callSpecial?_slot (T := "list_reverseiterator") ⟨_, e, c⟩ F.slot_lri_next ?_)
  refine wpAny_call (codeAny_call_builtin F.slot_lri_next.plain F.entry_lri_next ?_)
  refine F.slot_lri_next.check _ _ _ _ _ _ _ _ ⟨_, e, c⟩ (F.args_lri_next_1 _) ?_
  unfold Builtin.«list_reverseiterator.__next__»
  refine wpAny_bind (wpAny_pure ?_)
  refine wpAny_bind (wpAny_field e rfl rfl ?_)
  show wpAny _ _ (ite _ _ _) _ _ _
  rw [if_neg (by omega)]
  refine wpAny_bind (wpAny_field e rfl rfl ?_)
  obtain ⟨ol, el, cl, nl, dl⟩ := id p
  refine wpAny_bind (wpAny_seqItems el dl ?_)
  dsimp only
  rw [show items[(i : Int).toNat]? = some x from hx]
  refine wpAny_bind (wpAny_setField e rfl (by simp) ?_)
  refine wpAny_pure ?_
  refine wpAny_pure ?_
  have gs := Heap.get?_update_self (h := s.heap) (Obj.mapFields fun y => y.setIfInBounds 1 (rawInt ((i : Int) - 1))) e rfl
  exact h _ ⟨_, gs, c, rfl⟩ (Heap.SameBut.update _ _ _)
theorem next_rev_end {prog : Program} {w : World} {A : Around} {E : Value → Shared → Prop} {s : Shared} {it l : Addr} {Q : Value → Shared → Prop} (hh : A.handled = none)
    (st : s.heap.IsRevIter it l (-1)) (h : ∀ (h' : Heap) (e : Addr), (∀ b o, s.heap.get? b = some o → h'.get? b = some o) → (∃ o, h'.get? e = some o ∧ o.cls = .type "StopIteration") → E (.ref e) { s with heap := h' }) :
    wpAny (model prog w) A (Builtin.SmallTypes.nextOf (.ref it)) Q E s := by
  unfold Builtin.SmallTypes.nextOf
  obtain ⟨⟨oc, od, oda, osl⟩, e, c, d⟩ := id st
  cases d
  refine wpAny_bind (wpAny_callSpecial?_slot (T := "list_reverseiterator") ⟨_, e, c⟩ F.slot_lri_next ?_)
  refine wpAny_call (codeAny_call_builtin F.slot_lri_next.plain F.entry_lri_next ?_)
  refine F.slot_lri_next.check _ _ _ _ _ _ _ _ ⟨_, e, c⟩ (F.args_lri_next_1 _) ?_
  unfold Builtin.«list_reverseiterator.__next__»
  refine wpAny_bind (wpAny_pure ?_)
  refine wpAny_bind (wpAny_field e rfl rfl ?_)
  show wpAny _ _ (ite _ _ _) _ _ _
  rw [if_pos (by decide)]
  refine wpAny_bind (wpAny_rule ?_)
  refine wpAny_bind (stop_ok hh fun h' e' k x => ?_)
  exact h h' e' k x

/-- the zip's own things -/
structure ZipSt (h : Heap) (z TI TO i1 i2 l1 l2 : Addr) (k1 : Int) (k2 : Nat) (f0 : Value) : Prop where
  z : IsZip h z TI TO f0
  ti : IsPair h TI (.ref i1) (.ref i2)
  to : ∃ a b, IsPair h TO a b
  r : h.IsRevIter i1 l1 k1
  l : h.IsListIter i2 l2 k2
theorem zip_item {prog : Program} {w : World} {A : Around} {E : Value → Shared → Prop} {s : Shared} {z TI TO i1 i2 l1 l2 : Addr} {k1 k2 : Nat} {xs ys : Array Value} {x y : Value} {Q : Option Value → Shared → Prop}
    (ap : ZipApart z TI TO i1 i2 l1 l2) (st : ZipSt s.heap z TI TO i1 i2 l1 l2 k1 k2 .none) (p1 : s.heap.IsList l1 xs) (p2 : s.heap.IsList l2 ys) (hx : xs[k1]? = some x) (hy : ys[k2]? = some y)
    (h : ∀ h' : Heap, ZipSt h' z TI TO i1 i2 l1 l2 ((k1 : Int) - 1) (k2 + 1) (rawInt s.heap.objs.size) → IsPair h' s.heap.objs.size x y → (∀ c o, c ≠ z → c ≠ TO → c ≠ i1 → c ≠ i2 → s.heap.get? c = some o → h'.get? c = some o) → Q (some (.ref s.heap.objs.size)) { s with heap := h' }) :
    wpAny (model prog w) A (pyNext (.ref z)) Q E s := by
  obtain ⟨hz, hti, ⟨a, b, hto⟩, hr, hl⟩ := st
  unfold pyNext
  refine wpAny_bind (wpAny_attempt (wpAny_callSpecial?_slot (T := "zip") ⟨_, hz, rfl⟩ F.slot_zip_next ?_))
  refine wpAny_call (codeAny_call_builtin F.slot_zip_next.plain F.entry_zip_next ?_)
  refine F.slot_zip_next.check _ _ _ _ _ _ _ _ ⟨_, hz, rfl⟩ (F.args_zip_next_1 _) ?_
  unfold Builtin.«zip.__next__»
  refine wpAny_bind (wpAny_pure ?_)
  refine wpAny_bind (wpAny_field hz rfl rfl ?_)
  refine wpAny_bind (wpAny_field hz rfl rfl ?_)
  refine wpAny_bind (wpAny_seqItems hti rfl ?_)
  dsimp only
  rw [if_neg (by simp)]
  refine wpAny_bind ?_
  unfold Builtin.SmallTypes.ownedTupleIsFree
  refine wpAny_bind (wpAny_field hz rfl rfl ?_)
  refine wpAny_pure ?_
  rw [if_pos rfl]
  refine wpAny_bind (wpAny_rule ?_)
  refine wpAny_bind (wpAny_field hz rfl rfl ?_)
  refine wpAny_bind (wpAny_setField_rec hz (by simp) fun h1 hz1 sb1 => ?_)
  refine wpAny_bind ?_
  show wpAny _ _ (forIn [(Value.ref i1, 0), (Value.ref i2, 1)] _ _) _ _ _
  rw [List.forIn_cons]
  refine wpAny_bind ?_
  refine wpAny_bind (wpAny_onRaise ?_)
  show wpAny _ _ (do let v ← Builtin.SmallTypes.nextOf (.ref i1); pure (some v)) _ _ _
  have hr1 : h1.IsRevIter i1 l1 k1 := hr.at fun o e => (sb1.2 i1 ap.i1z).trans e
  have p11 : h1.IsList l1 xs := by obtain ⟨o, e, r⟩ := p1; exact ⟨o, (sb1.2 l1 ap.l1z).trans e, r⟩
  refine wpAny_bind (next_rev_item (s := { s with heap := h1 }) hr1 p11 hx fun h2 hr2 sb2 => ?_)
  refine wpAny_pure ?_
  have hto2 : IsPair h2 TO a b := (sb2.2 TO ap.TOi1).trans ((sb1.2 TO ap.TOz).trans hto)
  refine wpAny_bind (wpAny_seqItems hto2 rfl ?_)
  refine wpAny_bind (wpAny_updateSeq_pair (s := { s with heap := h2 }) hto2 fun h3 hto3 sb3 => ?_)
  refine wpAny_bind (wpAny_letGo ?_)
  refine wpAny_pure ?_
  show wpAny _ _ (forIn [(Value.ref i2, 1)] _ _) _ _ _
  rw [List.forIn_cons]
  refine wpAny_bind ?_
  refine wpAny_bind (wpAny_onRaise ?_)
  show wpAny _ _ (do let v ← Builtin.SmallTypes.nextOf (.ref i2); pure (some v)) _ _ _
  have k13 : ∀ c o, c ≠ z → c ≠ TO → c ≠ i1 → s.heap.get? c = some o → h3.get? c = some o := fun c o n1 n2 n3 e => (sb3.2 c n2).trans ((sb2.2 c n3).trans ((sb1.2 c n1).trans e))
  have hl3 : h3.IsListIter i2 l2 k2 := by obtain ⟨o, e, r⟩ := hl; exact ⟨o, k13 i2 o ap.i2z (Ne.symm ap.TOi2) (Ne.symm ap.i12) e, r⟩
  have p23 : h3.IsList l2 ys := by obtain ⟨o, e, r⟩ := p2; exact ⟨o, k13 l2 o ap.l2z ap.l2TO ap.l2i1 e, r⟩
  refine wpAny_bind (wpAny_nextOf_list_item (s := { s with heap := h3 }) hl3 p23 hy fun h4 hl4 sb4 => ?_)
  refine wpAny_pure ?_
  have hto4 : IsPair h4 TO x b := (sb4.2 TO ap.TOi2).trans hto3
  refine wpAny_bind (wpAny_seqItems hto4 rfl ?_)
  refine wpAny_bind (wpAny_updateSeq_pair (s := { s with heap := h4 }) hto4 fun h5 hto5 sb5 => ?_)
  refine wpAny_bind (wpAny_letGo ?_)
  refine wpAny_pure ?_
  show wpAny _ _ (forIn ([] : List (Value × Nat)) _ _) _ _ _
  rw [List.forIn_nil]
  refine wpAny_pure ?_
  have hto5 : IsPair h5 TO x y := hto5
  refine wpAny_bind (wpAny_seqItems hto5 rfl ?_)
  refine wpAny_bind (wpAny_newTuple ?_)
  have hz5 : h5.get? z = some { cls := .type "zip", data := .fields #[.ellipsis, .bool false, .bool false, .ref TI, .ref TO] } :=
    (sb5.2 z (Ne.symm ap.TOz)).trans ((sb4.2 z (Ne.symm ap.i2z)).trans ((sb3.2 z (Ne.symm ap.TOz)).trans ((sb2.2 z (Ne.symm ap.i1z)).trans hz1)))
  refine wpAny_bind ?_
  unfold Builtin.SmallTypes.ownedTupleHandOut
  refine wpAny_bind (wpAny_setField_rec (Heap.get?_push_of_some _ hz5) (by simp) fun h6 hz6 sb6 => ?_)
  refine wpAny_setField_rec (s := { s with heap := h6 }) hz6 (by simp) fun h7 hz7 sb7 => ?_
  refine wpAny_pure ?_
  refine wpAny_pure ?_
  have sz : h5.objs.size = s.heap.objs.size := by rw [sb5.1, show _ = _ from sb4.1, show _ = _ from sb3.1, show _ = _ from sb2.1, sb1.1]
  have k15 : ∀ c o, c ≠ z → c ≠ TO → c ≠ i1 → c ≠ i2 → s.heap.get? c = some o → h5.get? c = some o := fun c o n1 n2 n3 n4 e => (sb5.2 c n2).trans ((sb4.2 c n4).trans (k13 c o n1 n2 n3 e))
  have k57 : ∀ c o, c ≠ z → h5.get? c = some o → h7.get? c = some o := fun c o n1 e => (sb7.2 c n1).trans ((sb6.2 c n1).trans (Heap.get?_push_of_some _ e))
  have nz : h5.objs.size ≠ z := fun e => absurd (Heap.lt_size hz5) (by rw [← e]; exact Nat.lt_irrefl _)
  have fin := h h7 ⟨by rw [← sz]; exact hz7, k57 _ _ ap.TIz (k15 _ _ ap.TIz ap.TITO ap.TIi1 ap.TIi2 hti), ⟨x, y, k57 _ _ ap.TOz hto5⟩, ?_, ?_⟩ ?_ fun c o n1 n2 n3 n4 e => k57 c o n1 (k15 c o n1 n2 n3 n4 e)
  · show Q (some (.ref h5.objs.size)) _
    rw [sz]; exact fin
  · obtain ⟨o, e, r⟩ := hr2
    exact ⟨o, k57 _ _ ap.i1z ((sb5.2 i1 (Ne.symm ap.TOi1)).trans ((sb4.2 i1 ap.i12).trans ((sb3.2 i1 (Ne.symm ap.TOi1)).trans e))), r⟩
  · obtain ⟨o, e, r⟩ := hl4
    exact ⟨o, k57 _ _ ap.i2z ((sb5.2 i2 (Ne.symm ap.TOi2)).trans e), r⟩
  · rw [← sz]
    exact (sb7.2 _ nz).trans ((sb6.2 _ nz).trans (Heap.get?_push_size _ rfl))
theorem zip_end {prog : Program} {w : World} {A : Around} {E : Value → Shared → Prop} {s : Shared} {z TI TO i1 i2 l1 l2 : Addr} {k2 : Nat} {Q : Option Value → Shared → Prop} (hh : A.handled = none)
    (ap : ZipApart z TI TO i1 i2 l1 l2) (st : ZipSt s.heap z TI TO i1 i2 l1 l2 (-1) k2 .none) (h : ∀ h' : Heap, (∀ c o, c ≠ z → s.heap.get? c = some o → h'.get? c = some o) → Q none { s with heap := h' }) :
    wpAny (model prog w) A (pyNext (.ref z)) Q E s := by
  obtain ⟨hz, hti, ⟨a, b, hto⟩, hr, hl⟩ := st
  unfold pyNext
  refine wpAny_bind (wpAny_attempt (wpAny_callSpecial?_slot (T := "zip") ⟨_, hz, rfl⟩ F.slot_zip_next ?_))
  refine wpAny_call (codeAny_call_builtin F.slot_zip_next.plain F.entry_zip_next ?_)
  refine F.slot_zip_next.check _ _ _ _ _ _ _ _ ⟨_, hz, rfl⟩ (F.args_zip_next_1 _) ?_
  unfold Builtin.«zip.__next__»
  refine wpAny_bind (wpAny_pure ?_)
  refine wpAny_bind (wpAny_field hz rfl rfl ?_)
  refine wpAny_bind (wpAny_field hz rfl rfl ?_)
  refine wpAny_bind (wpAny_seqItems hti rfl ?_)
  dsimp only
  rw [if_neg (by simp)]
  refine wpAny_bind ?_
  unfold Builtin.SmallTypes.ownedTupleIsFree
  refine wpAny_bind (wpAny_field hz rfl rfl ?_)
  refine wpAny_pure ?_
  rw [if_pos rfl]
  refine wpAny_bind (wpAny_rule ?_)
  refine wpAny_bind (wpAny_field hz rfl rfl ?_)
  refine wpAny_bind (wpAny_setField_rec hz (by simp) fun h1 hz1 sb1 => ?_)
  refine wpAny_bind ?_
  show wpAny _ _ (forIn [(Value.ref i1, 0), (Value.ref i2, 1)] _ _) _ _ _
  rw [List.forIn_cons]
  refine wpAny_bind ?_
  refine wpAny_bind (wpAny_onRaise ?_)
  show wpAny _ _ (do let v ← Builtin.SmallTypes.nextOf (.ref i1); pure (some v)) _ _ _
  have hr1 : h1.IsRevIter i1 l1 (-1) := hr.at fun o e => (sb1.2 i1 ap.i1z).trans e
  refine wpAny_bind (next_rev_end (s := { s with heap := h1 }) hh hr1 fun h2 e k2 ⟨oe, he, hc⟩ => ?_)
  refine wpAny_setField_rec (s := { s with heap := h2 }) (k2 _ _ hz1) (by simp) fun h3 hz3 sb3 => ?_
  have ne : e ≠ z := fun q => by
    have q1 := k2 _ _ hz1
    rw [← q, he] at q1
    have q2 := congrArg Obj.cls (Option.some.inj q1)
    rw [hc] at q2
    exact absurd q2 (by simp)
  have he3 : h3.get? e = some oe := (sb3.2 e ne).trans he
  dsimp only
  refine wpAny_bind ?_
  unfold isInstance
  refine wpAny_bind (wpAny_typeOf_ref (s := { s with heap := h3 }) he3 ?_)
  rw [hc, isSubtype_stop]
  refine wpAny_pure ?_
  refine wpAny_pure ?_
  exact h h3 fun c o n e => (sb3.2 c n).trans (k2 _ _ ((sb1.2 c n).trans e))

theorem call_zip_rev {prog : Program} {w : World} {A : Around} {E : Value → Shared → Prop} {s : Shared} {r l1 l2 : Addr} {k1 : Int} {ys : Array Value} {Q : Value → Shared → Prop} (hr : s.heap.IsRevIter r l1 k1) (hl : s.heap.IsList l2 ys)
    (h : ∀ (h' : Heap), ZipSt h' (s.heap.objs.size + 3) (s.heap.objs.size + 1) (s.heap.objs.size + 2) r s.heap.objs.size l1 l2 k1 0 .none → (∀ c o, s.heap.get? c = some o → h'.get? c = some o) → Q (.ref (s.heap.objs.size + 3)) { s with heap := h' }) :
    wpAny (model prog w) A (call (.type "zip") [.ref r, .ref l2]) Q E s := by
  refine callType_new F.called_zip (by decide) (F.typeCall_zip_2 _ _) (F.newCall_zip_2 _ _) (fun obj => F.args_object_init_3 obj _ _) F.entry_zip_new
    (S := fun _ R s => s.heap.IsRevIter r l1 k1 ∧ s.heap.IsList l2 ys ∧ ∀ (h' : Heap), ZipSt h' (s.heap.objs.size + 3) (s.heap.objs.size + 1) (s.heap.objs.size + 2) r s.heap.objs.size l1 l2 k1 0 .none → (∀ c o, s.heap.get? c = some o → h'.get? c = some o) → R (.ok (.ret (.ref (s.heap.objs.size + 3)))) { s with heap := h' }) ?_ ⟨hr, hl, fun h' z k => ⟨⟨_, z.z, rfl⟩, h h' z k⟩⟩
  intro prog w A R s ⟨hr, hl, h⟩
  unfold Builtin.«zip.__new__»
  refine wpAny_bind ?_
  unfold Builtin.SmallTypes.newClass
  dsimp only
  refine wpAny_bind (wpAny_pure ?_)
  rw [if_neg (by simp)]
  rw [sub_zip]
  refine wpAny_bind (wpAny_pure ?_)
  rw [if_neg (by simp)]
  refine wpAny_pure ?_
  dsimp only
  rw [if_neg (by simp)]
  refine wpAny_bind ?_
  unfold Builtin.SmallTypes.iterAll
  refine wpAny_bind ?_
  rw [List.forIn_cons]
  refine wpAny_bind (wpAny_bind (wpAny_holding (wpAny_pyIter_revIter hr (wpAny_pure ?_))))
  show wpAny _ _ (forIn [Value.ref l2] _ _) _ _ _
  rw [List.forIn_cons]
  refine wpAny_bind (wpAny_bind (wpAny_holding (wpAny_pyIter_list hl (wpAny_pure ?_))))
  show wpAny _ _ (forIn ([] : List Value) _ _) _ _ _
  rw [List.forIn_nil]
  refine wpAny_pure (wpAny_pure ?_)
  refine wpAny_bind (wpAny_newTuple ?_ (by show (2 : Nat) ≤ _; decide))
  refine wpAny_bind (wpAny_newTuple ?_ (by show (2 : Nat) ≤ _; decide))
  refine wpAny_bind ?_
  unfold Builtin.SmallTypes.newRecord
  refine wpAny_newObj_type ?_ (by show (5 : Nat) ≤ _; decide)
  refine wpAny_pure ?_
  have sz1 : ∀ (h : Heap) (o : Obj), (h.push o).objs.size = h.objs.size + 1 := fun h o => by simp [Heap.push]
  have e0 : ∀ (h : Heap) (o : Obj), o.isFreed = false → (h.push o).get? h.objs.size = some o := fun h o q => Heap.get?_push_size _ q
  dsimp only
  simp only [sz1]
  refine h _ ⟨?_, ?_, ⟨.none, .none, ?_⟩, ?_, ?_⟩ (fun c o e => Heap.get?_push_of_some _ (Heap.get?_push_of_some _ (Heap.get?_push_of_some _ (Heap.get?_push_of_some _ e))))
  · have := e0 (((s.heap.push { cls := .type "list_iterator", data := .fields #[.ref l2, .int 0 0] }).push { cls := .type "tuple", data := .seq #[.ref r, .ref s.heap.objs.size] }).push { cls := .type "tuple", data := .seq #[.none, .none] })
      { cls := .type "zip", data := .fields #[.none, .bool false, .bool false, .ref (s.heap.objs.size + 1), .ref (s.heap.objs.size + 1 + 1)] } rfl
    simp only [sz1] at this
    exact this
  · have := e0 ((s.heap.push { cls := .type "list_iterator", data := .fields #[.ref l2, .int 0 0] })) { cls := .type "tuple", data := .seq #[.ref r, .ref s.heap.objs.size] } rfl
    simp only [sz1] at this
    exact Heap.get?_push_of_some _ (Heap.get?_push_of_some _ this)
  · have := e0 ((s.heap.push { cls := .type "list_iterator", data := .fields #[.ref l2, .int 0 0] }).push { cls := .type "tuple", data := .seq #[.ref r, .ref s.heap.objs.size] }) { cls := .type "tuple", data := .seq #[.none, .none] } rfl
    simp only [sz1] at this
    exact Heap.get?_push_of_some _ this
  · exact hr.at fun o e => Heap.get?_push_of_some _ (Heap.get?_push_of_some _ (Heap.get?_push_of_some _ (Heap.get?_push_of_some _ e)))
  · exact ⟨_, Heap.get?_push_of_some _ (Heap.get?_push_of_some _ (Heap.get?_push_of_some _ (Heap.get?_push_size _ rfl))), rfl, rfl⟩

/-- pairs: the first list from its end, the second from its start; as many of both -/
def Itz (K : PySem.W.Frag) (a b : Addr) (n : Nat) : It :=
  ⟨fun i H => i < n ∧ (∃ xs, SqL K H a xs ∧ xs.length = n) ∧ ∃ ys, SqL K H b ys ∧ ys.length = n,
   fun i H x H' => ∃ p u v, x = .ref p ∧ H p = none ∧ (∀ xs, SqL K H a xs → xs[n - 1 - i]? = some u) ∧ (∀ ys, SqL K H b ys → ys[i]? = some v) ∧ H' = upd H p (.tup [u, v]),
   fun i _ => i = n⟩
theorem ZipSt.at {h h' : Heap} {z TI TO i1 i2 l1 l2 : Addr} {k1 : Int} {k2 : Nat} {f0 : Value} (st : ZipSt h z TI TO i1 i2 l1 l2 k1 k2 f0) (k : ∀ b ∈ [z, TI, TO, i1, i2], ∀ o, h.get? b = some o → h'.get? b = some o) : ZipSt h' z TI TO i1 i2 l1 l2 k1 k2 f0 := by
  obtain ⟨a1, a2, ⟨x, y, a3⟩, a4, ⟨o, e, r⟩⟩ := st
  exact ⟨k z (by simp) _ a1, k TI (by simp) _ a2, ⟨x, y, k TO (by simp) _ a3⟩, a4.at fun o e => k i1 (by simp) _ e, ⟨o, k i2 (by simp) _ e, r⟩⟩
theorem turn_zip {P : Program} {w : World} {K : PySem.W.Frag} {es : List Expr} {kk : Nat} {tp : Pos} (a b z TI TO i1 i2 : Addr) (n : Nat) (ap : ZipApart z TI TO i1 i2 a b) :
    Turn P w K (.Tuple es kk tp) (Itz K a b n) [z, TI, TO, i1, i2] z (fun i h => ZipSt h z TI TO i1 i2 a b ((n : Int) - 1 - (i : Nat)) i .none) where
  mem := by simp
  obj := fun i h st c hc => by
    obtain ⟨a1, a2, ⟨x, y, a3⟩, ⟨o, e, _, d⟩, ⟨o', e', _, d'⟩⟩ := st
    simp only [List.mem_cons, List.not_mem_nil, or_false] at hc
    rcases hc with rfl | rfl | rfl | rfl | rfl
    · exact ⟨_, a1, fun v q => by cases q⟩
    · exact ⟨_, a2, fun v q => by cases q⟩
    · exact ⟨_, a3, fun v q => by cases q⟩
    · exact ⟨o, e, fun v q => by rw [d] at q; cases q⟩
    · exact ⟨o', e', fun v q => by rw [d'] at q; cases q⟩
  keep := fun i h h' st k => st.at k
  item := by
    intro X hP hw hK hc i pins s σ H E I hf st hg
    subst hP hw hK
    obtain ⟨hi, ⟨xs, hq1, hn1⟩, ⟨ys, hq2, hn2⟩⟩ := hg
    obtain ⟨its1, rv1, p1, hz1⟩ := I.list hq1
    obtain ⟨its2, rv2, p2, hz2⟩ := I.list hq2
    have hl1 := rv1.length
    have hl2 := rv2.length
    have hx : xs[n - 1 - i]? = some (xs[n - 1 - i]'(by omega)) := List.getElem?_eq_getElem (by omega)
    have hy : ys[i]? = some (ys[i]'(by omega)) := List.getElem?_eq_getElem (by omega)
    obtain ⟨u, hu, ru⟩ := rv1.get hx
    obtain ⟨v, hv, rv⟩ := rv2.get hy
    have st : ZipSt s.heap z TI TO i1 i2 a b ((n : Int) - 1 - (i : Nat)) i .none := st
    rw [show (n : Int) - 1 - (i : Nat) = ((n - 1 - i : Nat) : Int) by omega] at st
    refine zip_item ap st p1.isList p2.isList (x := u) (y := v) (by simpa using hu) (by simpa using hv) fun h' st' pr k => ⟨_, rfl, ?_⟩
    refine wpAny_letOwnedTupleGo_zip st'.z fun h2 hz2' sb => ?_
    have hp : H s.heap.objs.size = none := I.hok.fresh (Nat.le_refl _)
    have nz : s.heap.objs.size ≠ z := fun e => absurd (Heap.lt_size st.z) (by rw [← e]; exact Nat.lt_irrefl _)
    have k2 : ∀ c o, c ∉ [z, TI, TO, i1, i2] → s.heap.get? c = some o → h2.get? c = some o := fun c o nc e => by
      simp only [List.mem_cons, List.not_mem_nil, or_false, not_or] at nc
      exact (sb.2 c nc.1).trans (k c o nc.1 nc.2.2.1 nc.2.2.2.1 nc.2.2.2.2 e)
    have pr2 : IsPair h2 s.heap.objs.size u v := (sb.2 _ nz).trans pr
    have nfp : ∀ c o, H c = some o → c ∉ [z, TI, TO, i1, i2] := fun c o e hc => by rw [(hf c hc).1] at e; cases e
    have hne : ∀ c o, H c = some o → c ≠ s.heap.objs.size := fun c o e => ne_of_none e hp
    have I2 : Inv X pins σ (upd H s.heap.objs.size (.tup [xs[n - 1 - i]'(by omega), ys[i]'(by omega)])) { s with heap := h2 } := by
      refine I.call' (s' := { s with heap := h2 }) (ch := [z, TI, TO, i1, i2]) rfl ⟨fun c o e n nf nc => k2 c o nc e, fun c o e n hc nc => ⟨o.slots, k2 c o nc e⟩, fun c o e n nc => ?_, fun c o e nc => ⟨o, k2 c o nc e⟩, fun c xs e => ?_, fun c o u e => ?_, fun c ps e => ⟨#[], ?_⟩⟩ (fun c o e => ?_) I.bare fun c hc => ?_
      · rw [upd_ne (Nat.ne_of_lt (Heap.lt_size e))]; exact n
      · rw [upd_ne (hne _ _ e)]; exact e
      · rw [upd_ne (hne _ _ e)]; exact e
      · rw [upd_ne (hne _ _ e), Array.append_empty]; exact e
      · by_cases hc : c = s.heap.objs.size
        · subst hc
          rw [upd_same] at e; cases e
          exact ⟨by show (2 : Nat) ≤ _; decide, [u, v], .cons ru (.cons rv .nil), _, pr2, rfl, _, rfl⟩
        · rw [upd_ne hc] at e
          refine (I.hok c o e).stay (fun d w' hd q => k2 d w' ?_ q) (fun d q => by rw [upd_ne (hne _ _ q)]; exact q) fun d xs q => by rw [upd_ne (hne _ _ q)]; exact q
          rcases hd with rfl | hd
          · exact nfp _ _ e
          · exact nfp _ _ hd
      · obtain ⟨f0, f1, f2, f3, f4, f5⟩ := hf c hc
        exact ⟨f3, f1, f4, f5⟩
    refine ⟨.ref s.heap.objs.size, _, I2, rfl, ⟨_, _, _, rfl, hp, fun xs' h' => by rw [I.list_inj h' hq1]; exact hx, fun ys' h' => by rw [I.list_inj h' hq2]; exact hy, rfl⟩, ?_, fun c hc => ?_⟩
    · have st2 : ZipSt h2 z TI TO i1 i2 a b (((n - 1 - i : Nat) : Int) - 1) (i + 1) .none := by
        obtain ⟨_, a2, ⟨x, y, a3⟩, ⟨o, e, r⟩, ⟨o', e', r'⟩⟩ := st'
        exact ⟨hz2', (sb.2 _ ap.TIz).trans a2, ⟨x, y, (sb.2 _ ap.TOz).trans a3⟩, ⟨o, (sb.2 _ ap.i1z).trans e, r⟩, ⟨o', (sb.2 _ ap.i2z).trans e', r'⟩⟩
      rw [show ((n - 1 - i : Nat) : Int) - 1 = (n : Int) - 1 - ((i + 1 : Nat) : Int) by omega] at st2
      exact st2
    · have lt : c < s.heap.objs.size := by
        simp only [List.mem_cons, List.not_mem_nil, or_false] at hc
        obtain ⟨a1, a2, ⟨x, y, a3⟩, ⟨o, e, _⟩, ⟨o', e', _⟩⟩ := st
        rcases hc with rfl | rfl | rfl | rfl | rfl
        · exact Heap.lt_size a1
        · exact Heap.lt_size a2
        · exact Heap.lt_size a3
        · exact Heap.lt_size e
        · exact Heap.lt_size e'
      rw [upd_ne (Nat.ne_of_lt lt)]; exact (hf c hc).1
  done := by
    intro X hP hw hK hc i pins s σ H E I hf st hg
    subst hP hw hK
    have hg : i = n := hg
    have st : ZipSt s.heap z TI TO i1 i2 a b ((n : Int) - 1 - (i : Nat)) i .none := st
    rw [show (n : Int) - 1 - (i : Nat) = -1 by omega] at st
    obtain ⟨f0, f1, f2, f3, f4, f5⟩ := hf z (by simp)
    exact zip_end (I.ok.hd hc) ap st fun h' k => ⟨rfl, I.turned (t' := s.toks) (fun b o hb e => k b o hb e) f0 f1 f3 f4 f5⟩
  self := fun _ _ _ _ _ st h => wpAny_pyIter_zip st.z h

theorem zipApart_of {n r a b : Nat} (h1 : r < n) (h2 : a < n) (h3 : b < n) (h4 : a ≠ r) (h5 : b ≠ r) : ZipApart (n + 3) (n + 1) (n + 2) r n a b := by
  constructor <;> first | assumption | (show (_ : Nat) ≠ (_ : Nat); omega)
def iZipR (K : PySem.W.Frag) (ta tb : TE) : TI := fun σ H R => ta σ H fun x H1 => ∃ la xs, x = .ref la ∧ SqL K H1 la xs ∧ tb σ H1 fun y H2 => ∃ lb ys, y = .ref lb ∧ SqL K H2 la xs ∧ SqL K H2 lb ys ∧ xs.length = ys.length ∧ R (Itz K la lb xs.length) H2
theorem pi_zipRev {X : Cx} {es : List Expr} {kk : Nat} {tp : Pos} {a b : Expr} {ta tb : TE} {p pos p2 pos2 : Pos} (hg : Gl X "zip") (hm : X.mg "zip" = none) (hg2 : Gl X "reversed") (hm2 : X.mg "reversed" = none) (ha : PE X a ta) (hb : PE X b tb)
    (hs : starEach [.Call (.Name "reversed" p2) [a] [] pos2, b] X.env = [(false, eval (.Call (.Name "reversed" p2) [a] [] pos2) X.env), (false, eval b X.env)] := by rfl) (hs1 : starEach [b] X.env = [(false, eval b X.env)] := by rfl) (hs2 : starEach [a] X.env = [(false, eval a X.env)] := by rfl) :
    PI X (.Tuple es kk tp) (.Call (.Name "zip" p) [.Call (.Name "reversed" p2) [a] [] pos2, b] [] pos) (iZipR X.K ta tb) := by
  intro pins s σ H R I h
  refine Call_ (ld_blt I hg hm boot_zip (PyProof.Rows.callWith_type1 ?_ (by rw [hs, hs1]) (by rw [hs1]; rfl)))
  rw [hs]
  show wpAny _ _ (spliced ((false, eval _ X.env) :: backTo pos [(false, eval b X.env)])) _ _ s
  refine Calls.spliced_cons (Call_ (ld_blt I hg2 hm2 boot_reversed (PyProof.Rows.callWith_type1 ?_ hs2 rfl)))
  refine thn (pa_cons ha pa_nil hs2 pos2 pins s σ H (fun vs H1 => match vs with
    | [x] => ∃ la xs, x = .ref la ∧ SqL X.K H1 la xs ∧ tb σ H1 fun y H2 => ∃ lb ys, y = .ref lb ∧ SqL X.K H2 la xs ∧ SqL X.K H2 lb ys ∧ xs.length = ys.length ∧ R (Itz X.K la lb xs.length) H2
    | _ => False) I h) fun us s1 ⟨vs, H1, I1, r1, q1⟩ => ?_
  match vs, r1, q1 with
  | [x], .cons r .nil, ⟨la, xs, ex, hq, q⟩ =>
  subst ex
  cases r
  obtain ⟨its, rv, pl, hz⟩ := I1.list hq
  have hl := rv.length
  refine call_reversed_list pl.isList ?_
  have e1 : ((its.toArray.size : Nat) : Int) - 1 = (xs.length : Int) - 1 - ((0 : Nat) : Int) := by simp; omega
  have gr : (s1.heap.push (revObj la ((its.toArray.size : Int) - 1))).get? s1.heap.objs.size = some (revObj la ((its.toArray.size : Int) - 1)) := Heap.get?_push_size _ rfl
  have I2 : Inv X (pins ++ [(s1.heap.objs.size, revObj la ((its.toArray.size : Int) - 1))]) σ H1 { s1 with heap := s1.heap.push (revObj la ((its.toArray.size : Int) - 1)) } := by
    have I2 : Inv X pins σ H1 { s1 with heap := s1.heap.push (revObj la ((its.toArray.size : Int) - 1)) } := I1.kept (t' := s1.toks) fun b o e => Heap.get?_push_of_some _ e
    refine I2.pins_of fun p hp => ?_
    rcases List.mem_append.mp hp with hp | hp
    · exact I2.pin p (List.mem_append_right _ hp)
    · have : p = (s1.heap.objs.size, revObj la ((its.toArray.size : Int) - 1)) := by simpa using hp
      subst this
      exact ⟨gr, I1.hok.fresh (Nat.le_refl _), Nat.ne_of_gt I1.lt, I1.nofs (Nat.le_refl _), fun v z => by cases z⟩
  rw [← hs1]
  refine thn (pa_cons hb pa_nil hs1 pos _ _ σ H1 (fun vs H2 => match vs with
    | [y] => ∃ lb ys, y = .ref lb ∧ SqL X.K H2 la xs ∧ SqL X.K H2 lb ys ∧ xs.length = ys.length ∧ R (Itz X.K la lb xs.length) H2
    | _ => False) I2 q) fun us s2 ⟨vs, H2, I3, r2, q2⟩ => ?_
  match vs, r2, q2 with
  | [y], .cons r .nil, ⟨lb, ys, ey, hq1, hq2, hn, q⟩ =>
  subst ey
  cases r
  obtain ⟨its1, rv1, pl1, hz1⟩ := I3.list hq1
  obtain ⟨its2, rv2, pl2, hz2⟩ := I3.list hq2
  obtain ⟨g3, n3, _⟩ := I3.pin (s1.heap.objs.size, revObj la ((its.toArray.size : Int) - 1)) (by simp)
  have g3 : s2.heap.get? s1.heap.objs.size = some (revObj la ((its.toArray.size : Int) - 1)) := g3
  have hr3 : s2.heap.IsRevIter s1.heap.objs.size la ((xs.length : Int) - 1 - ((0 : Nat) : Int)) := by rw [← e1]; exact ⟨_, g3, rfl, rfl⟩
  have lr := Heap.lt_size g3
  have nl : ∀ c its, s2.heap.IsList c its → c ≠ s1.heap.objs.size ∧ c < s2.heap.objs.size := fun c its ⟨o, e, cc, _⟩ => ⟨fun z => by
    rw [z, g3] at e; cases e; exact absurd cc (by show ¬ (Value.type _ = Value.type _); simp), Heap.lt_size e⟩
  obtain ⟨na1, na2⟩ := nl _ _ pl1.isList
  obtain ⟨nb1, nb2⟩ := nl _ _ pl2.isList
  refine call_zip_rev hr3 pl2.isList fun h' st k => ?_
  refine wpAny_pyIter_zip st.z ?_
  have I4 : Inv X pins σ H2 { s2 with heap := h' } := Inv.unpinned (pl := [(s1.heap.objs.size, revObj la ((its.toArray.size : Int) - 1))]) (I3.kept (t' := s2.toks) k)
  refine ⟨_, [s2.heap.objs.size + 3, s2.heap.objs.size + 1, s2.heap.objs.size + 2, s1.heap.objs.size, s2.heap.objs.size], _, _, H2, rfl, I4, turn_zip la lb _ _ _ _ _ xs.length (zipApart_of lr na2 nb2 na1 nb1), st, fun c hc => ?_, q⟩
  have fr : ∀ c, s2.heap.objs.size ≤ c → FpOk X pins H2 c := fun c hc => (Inv.unpinned I3).fpOk hc (I3.hok.fresh hc)
  simp only [List.mem_cons, List.not_mem_nil, or_false] at hc
  rcases hc with rfl | rfl | rfl | rfl | rfl
  · exact fr _ (by omega)
  · exact fr _ (by omega)
  · exact fr _ (by omega)
  · obtain ⟨_, f1, f2, f3, f4, f5⟩ := I1.fpOk (Nat.le_refl _) (I1.hok.fresh (Nat.le_refl _))
    exact ⟨n3, f1, f2, f3, f4, f5⟩
  · exact fr _ (by omega)
/-- over both lists, which the body leaves as they are -/
theorem for_zipR {K : PySem.W.Frag} {a b : Addr} {xs ys : List V} {g : TG} {tb : TS} {D : Ends} {σ : St} {H : Hp} (hn : xs.length = ys.length) (Pv : Nat → St → Hp → Prop) (h0 : Pv 0 σ H) (hl : ∀ i σ H, i ≤ xs.length → Pv i σ H → SqL K H a xs ∧ SqL K H b ys)
    (hs : ∀ i u v p σ H, i < xs.length → xs[xs.length - 1 - i]? = some u → ys[i]? = some v → H p = none → Pv i σ H → g (.ref p) σ (upd H p (.tup [u, v])) fun σ2 H2 => tb { D with nx := Pv (i + 1), ct := Pv (i + 1), bk := D.nx } σ2 H2) (hd : ∀ σ H, Pv xs.length σ H → D.nx σ H) :
    ∃ W : Nat → Nat → St → Hp → Prop, (∃ m, W 0 m σ H) ∧ ∀ i m σ H, W i m σ H →
      ((Itz K a b xs.length).stop i H ∧ D.nx σ H) ∨ ((Itz K a b xs.length).go i H ∧ ∃ N : St → Hp → Prop, (∀ σ' H', N σ' H' → ∃ m', m' < m ∧ W (i + 1) m' σ' H') ∧ ∀ x H', (Itz K a b xs.length).yld i H x H' → g x σ H' fun σ2 H2 => tb { D with nx := N, ct := N, bk := D.nx } σ2 H2) := by
  refine ⟨fun i m σ H => m = xs.length - i ∧ i ≤ xs.length ∧ Pv i σ H, ⟨xs.length, by simp, Nat.zero_le _, h0⟩, ?_⟩
  rintro i m σ H ⟨rfl, hi, p⟩
  obtain ⟨q1, q2⟩ := hl i σ H hi p
  by_cases hlt : i < xs.length
  · refine .inr ⟨⟨hlt, ⟨xs, q1, rfl⟩, ⟨ys, q2, hn.symm⟩⟩, Pv (i + 1), fun σ' H' p' => ⟨xs.length - (i + 1), by omega, rfl, hlt, p'⟩, fun x H' y => ?_⟩
    obtain ⟨pp, u, v, rfl, hp, y1, y2, rfl⟩ := y
    exact hs i u v pp σ _ hlt (y1 xs q1) (y2 ys q2) hp p
  · have e : i = xs.length := by omega
    subst e
    exact .inl ⟨rfl, hd σ H p⟩
end L2

set_option Elab.async false
set_option linter.all false
set_option maxRecDepth 100000
namespace L2
open PySem PySem.Spec PyProof.Rows
/-! ### R. small rules -/
def repS (x : Str) (n : Int) : Str := if n < 1 then Str.empty else if (n == 1 || x.length == 0) = true then x else { cps := List.foldl (fun x1 x2 => x1 ++ x2) #[] (List.replicate n.toNat x.cps) }
theorem rep_size (c : Array Nat) : ∀ (k : Nat) (a : Array Nat), (List.foldl (fun x1 x2 => x1 ++ x2) a (List.replicate k c)).size = a.size + k * c.size
  | 0, a => by simp
  | k + 1, a => by
    rw [List.replicate_succ, List.foldl_cons, rep_size c k (a ++ c), Array.size_append, Nat.succ_mul]
    omega
section
variable {X : Cx}
theorem op_repStr : OpR X (binaryOp .Mult) (fun x y H Q => ∃ z n, x = .str z ∧ y = .int n ∧ 0 ≤ n ∧ n ≤ 1000 ∧ z.length ≤ 1000 ∧ Q (.str (repS z n)) H) := by
  intro pins s σ H x y v u Q I rx ry h
  obtain ⟨z, n, rfl, rfl, n0, n1, zl, q⟩ := h
  obtain ⟨t, rfl⟩ := rx
  obtain ⟨t2, rfl⟩ := ry
  refine PySem.P.mul_str (by simp; omega) (fun a b => ?_) (fun a b => ?_) ?_
  · have : (1000 : Int) ≤ (2 ^ 63 - 1) / n := (Int.le_ediv_iff_mul_le (by omega)).mpr (by omega)
    omega
  · unfold Builtin.Str.tooLong
    have : z.length * n.toNat ≤ 1000 * 1000 := Nat.mul_le_mul (by omega) (by omega)
    have e : sizeLine = 16777216 := by decide
    simp; omega
  · unfold repS at q
    by_cases h1 : n < 1
    · rw [if_pos h1] at q ⊢
      exact ⟨by decide, .str _, H, I.tok _, ⟨_, rfl⟩, q⟩
    · rw [if_neg h1] at q ⊢
      by_cases h2 : (n == 1 || z.length == 0) = true
      · rw [if_pos h2] at q ⊢
        exact ⟨.str _, H, I, ⟨_, rfl⟩, q⟩
      · rw [if_neg h2] at q ⊢
        refine ⟨?_, .str _, H, I.tok _, ⟨_, rfl⟩, q⟩
        show (List.foldl (fun x1 x2 => x1 ++ x2) #[] (List.replicate n.toNat z.cps)).size ≤ sizeLine
        rw [rep_size]
        have : n.toNat * z.cps.size ≤ 1000 * 1000 := Nat.mul_le_mul (by omega) zl
        have e : sizeLine = 16777216 := by decide
        simp; omega
/-- two lists: like trees, or not as long as one another -/
def rEqL2 (K : PySem.W.Frag) (un : Nat) (b : Bool) : R2 := fun x y H Q => ∃ p q xs ys, x = .ref p ∧ y = .ref q ∧ SqL K H p xs ∧ SqL K H q ys ∧ un + 1 < cLine ∧
  ((xs.length ≠ ys.length ∧ Q (.bl !b) H) ∨ ∃ n, xs.length = ys.length ∧ (∀ (i : Nat) u v, xs[i]? = some u → ys[i]? = some v → EqV H n u v) ∧ un + n + 1 < cLine ∧ Q (.bl b) H)
theorem op_eqL2 : OpR X (compareOp .Eq) (rEqL2 X.K X.A.units true) := by
  intro pins s σ H x y v u Q I rx ry h
  obtain ⟨a, b, xs, ys, rfl, rfl, ha, hb, hu0, h⟩ := h
  rcases h with ⟨hne, q⟩ | ⟨n, hl, hi, hu, q⟩
  · obtain rfl : v = Value.ref a := rx
    obtain rfl : u = Value.ref b := ry
    obtain ⟨its, r, pa, za⟩ := I.list ha
    obtain ⟨its2, r2, pb, zb⟩ := I.list hb
    have h1 := r.length; have h2 := r2.length
    have q2 := SeqAt.RcAt.lists_lengths (A := X.A) (s := s) pa.isList pb.isList (by simp; omega) (by omega)
    exact q2 X.prog X.w X.xe _ ⟨.bl false, H, I, rfl, q⟩
  · exact op_eqLL pins s σ H _ _ v u Q I rx ry ⟨a, b, xs, ys, n, rfl, rfl, ha, hb, hl, hi, hu, q⟩
theorem op_neL2 : OpR X (compareOp .NotEq) (rEqL2 X.K X.A.units false) := by
  intro pins s σ H x y v u Q I rx ry h
  obtain ⟨a, b, xs, ys, rfl, rfl, ha, hb, hu0, h⟩ := h
  rcases h with ⟨hne, q⟩ | ⟨n, hl, hi, hu, q⟩
  · obtain rfl : v = Value.ref a := rx
    obtain rfl : u = Value.ref b := ry
    obtain ⟨its, r, pa, za⟩ := I.list ha
    obtain ⟨its2, r2, pb, zb⟩ := I.list hb
    have h1 := r.length; have h2 := r2.length
    have q2 := SeqAt.RcNeAt.lists_lengths (A := X.A) (s := s) pa.isList pb.isList (by simp; omega) (by omega)
    exact q2 X.prog X.w X.xe _ ⟨.bl true, H, I, rfl, q⟩
  · exact op_neLL pins s σ H _ _ v u Q I rx ry ⟨a, b, xs, ys, n, rfl, rfl, ha, hb, hl, hi, hu, q⟩
end
end L2

set_option Elab.async false
set_option linter.all false
set_option maxRecDepth 100000
namespace L2
open PySem PySem.Spec PyProof.Rows
/-! ### S. facts of the text's own errors, from what is written out -/
abbrev bmVE : List Value := [Value.type "ValueError", Value.type "Exception", Value.type "BaseException", Value.type "object"]
structure QuietAt (K : PySem.W.Frag) (N : Addr) : Prop where
  ok : PySem.W.nsOkIn K N = true
  a : PySem.W.nsIn K N "__init__" = some none
  b : PySem.W.nsIn K N "__getattribute__" = some none
  c : PySem.W.nsIn K N "__getattr__" = some none
  d : PySem.W.nsIn K N "args" = some none
theorem QuietAt.q {K : PySem.W.Frag} {N : Addr} (x : QuietAt K N) : quietIn K N = true := by
  unfold quietIn quietNames
  rw [x.ok]
  simp only [List.all_cons, List.all_nil, Bool.and_true, Bool.true_and]
  rw [x.a, x.b, x.c, x.d]
  simp
theorem nsOk_of {K : PySem.W.Frag} {N : Addr} {c : Value} {d : Option Addr} {es : Array DictEntry} {ep : Nat} {sl : Array (Option Value)} (l : K.lookup N = some ⟨c, d, .dict es ep, sl⟩) (h : (es.toList.all fun e => match e.key with | .str _ _ => true | _ => false) = true) : PySem.W.nsOkIn K N = true := by
  unfold PySem.W.nsOkIn; rw [l]
  show (es.all fun e => match e.key with | .str _ _ => true | _ => false) = true
  rw [← Array.all_toList]; exact h
theorem tailQ_one {K : PySem.W.Frag} {B : Addr} {c : Value} {d : Option Addr} {cd : ClassData} {sl : Array (Option Value)} (l : K.lookup B = some ⟨c, d, .cls cd, sl⟩) (q : QuietAt K cd.ns) : tailQ K bmVE (.ref B :: bmVE) = true := by
  unfold tailQ
  rw [Bool.or_eq_true_iff]
  right
  show (match List.lookup B K with | some ⟨_, _, .cls cd, _⟩ => quietIn K cd.ns && tailQ K bmVE bmVE | _ => false) = true
  rw [show List.lookup B K = _ from l]
  show (quietIn K cd.ns && tailQ K bmVE bmVE) = true
  rw [q.q]; rfl
theorem kit_ref {K : PySem.W.Frag} {c C : Addr} {b : Bool} {d : Option Addr} {cd : ClassData} {sl : Array (Option Value)} (ne : c ≠ C) (l : K.lookup C = some ⟨.type "type", d, .cls cd, sl⟩) (m : PySem.W.mroIn K c (.ref C) = some b) : PySem.W.kitOne K (.ref c) (.ref C) = some b := by
  unfold PySem.W.kitOne
  rw [if_neg (by simpa using ne)]
  have e1 : PySem.W.clsIn K C = some cd := by unfold PySem.W.clsIn; rw [show List.lookup C K = _ from l]
  have e2 : PySem.W.typeIn K (.ref C) = some (.type "type") := by show Option.map (fun x => x.cls) (List.lookup C K) = _; rw [show List.lookup C K = _ from l]; rfl
  show (if ((PySem.W.clsIn K C).isSome && PySem.W.typeIn K (.ref C) == some (.type "type")) = true then PySem.W.mroIn K c (.ref C) else none) = _
  rw [e1, e2]
  rw [if_pos (by simp)]
  exact m
theorem kit_ty {K : PySem.W.Frag} {c : Addr} {T : String} {b : Bool} (hm : PySem.W.kitMeta T = true) (m : PySem.W.mroIn K c (.type T) = some b) : PySem.W.kitOne K (.ref c) (.type T) = some b := by
  unfold PySem.W.kitOne
  rw [if_neg (by simp)]
  show (if PySem.W.kitMeta T = true then PySem.W.mroIn K c (.type T) else none) = _
  rw [if_pos hm]; exact m
theorem kit_ll {K : PySem.W.Frag} : PySem.W.kitOne K (.type "list") (.type "list") = some true := by unfold PySem.W.kitOne; rw [if_pos (by simp)]
theorem kit_tl {K : PySem.W.Frag} : PySem.W.kitOne K (.type "tuple") (.type "list") = some false := by
  unfold PySem.W.kitOne
  rw [if_neg (by simp)]
  kernel_rfl
theorem kitMeta_VE : PySem.W.kitMeta "ValueError" = true := by kernel_rfl
end L2

set_option Elab.async false
set_option linter.all false
set_option maxRecDepth 100000
namespace L2
open PySem PySem.Spec PyProof.Rows
/-! ### T. a sort's questions, answered by distinct whole numbers -/
section
variable {α β : Type} {f : Nat → Nat → Bool} {n : Nat}
def wpT (f : Nat → Nat → Bool) (n : Nat) : W.KasT α → (α → Prop) → Prop
  | .ret a, C => C a
  | .ask i j k, C => i < n ∧ j < n ∧ i ≠ j ∧ wpT f n (k (f i j)) C
theorem wpT_mono {C D : α → Prop} (h : ∀ a, C a → D a) : ∀ {T : W.KasT α}, wpT f n T C → wpT f n T D
  | .ret a, q => h a q
  | .ask i j k, q => ⟨q.1, q.2.1, q.2.2.1, wpT_mono h q.2.2.2⟩
theorem wpT_bind {g : α → W.KasT β} {C : β → Prop} : ∀ {T : W.KasT α}, wpT f n T (fun a => wpT f n (g a) C) → wpT f n (T.bind g) C
  | .ret a, q => q
  | .ask i j k, q => ⟨q.1, q.2.1, q.2.2.1, wpT_bind q.2.2.2⟩
theorem kasWp_of {cmp : Nat → Nat → (Bool → Shared → Prop) → Shared → Prop} {s : Shared} {D : α → Shared → Prop} (h : ∀ i j (C : Bool → Shared → Prop), i < n → j < n → i ≠ j → C (f i j) s → cmp i j C s) :
    ∀ {T : W.KasT α}, wpT f n T (fun a => D a s) → W.KasT.kasWp cmp T D s
  | .ret a, q => q
  | .ask i j k, q => h i j _ q.1 q.2.1 q.2.2.1 (kasWp_of h q.2.2.2)
end
abbrev gd (p : Array Nat) (x : Nat) : Nat := p.getD x 0
theorem gd_of {p : Array Nat} {x v : Nat} (h : p[x]? = some v) : gd p x = v := by unfold gd; rw [Array.getD_eq_getD_getElem?, h]; rfl
theorem gd_eq {p q : Array Nat} {x y : Nat} (h : p[x]? = q[y]?) : gd p x = gd q y := by unfold gd; rw [Array.getD_eq_getD_getElem?, Array.getD_eq_getD_getElem?, h]
/-- each place once -/
structure Gd (n : Nat) (p : Array Nat) : Prop where
  sz : p.size = n
  pm : p.Perm (List.range n).toArray
theorem Gd.lt {n x : Nat} {p : Array Nat} (g : Gd n p) (h : x < n) : gd p x < n := by
  have hx : x < p.size := by rw [g.sz]; exact h
  have e : p[x]? = some p[x] := Array.getElem?_eq_getElem hx
  rw [gd_of e]
  have m : p[x] ∈ (List.range n).toArray := (g.pm.mem_iff).mp (Array.getElem_mem hx)
  simpa using m
theorem Gd.ne {n x y : Nat} {p : Array Nat} (g : Gd n p) (hx : x < n) (hy : y < n) (h : x ≠ y) : gd p x ≠ gd p y := by
  have hx' : x < p.toList.length := by rw [Array.length_toList, g.sz]; exact hx
  have hy' : y < p.toList.length := by rw [Array.length_toList, g.sz]; exact hy
  have nd : p.toList.Nodup := (g.pm.toList.nodup_iff).mpr (by simpa using List.nodup_range)
  have e1 : gd p x = p.toList[x] := gd_of (by rw [Array.getElem?_eq_getElem (by rw [g.sz]; exact hx)]; simp)
  have e2 : gd p y = p.toList[y] := gd_of (by rw [Array.getElem?_eq_getElem (by rw [g.sz]; exact hy)]; simp)
  rw [e1, e2]
  intro e
  exact h ((List.getElem_inj nd).mp e)
section
variable {key : Nat → Int} {n : Nat}
def Asc (key : Nat → Int) (p : Array Nat) (m : Nat) : Prop := ∀ i j, i < j → j < m → key (gd p i) < key (gd p j)
def Dsc (key : Nat → Int) (p : Array Nat) (m : Nat) : Prop := ∀ i j, i < j → j < m → key (gd p j) < key (gd p i)
abbrev fK (key : Nat → Int) : Nat → Nat → Bool := fun i j => decide (key i < key j)
def Inj (key : Nat → Int) (n : Nat) : Prop := ∀ i j, i < n → j < n → key i = key j → i = j
theorem asc_ok (inj : Inj key n) {p : Array Nat} (g : Gd n p) : ∀ (fuel m : Nat), 1 ≤ m → m + fuel ≤ n → Asc key p m →
    wpT (fK key) n (W.kas_asc p fuel m) fun r => m ≤ r ∧ r ≤ m + fuel ∧ Asc key p r ∧ (r < m + fuel → key (gd p r) < key (gd p (r - 1)))
  | 0, m, h1, h2, a => by rw [W.kas_asc.eq_1]; exact ⟨Nat.le_refl _, Nat.le_refl _, a, fun z => absurd z (Nat.lt_irrefl _)⟩
  | fuel + 1, m, h1, h2, a => by
    rw [W.kas_asc.eq_2]
    have ne := g.ne (x := m) (y := m - 1) (by omega) (by omega) (by omega)
    refine ⟨g.lt (by omega), g.lt (by omega), ne, ?_⟩
    by_cases c : key (gd p m) < key (gd p (m - 1))
    · rw [show fK key (p.getD m 0) (p.getD (m - 1) 0) = true from decide_eq_true c]
      dsimp only
      rw [if_pos rfl]
      exact ⟨Nat.le_refl _, by omega, a, fun _ => c⟩
    · rw [show fK key (p.getD m 0) (p.getD (m - 1) 0) = false from decide_eq_false c]
      dsimp only
      rw [if_neg Bool.false_ne_true]
      have hne : key (gd p m) ≠ key (gd p (m - 1)) := fun e => ne (inj _ _ (g.lt (by omega)) (g.lt (by omega)) e)
      have a' : Asc key p (m + 1) := fun i j hij hj => by
        by_cases hjm : j < m
        · exact a i j hij hjm
        · have e : j = m := by omega
          subst e
          by_cases hi : i = j - 1
          · subst hi; omega
          · have := a i (j - 1) (by omega) (by omega)
            omega
      refine wpT_mono (fun r q => ⟨by omega, by omega, q.2.2.1, fun z => q.2.2.2 (by omega)⟩) (asc_ok inj g fuel (m + 1) (by omega) (by omega) a')
theorem desc_ok (inj : Inj key n) {p : Array Nat} (g : Gd n p) : ∀ (fuel m : Nat), 1 ≤ m → m + fuel ≤ n → Dsc key p m →
    wpT (fK key) n (W.kas_desc fuel p m 0) fun r => r.1 = p ∧ r.2.2 = 0 ∧ m ≤ r.2.1 ∧ r.2.1 ≤ m + fuel ∧ Dsc key p r.2.1
  | 0, m, h1, h2, a => by rw [W.kas_desc.eq_1]; exact ⟨rfl, rfl, Nat.le_refl _, Nat.le_refl _, a⟩
  | fuel + 1, m, h1, h2, a => by
    rw [W.kas_desc.eq_2]
    have ne := g.ne (x := m) (y := m - 1) (by omega) (by omega) (by omega)
    refine ⟨g.lt (by omega), g.lt (by omega), ne, ?_⟩
    by_cases c : key (gd p m) < key (gd p (m - 1))
    · rw [show fK key (p.getD m 0) (p.getD (m - 1) 0) = true from decide_eq_true c]
      dsimp only
      rw [if_pos rfl, if_neg (by omega)]
      have a' : Dsc key p (m + 1) := fun i j hij hj => by
        by_cases hjm : j < m
        · exact a i j hij hjm
        · have e : j = m := by omega
          subst e
          by_cases hi : i = j - 1
          · subst hi; exact c
          · have := a i (j - 1) (by omega) (by omega)
            omega
      exact wpT_mono (fun r q => ⟨q.1, q.2.1, by omega, by omega, q.2.2.2.2⟩) (desc_ok inj g fuel (m + 1) (by omega) (by omega) a')
    · rw [show fK key (p.getD m 0) (p.getD (m - 1) 0) = false from decide_eq_false c]
      dsimp only
      rw [if_neg Bool.false_ne_true]
      have hne : key (gd p m) ≠ key (gd p (m - 1)) := fun e => ne (inj _ _ (g.lt (by omega)) (g.lt (by omega)) e)
      refine ⟨g.lt (by omega), g.lt (by omega), Ne.symm ne, ?_⟩
      rw [show fK key (p.getD (m - 1) 0) (p.getD m 0) = true from decide_eq_true (by show key (gd p (m - 1)) < key (gd p m); omega)]
      dsimp only
      rw [if_pos rfl]
      exact ⟨rfl, rfl, Nat.le_refl _, by show m ≤ m + (fuel + 1); omega, a⟩
theorem count_ok (inj : Inj key n) {p : Array Nat} (g : Gd n p) (h2 : 2 ≤ n) : wpT (fK key) n (W.kas_count n p) fun r => Gd n r.2 ∧ 1 ≤ r.1 ∧ r.1 ≤ n ∧ Asc key r.2 r.1 := by
  unfold W.kas_count
  refine wpT_bind (wpT_mono (fun r q => ?_) (asc_ok inj g (n - 1) 1 (Nat.le_refl _) (by omega) (fun i j _ _ => by omega)))
  obtain ⟨q1, q2, q3, q4⟩ := q
  by_cases e : r = n
  · rw [if_pos (by simpa using e)]
    exact ⟨g, q1, by omega, q3⟩
  rw [if_neg (by simpa using e)]
  by_cases e1 : r > 1
  · rw [if_pos e1]
    refine ⟨g.lt (by omega), g.lt (by omega), g.ne (by omega) (by omega) (by omega), ?_⟩
    rw [show fK key (p.getD 0 0) (p.getD (r - 1) 0) = true from decide_eq_true (q3 0 (r - 1) (by omega) (by omega))]
    dsimp only
    rw [if_pos rfl]
    exact ⟨g, q1, by omega, q3⟩
  rw [if_neg e1]
  have er : r = 1 := by omega
  subst er
  have q4 := q4 (by omega)
  unfold W.kas_descPart
  refine wpT_bind (wpT_mono (fun r q => ?_) (desc_ok inj g (n - (1 + 1)) (1 + 1) (by omega) (by omega) (fun i j hij hj => by
    have : i = 0 := by omega
    have : j = 1 := by omega
    subst i j; exact q4)))
  obtain ⟨d1, d2, d3, d4, d5⟩ := q
  rw [d1, d2, if_neg (by omega)]
  unfold W.kas_tail3
  have gm : ∀ k, gd (W.kas_rev p 0 r.2.1) k = if k < r.2.1 then gd p (r.2.1 - 1 - k) else gd p k := fun k => by
    have z := getElem?_mirror_all (xs := p) (i := 0) (j := r.2.1) (by rw [g.sz]; omega) k
    unfold W.kas_rev
    by_cases hk : k < r.2.1
    · rw [if_pos hk]
      rw [if_pos ⟨Nat.zero_le _, hk⟩] at z
      exact gd_eq (by rw [z]; congr 1; omega)
    · rw [if_neg hk]
      rw [if_neg (fun y => hk y.2)] at z
      exact gd_eq z
  have g' : Gd n (W.kas_rev p 0 r.2.1) := ⟨by unfold W.kas_rev; rw [mirror_size, g.sz], by unfold W.kas_rev; exact (mirror_perm _ _ _ _).trans g.pm⟩
  have a' : Asc key (W.kas_rev p 0 r.2.1) r.2.1 := fun i j hij hj => by
    rw [gm, gm, if_pos (by omega), if_pos hj]
    exact d5 _ _ (by omega) (by omega)
  refine wpT_bind (wpT_mono (fun m q => ?_) (asc_ok inj g' (n - r.2.1) r.2.1 (by omega) (by omega) a'))
  exact ⟨g', by omega, by omega, q.2.2.1⟩
theorem place_ok (inj : Inj key n) {p : Array Nat} (g : Gd n p) {k : Nat} (hk : k < n) (a : Asc key p k) : ∀ (fuel lo hi : Nat), hi - lo ≤ fuel → lo ≤ hi → hi ≤ k → (∀ i, i < lo → key (gd p i) < key (gd p k)) → (∀ i, hi ≤ i → i < k → key (gd p k) < key (gd p i)) →
    wpT (fK key) n (W.kas_place p k fuel lo hi) fun l => l ≤ k ∧ (∀ i, i < l → key (gd p i) < key (gd p k)) ∧ ∀ i, l ≤ i → i < k → key (gd p k) < key (gd p i)
  | 0, lo, hi, h1, h2, h3, h4, h5 => by
    rw [W.kas_place.eq_1]
    have e : hi = lo := by omega
    subst e
    exact ⟨h3, h4, h5⟩
  | fuel + 1, lo, hi, h1, h2, h3, h4, h5 => by
    rw [W.kas_place.eq_2]
    by_cases e : lo ≥ hi
    · rw [if_pos e]
      have e : hi = lo := by omega
      subst e
      exact ⟨h3, h4, h5⟩
    rw [if_neg e]
    have ne := g.ne (x := k) (y := (lo + hi) / 2) hk (by omega) (by omega)
    refine ⟨g.lt hk, g.lt (by omega), ne, ?_⟩
    by_cases c : key (gd p k) < key (gd p ((lo + hi) / 2))
    · rw [show fK key (p.getD k 0) (p.getD ((lo + hi) / 2) 0) = true from decide_eq_true c]
      dsimp only
      rw [if_pos rfl]
      refine place_ok inj g hk a fuel lo ((lo + hi) / 2) (by omega) (by omega) (by omega) h4 fun i hi1 hi2 => ?_
      by_cases z : i = (lo + hi) / 2
      · rw [z]; exact c
      · have := a ((lo + hi) / 2) i (by omega) hi2; omega
    · rw [show fK key (p.getD k 0) (p.getD ((lo + hi) / 2) 0) = false from decide_eq_false c]
      dsimp only
      rw [if_neg Bool.false_ne_true]
      have hne : key (gd p k) ≠ key (gd p ((lo + hi) / 2)) := fun e => ne (inj _ _ (g.lt hk) (g.lt (by omega)) e)
      refine place_ok inj g hk a fuel ((lo + hi) / 2 + 1) hi (by omega) (by omega) h3 (fun i hi1 => ?_) h5
      by_cases z : i = (lo + hi) / 2
      · rw [z]; omega
      · have := a i ((lo + hi) / 2) (by omega) (by omega); omega
theorem bin_ok (inj : Inj key n) : ∀ (fuel k : Nat) (p : Array Nat), Gd n p → k + fuel = n → Asc key p k → wpT (fK key) n (W.kas_bin fuel p k) fun p' => Gd n p' ∧ Asc key p' n
  | 0, k, p, g, h, a => by
    rw [W.kas_bin.eq_1]
    have e : k = n := by omega
    rw [← e]; exact ⟨by rw [e]; exact g, a⟩
  | fuel + 1, k, p, g, h, a => by
    rw [W.kas_bin.eq_2]
    refine wpT_bind (wpT_mono (fun l q => ?_) (place_ok inj g (k := k) (by omega) a k 0 k (by omega) (by omega) (Nat.le_refl _) (fun i z => absurd z (Nat.not_lt_zero _)) (fun i z1 z2 => absurd z2 (by omega))))
    obtain ⟨q1, q2, q3⟩ := q
    have gm : ∀ j, gd (bubble p k (k - l)) j = if j = l then gd p k else if l < j ∧ j ≤ k then gd p (j - 1) else gd p j := fun j => by
      have z := getElem?_bubble (xs := p) (src := k) (by rw [g.sz]; omega) (k - l) (by omega) j
      rw [show k - (k - l) = l by omega] at z
      by_cases c1 : j = l
      · rw [if_pos c1] at z ⊢; exact gd_eq z
      · rw [if_neg c1] at z ⊢
        by_cases c2 : l < j ∧ j ≤ k
        · rw [if_pos c2] at z ⊢; exact gd_eq z
        · rw [if_neg c2] at z ⊢; exact gd_eq z
    refine bin_ok inj fuel (k + 1) _ ⟨by rw [bubble_size, g.sz], (bubble_perm _ _ _).trans g.pm⟩ (by omega) fun i j hij hj => ?_
    rw [gm, gm]
    by_cases c1 : i = l
    · rw [if_pos c1, if_neg (by omega), if_pos (by omega)]
      exact q3 _ (by omega) (by omega)
    · rw [if_neg c1]
      by_cases c2 : j = l
      · rw [if_pos c2, if_neg (by omega)]
        exact q2 i (by omega)
      · rw [if_neg c2]
        by_cases c3 : l < i ∧ i ≤ k
        · rw [if_pos c3, if_pos (by omega)]
          exact a _ _ (by omega) (by omega)
        · rw [if_neg c3]
          by_cases c4 : l < j ∧ j ≤ k
          · rw [if_pos c4]
            exact a _ _ (by omega) (by omega)
          · rw [if_neg c4]
            exact a _ _ hij (by omega)
theorem sort_ok (inj : Inj key n) (h2 : 2 ≤ n) : wpT (fK key) n (W.kas_sort n) fun p => Gd n p ∧ Asc key p n := by
  unfold W.kas_sort
  have g0 : Gd n (List.range n).toArray := ⟨by simp, .refl _⟩
  refine wpT_bind (wpT_mono (fun r q => ?_) (count_ok inj g0 h2))
  obtain ⟨q1, q2, q3, q4⟩ := q
  by_cases c : r.1 < n
  · rw [if_pos c, show max r.1 1 = r.1 by omega]
    exact bin_ok inj _ _ _ q1 (by omega) q4
  · rw [if_neg c]
    have e : r.1 = n := by omega
    rw [e] at q4
    exact ⟨q1, q4⟩
end
end L2

set_option Elab.async false
set_option linter.all false
set_option maxRecDepth 100000
namespace L2
open PySem PySem.Spec PyProof.Rows
/-! ### U. list.sort over any heap -/
theorem sort_free {prog : Program} {w : World} {A : Around} {E : Value → Shared → Prop} {s : Shared} {a : Addr} {vs : List Value} {n : Nat} {key : Nat → Int} {P : PySem.Fin → Shared → Prop}
    (ha : s.heap.get? a = some (seqObj "list" vs.toArray n)) (hl : vs.length < 64) (inj : Inj key vs.length)
    (hk : ∀ h' : Heap, (∀ b o, b ≠ a → s.heap.get? b = some o → h'.get? b = some o) → 2 ≤ vs.length → ∃ κ, (∀ {Q : SortKind → Shared → Prop} {E : Value → Shared → Prop}, Q κ { s with heap := h' } → wpAny (model prog w) A (keyKind' vs.toArray) Q E { s with heap := h' }) ∧
      ∀ i j (C : Bool → Shared → Prop), i < vs.length → j < vs.length → i ≠ j → C (fK key i j) { s with heap := h' } → W.kas_ask prog w A κ vs i j C { s with heap := h' })
    (h : ∀ (h' : Heap) (p : Array Nat) (k : Nat), Gd vs.length p → Asc key p vs.length → (∀ b o, b ≠ a → s.heap.get? b = some o → h'.get? b = some o) → h'.get? a = some (seqObj "list" (p.toList.map fun i => vs.getD i .none).toArray k) → P (.done (.ret .none)) { s with heap := h' }) :
    wpAny (model prog w) A (Builtin.«list.sort» { pos := [.ref a] }) P E s := by
  unfold Builtin.«list.sort»
  dsimp only
  rw [if_neg (by simp), if_neg (by simp)]
  refine wpAny_bind ?_
  rw [List.forIn_nil]
  refine wpAny_pure ?_
  refine wpAny_bind (wpAny_pure ?_)
  refine wpAny_bind (listItems_at ha rfl ?_)
  refine wpAny_bind (listUpdate_at ha rfl ?_ (by simp; have : sizeLine = 16777216 := (by decide); omega) (by simp))
  obtain ⟨k1, gs⟩ : ∃ k1, (s.heap.update a (Obj.mapSeq fun _ => #[])).get? a = some (seqObj "list" #[] k1) := ⟨_, Heap.get?_update_self _ ha rfl⟩
  have kp1 : ∀ b o, b ≠ a → s.heap.get? b = some o → (s.heap.update a (Obj.mapSeq fun _ => #[])).get? b = some o := fun b o n e => by rw [Heap.get?_update_ne _ _ _ _ n]; exact e
  generalize s.heap.update a (Obj.mapSeq fun _ => #[]) = h1 at gs kp1 ⊢
  have hsz : sizeLine = 16777216 := by decide
  refine wpAny_bind (seqEpoch_at gs rfl ?_)
  refine wpAny_bind (wpAny_newTuple ?_ (by simp; omega))
  refine wpAny_bind (wpAny_newList ?_ (by simp))
  refine wpAny_holding ?_
  have kp3 : ∀ b o, b ≠ a → s.heap.get? b = some o → ((h1.push { cls := .type "tuple", data := .seq vs.toArray.toList.toArray }).push { cls := .type "list", data := .seq ([] : List Value).toArray }).get? b = some o := fun b o n e => Heap.get?_push_of_some _ (Heap.get?_push_of_some _ (kp1 b o n e))
  have gs3 : ((h1.push { cls := .type "tuple", data := .seq vs.toArray.toList.toArray }).push { cls := .type "list", data := .seq ([] : List Value).toArray }).get? a = some (seqObj "list" #[] k1) := Heap.get?_push_of_some _ (Heap.get?_push_of_some _ gs)
  generalize (h1.push { cls := .type "tuple", data := .seq vs.toArray.toList.toArray }).push { cls := .type "list", data := .seq ([] : List Value).toArray } = h3 at kp3 gs3 ⊢
  have hkf : ((List.lookup (Str.ofString "key") ([] : List (Str × Value))).getD Value.none != Value.none) = false := by decide
  have fin : ∀ (st : SortSt) (p : Array Nat) (s' : Shared), s' = { s with heap := h3 } → Gd vs.length p → Asc key p vs.length → arrOf st = Array.map (W.kas_item (vs.toArray.zip vs.toArray)) p → failedOf st = none →
      wpAny (model prog w) A (do
        let __do_lift ← seqEpoch a
        Builtin.List.listUpdate (.ref a) fun x => Array.map (fun x => x.snd) (arrOf st)
        match failedOf st with
          | some e => do
            rule "list.sort.comparison-raised"
            throw e
            if (__do_lift != k1) = true then do
                rule "list.sort.modified"
                raiseErrorWords "ValueError" "list modified during sort"
                ret Value.none
              else ret Value.none
          | x =>
            if (__do_lift != k1) = true then do
              rule "list.sort.modified"
              raiseErrorWords "ValueError" "list modified during sort"
              ret Value.none
            else ret Value.none) P E s' := fun st p s' es g as har hf => by
    subst es
    refine wpAny_bind (seqEpoch_at gs3 rfl ?_)
    have em : Array.map (fun x => x.snd) (arrOf st) = (p.toList.map fun i => vs.getD i .none).toArray := by
      rw [har]
      apply Array.ext'
      simp only [Array.toList_map, List.map_map]
      refine List.map_congr_left fun i _ => ?_
      show (W.kas_item (pairsOf vs) i).2 = _
      rw [W.kas_item_eq]
    refine wpAny_bind (listUpdate_at gs3 rfl ?_ (by simp) (by rw [em]; simp; rw [g.sz]; omega))
    rw [hf]
    show wpAny _ _ (if (k1 != k1) = true then _ else _) _ _ _
    rw [if_neg (by simp)]
    refine wpAny_pure ?_
    obtain ⟨k2, z⟩ : ∃ k2, (h3.update a (Obj.mapSeq fun x => Array.map (fun x => x.snd) (arrOf st))).get? a = some (seqObj "list" (Array.map (fun x => x.snd) (arrOf st)) k2) := ⟨_, Heap.get?_update_self _ gs3 rfl⟩
    have z : (h3.update a (Obj.mapSeq fun x => Array.map (fun x => x.snd) (arrOf st))).get? a = some (seqObj "list" (p.toList.map fun i => vs.getD i .none).toArray k2) := by rw [z, em]
    exact h _ p k2 g as (fun b o n e => by
      show (h3.update a _).get? b = some o
      rw [Heap.get?_update_ne _ _ _ _ n]; exact kp3 b o n e) z
  simp only [hkf, Bool.false_eq_true, if_false]
  refine wpAny_bind (wpAny_pure ?_)
  by_cases h2 : vs.length < 2
  · simp only [show (vs.toArray.size < 2) = True from eq_true (by simpa using h2), if_true]
    refine wpAny_bind (wpAny_pure ?_)
    refine wpAny_bind (wpAny_pure ?_)
    refine fin _ (List.range vs.length).toArray _ rfl ⟨by simp, .refl _⟩ (fun i j z1 z2 => absurd z2 (by omega)) ?_ rfl
    show vs.toArray.zip vs.toArray = _
    have := W.kas_range (vs.toArray.zip vs.toArray)
    rw [show (vs.toArray.zip vs.toArray).size = vs.length by simp] at this
    exact this.symm
  · simp only [show (vs.toArray.size < 2) = False from eq_false (by simpa using h2), if_false]
    obtain ⟨κ, hk1, hk2⟩ := hk h3 kp3 (by omega)
    refine wpAny_bind (hk1 ?_)
    refine wpAny_bind ?_
    refine thn (W.kat_run (vs := vs) (ks := vs) (κ := κ) (Q := fun st s' => ∃ p, s' = { s with heap := h3 } ∧ Gd vs.length p ∧ Asc key p vs.length ∧ arrOf st = Array.map (W.kas_item (vs.toArray.zip vs.toArray)) p ∧ failedOf st = none) (G := fun p s' => s' = { s with heap := h3 } ∧ Gd vs.length p ∧ Asc key p vs.length) rfl (by omega) hl (fun p st' s' hp ha' hf hg => ⟨p, hg.1, hg.2.1, hg.2.2, ha', hf⟩) ?_) fun r s' ⟨p, e1, e2, e3, e4, e5⟩ => ?_
    · exact kasWp_of (f := fK key) (n := vs.length) hk2 (wpT_mono (fun p q => ⟨rfl, q⟩) (sort_ok inj (by omega)))
    · exact fin r.2 p s' e1 e2 e3 e4 e5
end L2

set_option Elab.async false
set_option linter.all false
set_option maxRecDepth 100000
namespace L2
open PySem PySem.Spec PyProof.Rows
/-! ### V. sorted(..) -/
/-- sorted over what is collected -/
theorem sorted_free {prog : Program} {w : World} {A : Around} {E : Value → Shared → Prop} {s : Shared} {v : Value} {Q : Value → Shared → Prop}
    (hc : ∀ {R : List Value → Shared → Prop} {E' : Value → Shared → Prop}, (∀ (vs : List Value) (s1 : Shared), (∃ key, vs.length < 64 ∧ Inj key vs.length ∧ (∀ b o, s.heap.get? b = some o → s1.heap.get? b = some o) ∧ s1.gens = s.gens ∧ s1.drawn = s.drawn ∧ s1.os = s.os ∧
        (∀ h' : Heap, (∀ b o, s1.heap.get? b = some o → h'.get? b = some o) → 2 ≤ vs.length → ∃ κ, (∀ {Q : SortKind → Shared → Prop} {E : Value → Shared → Prop}, Q κ { s1 with heap := h' } → wpAny (model prog w) A.in1.in1 (keyKind' vs.toArray) Q E { s1 with heap := h' }) ∧
          ∀ i j (C : Bool → Shared → Prop), i < vs.length → j < vs.length → i ≠ j → C (fK key i j) { s1 with heap := h' } → W.kas_ask prog w A.in1.in1 κ vs i j C { s1 with heap := h' }) ∧
        (∀ (h' : Heap) (l : Addr) (p : Array Nat) (k : Nat), Gd vs.length p → Asc key p vs.length → s1.heap.objs.size ≤ l → (∀ b o, s1.heap.get? b = some o → h'.get? b = some o) → h'.get? l = some (seqObj "list" (p.toList.map fun i => vs.getD i .none).toArray k) → Q (.ref l) { s1 with heap := h' })) → R vs s1) →
      wpAny (model prog w) A.in1 (collect v) R E' s) :
    wpAny (model prog w) A (call (.builtin "sorted") [v]) Q E s := by
  refine Calls.call_function_entry kind_sorted plain_sorted entry_sorted (args_sorted1 _) ?_
  unfold Builtin.sorted
  refine wpAny_bind (wpAny_pure ?_)
  refine wpAny_bind (hc fun vs s1 h => ?_)
  obtain ⟨key, hl, inj, kp, e1, e2, e3, hk, h⟩ := h
  have hsz : sizeLine = 16777216 := by decide
  refine wpAny_bind (wpAny_newList ?_ (by omega))
  refine wpAny_bind (wpAny_holding ?_)
  have ty : Shared.TypeIs { s1 with heap := s1.heap.push { cls := .type "list", data := .seq vs.toArray } } (.ref s1.heap.objs.size) "list" := ⟨_, Heap.get?_push_size _ rfl, rfl⟩
  refine wpAny_call (codeAny_call_builtin PySem.F.slot_list_sort.plain PySem.F.entry_list_sort ?_)
  refine PySem.F.slot_list_sort.check _ _ _ _ _ _ _ _ ty (PySem.F.args_list_sort_1 _) ?_
  have gl : (s1.heap.push { cls := .type "list", data := .seq vs.toArray }).get? s1.heap.objs.size = some (seqObj "list" vs.toArray 0) := Heap.get?_push_size _ rfl
  have nl : ∀ b o, s1.heap.get? b = some o → b ≠ s1.heap.objs.size := fun b o e => Nat.ne_of_lt (Heap.lt_size e)
  refine sort_free (s := { s1 with heap := s1.heap.push { cls := .type "list", data := .seq vs.toArray } }) (key := key) gl hl inj (fun h' k' h2 => ?_) (fun h' p k g as k' gl' => ?_)
  · exact hk h' (fun b o e => k' b o (nl b o e) (Heap.get?_push_of_some _ e)) h2
  · exact wpAny_pure ⟨_, rfl, h h' _ p k g as (Nat.le_refl _) (fun b o e => k' b o (nl b o e) (Heap.get?_push_of_some _ e)) gl'⟩
section
variable {X : Cx} {pins : List (Addr × Obj)} {σ : St} {H H' : Hp} {s : Shared} {h' : Heap}
/-- more is laid, and tracked -/
theorem Inv.more {t' : Nat} (I : Inv X pins σ H s) (k : ∀ b o, s.heap.get? b = some o → h'.get? b = some o) (e : ∀ b o, H b = some o → H' b = some o) (f : ∀ b o, H' b = some o → H b = none → s.heap.get? b = none)
    (hok : ∀ b o, H b = none → H' b = some o → ObjOk X.prog X.w H' h' b o) : Inv X pins σ H' { s with heap := h', toks := t' } := by
  refine I.un ⟨fun b o q _ _ _ => k b o q, fun b o q _ _ _ => ⟨o.slots, k b o q⟩, fun b o q n _ => ?_, fun b o q _ => ⟨o, k b o q⟩, fun b xs q => e b _ q, fun b o u q => e b _ q, fun b ps q => ⟨#[], by rw [Array.append_empty]; exact e b _ q⟩⟩ (fun b o q => ?_)
  · cases z : H' b with
    | none => rfl
    | some u => rw [f b u z n] at q; cases q
  · cases z : H b with
    | none => exact hok b o z q
    | some u =>
      have := e b u z
      rw [q] at this; cases this
      exact (I.hok b o z).stay (fun c v _ y => k c v y) (fun c y => e c _ y) fun c xs y => e c _ y
end
/-- whole-number keys -/
def IntK (kvs : List (Key × V)) : Prop := ∀ p ∈ kvs, ∃ i, p.1 = .inl i
def keyI : Key → Int
  | .inl i => i
  | .inr _ => 0
theorem nodup_key {kvs : List (Key × V)} (hi : IntK kvs) (nd : (kvs.map (·.1)).Nodup) : Inj (fun j => keyI ((kvs.map (·.1)).getD j (.inl 0))) kvs.length := fun i j h1 h2 e => by
  have l : (kvs.map (·.1)).length = kvs.length := by simp
  have e1 : (kvs.map (·.1)).getD i (.inl 0) = (kvs.map (·.1))[i]'(by omega) := by rw [List.getD_eq_getElem?_getD, List.getElem?_eq_getElem (by omega)]; rfl
  have e2 : (kvs.map (·.1)).getD j (.inl 0) = (kvs.map (·.1))[j]'(by omega) := by rw [List.getD_eq_getElem?_getD, List.getElem?_eq_getElem (by omega)]; rfl
  have e : keyI ((kvs.map (·.1)).getD i (.inl 0)) = keyI ((kvs.map (·.1)).getD j (.inl 0)) := e
  rw [e1, e2] at e
  obtain ⟨a, ha⟩ := hi kvs[i] (List.getElem_mem h1)
  obtain ⟨b, hb⟩ := hi kvs[j] (List.getElem_mem h2)
  have f1 : (kvs.map (·.1))[i]'(by omega) = .inl a := by rw [List.getElem_map]; exact ha
  have f2 : (kvs.map (·.1))[j]'(by omega) = .inl b := by rw [List.getElem_map]; exact hb
  rw [f1, f2] at e
  have e : a = b := e
  refine (List.getElem_inj nd (h₀ := by omega) (h₁ := by omega)).mp ?_
  rw [f1, f2, e]
end L2

set_option Elab.async false
set_option linter.all false
set_option maxRecDepth 100000
namespace L2
open PySem PySem.Spec PyProof.Rows
theorem KV.at {kvs : List (Key × V)} {vs : List (Key × Value)} (r : KV kvs vs) : ∀ {j : Nat} {k : Key} {x : Value}, vs[j]? = some (k, x) → ∃ v, kvs[j]? = some (k, v) ∧ RelV v x := by
  induction r with
  | nil => intro j k x h; simp at h
  | cons h t ih =>
    intro j k x e
    cases j with
    | zero =>
      simp only [List.getElem?_cons_zero, Option.some.injEq] at e
      rename_i a b _ _
      refine ⟨a.2, ?_, ?_⟩
      · simp only [List.getElem?_cons_zero, Option.some.injEq]
        have := h.1
        rw [e] at this
        exact Prod.ext this rfl
      · have := h.2
        rw [e] at this; exact this
    | succ j => exact ih (by simpa using e)
theorem KV.len {kvs : List (Key × V)} {vs : List (Key × Value)} (r : KV kvs vs) : kvs.length = vs.length := Paired.length r
theorem KV.fsts {kvs : List (Key × V)} {vs : List (Key × Value)} (r : KV kvs vs) : kvs.map (·.1) = vs.map (·.1) := by
  induction r with
  | nil => rfl
  | cons h t ih => rw [List.map_cons, List.map_cons, ih, h.1]
abbrev kAt (kvs : List (Key × V)) (j : Nat) : Int := keyI ((kvs.map (·.1)).getD j (.inl 0))
theorem kAt_of {kvs : List (Key × V)} {j : Nat} {i : Int} {v : V} (h : kvs[j]? = some (.inl i, v)) : kAt kvs j = i := by
  unfold kAt
  rw [List.getD_eq_getElem?_getD, List.getElem?_map, h]; rfl
theorem is_int {P : Program} {w : World} {i : Int} {v : Value} (h : (mixKind P w).is (.inl i) v = true) : ∃ t, v = .int i t := by
  rw [mixKind_is] at h
  have h : Value.isInt i v = true := h
  cases v <;> first
    | (simp [Value.isInt] at h; done)
    | (simp only [Value.isInt, beq_iff_eq] at h; exact ⟨_, by rw [h]⟩)
/-- the places in rising order of their keys -/
theorem perm_keys {kvs : List (Key × V)} {p : Array Nat} (g : Gd kvs.length p) : (p.toList.map (kAt kvs)).Perm (kvs.map fun q => keyI q.1) := by
  have h1 : (p.toList.map (kAt kvs)).Perm ((List.range kvs.length).map (kAt kvs)) := by
    have := g.pm.toList
    exact List.Perm.map _ (by simpa using this)
  refine h1.trans (List.Perm.of_eq ?_)
  apply List.ext_getElem?
  intro j
  rw [List.getElem?_map, List.getElem?_map]
  by_cases h : j < kvs.length
  · rw [List.getElem?_range h, List.getElem?_eq_getElem h]
    show some (kAt kvs j) = some (keyI kvs[j].1)
    unfold kAt
    rw [List.getD_eq_getElem?_getD, List.getElem?_map, List.getElem?_eq_getElem h]; rfl
  · rw [List.getElem?_eq_none (by simp; omega), List.getElem?_eq_none (by omega)]; rfl
theorem asc_pairwise {key : Nat → Int} {n : Nat} {p : Array Nat} (g : Gd n p) (a : Asc key p n) : (p.toList.map key).Pairwise (· < ·) := by
  rw [List.pairwise_iff_getElem]
  intro i j hi hj hij
  rw [List.length_map, Array.length_toList, g.sz] at hi hj
  have z := a i j hij hj
  have e : ∀ k, (hk : k < n) → gd p k = p.toList[k]'(by rw [Array.length_toList, g.sz]; exact hk) := fun k hk => gd_of (by rw [Array.getElem?_eq_getElem (by rw [g.sz]; exact hk)]; simp)
  rw [e i hi, e j hj] at z
  simpa using z
section
variable {X : Cx}
theorem call_sortedD (hcm : X.calm = true) : CallR X (.builtin "sorted") (fun xs H Q => ∃ d kvs, xs = [.ref d] ∧ H d = some (.dK kvs) ∧ IntK kvs ∧ kvs.length < 64 ∧
    ∀ l (ks : List Int), H l = none → ks.Perm (kvs.map fun q => keyI q.1) → ks.Pairwise (· < ·) → Q (.ref l) (upd H l (.lst (ks.map V.int)))) := by
  intro pins s σ H xs us Q I r h
  obtain ⟨d, kvs, rfl, hd, hi, hl, q⟩ := h
  obtain ⟨u, rfl, ru⟩ := vals1 r
  obtain rfl : u = Value.ref d := ru
  obtain ⟨hz, hS, vs, rel, o, es, ep, dd⟩ := dk_of I.hok hd
  have hlen := rel.len
  have nd : (kvs.map (·.1)).Nodup := by rw [rel.fsts]; exact dd.2.2.2.2.2
  have hh : X.A.in1.handled = none := I.ok.hd hcm
  refine sorted_free fun {R E'} k => W.kdu_collect (W.kdl_dict (knd := mixKind X.prog X.w) (kvs := vs) (ep := ep) hS) hh ⟨o, es, dd⟩ (by rw [← hlen]; exact hz) fun h1 tk acc kp it => ?_
  obtain ⟨hsz, hit⟩ := it
  have at_ : ∀ j, j < kvs.length → ∃ t, acc.toList.getD j Value.none = .int (kAt kvs j) t := fun j hj => by
    have e : acc[j]? = some acc[j] := Array.getElem?_eq_getElem (by rw [hsz, ← hlen]; exact hj)
    obtain ⟨kk, x, e1, e2⟩ := hit j _ e
    obtain ⟨v, e3, _⟩ := rel.at e1
    obtain ⟨i, e4⟩ := hi _ (List.mem_of_getElem? e3)
    have e4 : kk = .inl i := e4
    subst e4
    obtain ⟨t, e5⟩ := is_int e2
    refine ⟨t, ?_⟩
    rw [kAt_of e3, ← e5, List.getD_eq_getElem?_getD]
    rw [← Array.getElem?_toList] at e
    rw [e]; rfl
  have la : acc.toList.length = kvs.length := by rw [Array.length_toList, hsz, hlen]
  refine k acc.toList { s with heap := h1, toks := tk } ⟨kAt kvs, by omega, by rw [la]; exact nodup_key hi nd, kp, rfl, rfl, rfl, fun h' kp' h2 => ⟨oneType', ?_, ?_⟩, ?_⟩
  · intro Q E q
    refine W.kas_kind h2 (fun v hv => ?_) rfl rfl q (T := .type "int")
    obtain ⟨j, hj, rfl⟩ := List.mem_iff_getElem.mp hv
    obtain ⟨t, e⟩ := at_ j (by omega)
    rw [List.getD_eq_getElem?_getD, List.getElem?_eq_getElem hj] at e
    have e : acc.toList[j] = Value.int (kAt kvs j) t := e
    rw [e]
    intro A Q E s _ q
    exact wpAny_pure q
  · intro i j C h1' h2' hne c
    unfold W.kas_ask
    obtain ⟨t1, e1⟩ := at_ i (by omega)
    obtain ⟨t2, e2⟩ := at_ j (by omega)
    rw [e1, e2]
    exact W.kat_lt_int c
  · intro h' l p kk g as hle kp' gl
    rw [la] at g as
    have sl : s.heap.get? l = none := by
      cases z : s.heap.get? l with
      | none => rfl
      | some o => exact absurd (Heap.lt_size (kp l o z)) (Nat.not_lt.mpr hle)
    have hnl : H l = none := by
      cases z : H l with
      | none => rfl
      | some u =>
        obtain ⟨o, e⟩ := (I.hok l u z).there
        rw [sl] at e; cases e
    have hV : Vals ((p.toList.map (kAt kvs)).map V.int) (p.toList.map fun i => acc.toList.getD i .none) := by
      have gen : ∀ L : List Nat, (∀ i ∈ L, i < kvs.length) → Vals ((L.map (kAt kvs)).map V.int) (L.map fun i => acc.toList.getD i .none) := by
        intro L
        induction L with
        | nil => intro _; exact .nil
        | cons i r ih =>
          intro hL
          obtain ⟨t, e⟩ := at_ i (hL i (by simp))
          exact .cons ⟨t, e⟩ (ih fun j hj => hL j (by simp [hj]))
      refine gen _ fun i hi => ?_
      have := (g.pm.mem_iff).mp (show i ∈ p by simpa using hi)
      simpa using this
    have lL : ((p.toList.map (kAt kvs)).map V.int).length ≤ sizeLine := by
      have e : sizeLine = 16777216 := by decide
      simp [g.sz]; omega
    refine ⟨.ref l, upd H l (.lst ((p.toList.map (kAt kvs)).map V.int)), I.more (t' := tk) (fun b o e => kp' b o (kp b o e)) (fun b o e => by rw [upd_ne (ne_of_none e hnl)]; exact e) (fun b o e n => ?_) (fun b o n e => ?_), rfl, q l _ hnl (perm_keys g) (asc_pairwise g as)⟩
    · by_cases hb : b = l
      · rw [hb]; exact sl
      · rw [upd_ne hb, n] at e; cases e
    · by_cases hb : b = l
      · subst hb
        rw [upd_same] at e; cases e
        exact ⟨lL, _, _, hV, gl⟩
      · rw [upd_ne hb, n] at e; cases e

def viewO (d : Addr) : Obj := { cls := .type "dict_items", data := .fields #[.ref d] }
theorem mt_items : MtR X "dict.items" (fun x vs H Q => ∃ d kvs, x = .ref d ∧ vs = [] ∧ H d = some (.dK kvs) ∧ ∀ p, H p = none → Q (.ref p) (upd H p (.frz (viewO d) (.own 0)))) := by
  intro pins s σ H x vs v us Q I rx rv h
  obtain ⟨d, kvs, rfl, rfl, hd, q⟩ := h
  obtain rfl : v = Value.ref d := rx
  cases rv.zero
  obtain ⟨hz, hS, ws, rel, dd⟩ := dk_of I.hok hd
  refine call_meetsIn PySem.F.slot_dict_items dd.typeIs PySem.F.entry_dict_items (PySem.F.args_dict_items_1 _) (meets_dict_items (mixKind X.prog X.w) d hS) ⟨⟨_, dd⟩, ?_⟩
  have hf : H s.heap.objs.size = none := I.hok.fresh (Nat.le_refl _)
  have g : (s.heap.push (viewO d)).get? s.heap.objs.size = some (viewO d) := Heap.get?_push_size _ rfl
  refine ⟨.ref s.heap.objs.size, _, I.laid (t' := s.toks) (fun b u e => Heap.get?_push_of_some _ e) (Nat.le_refl _) ?_, rfl, q _ hf⟩
  exact ⟨g, _, g⟩
theorem katTups_of {h : Heap} {PF : Value → Prop} : ∀ (vs : List Value), (∀ v ∈ vs, ∃ a o xs n f, v = Value.ref a ∧ h.get? a = some o ∧ o.cls = .type "tuple" ∧ o.data = .seq xs n ∧ xs[0]? = some f ∧ PF f) → ∃ fs, W.KatTups h vs fs ∧ fs.length = vs.length ∧ ∀ f ∈ fs, PF f
  | [], _ => ⟨[], by rw [W.KatTups.eq_1]; trivial, rfl, by simp⟩
  | v :: vs, hv => by
    obtain ⟨a, o, xs, n, f, e1, e2, e3, e4, e5, e6⟩ := hv v (by simp)
    obtain ⟨fs, i1, i2, i3⟩ := katTups_of vs fun u hu => hv u (by simp [hu])
    refine ⟨f :: fs, ?_, by simp [i2], fun g hg => ?_⟩
    · rw [W.KatTups.eq_2]
      exact ⟨⟨a, o, xs, n, e1, e2, e3, e4, e5⟩, i1⟩
    · rcases List.mem_cons.mp hg with rfl | hg
      · exact e6
      · exact i3 g hg
theorem lookup_zip {as : List Addr} {kvs : List (Key × V)} (nd : as.Nodup) (hl : as.length = kvs.length) {j : Nat} {a : Addr} (h : as[j]? = some a) : (as.zip kvs).lookup a = kvs[j]? := by
  induction as generalizing kvs j with
  | nil => simp at h
  | cons b r ih =>
    cases kvs with
    | nil => simp at hl
    | cons kv kr =>
      rw [List.zip_cons_cons, List.lookup_cons]
      cases j with
      | zero =>
        simp at h; subst h; simp
      | succ j =>
        have h' : r[j]? = some a := by simpa using h
        have hne : a ≠ b := fun e => by
          have := (List.nodup_cons.mp nd).1
          exact this (e ▸ List.mem_of_getElem? h')
        rw [show (a == b) = false by simpa using hne]
        simpa using ih (List.nodup_cons.mp nd).2 (by simpa using hl) h'
theorem lookup_none {as : List Addr} {kvs : List (Key × V)} {b : Addr} (h : b ∉ as) : (as.zip kvs).lookup b = none := by
  induction as generalizing kvs with
  | nil => simp
  | cons c r ih =>
    cases kvs with
    | nil => simp
    | cons kv kr =>
      rw [List.zip_cons_cons, List.lookup_cons]
      have : b ≠ c := fun e => h (by simp [e])
      rw [show (b == c) = false by simpa using this]
      exact ih fun z => h (by simp [z])
abbrev vAt (kvs : List (Key × V)) (j : Nat) : V := (kvs.map (·.2)).getD j .non
theorem vAt_of {kvs : List (Key × V)} {j : Nat} {k : Key} {v : V} (h : kvs[j]? = some (k, v)) : vAt kvs j = v := by
  unfold vAt
  rw [List.getD_eq_getElem?_getD, List.getElem?_map, h]; rfl
theorem perm_rows {kvs : List (Key × V)} {p : Array Nat} (g : Gd kvs.length p) : (p.toList.map fun i => (kAt kvs i, vAt kvs i)).Perm (kvs.map fun q => (keyI q.1, q.2)) := by
  have h1 : (p.toList.map fun i => (kAt kvs i, vAt kvs i)).Perm ((List.range kvs.length).map fun i => (kAt kvs i, vAt kvs i)) := by
    have := g.pm.toList
    exact List.Perm.map _ (by simpa using this)
  refine h1.trans (List.Perm.of_eq ?_)
  apply List.ext_getElem?
  intro j
  rw [List.getElem?_map, List.getElem?_map]
  by_cases h : j < kvs.length
  · rw [List.getElem?_range h, List.getElem?_eq_getElem h]
    show some (kAt kvs j, vAt kvs j) = some (keyI kvs[j].1, kvs[j].2)
    unfold kAt vAt
    rw [List.getD_eq_getElem?_getD, List.getElem?_map, List.getElem?_eq_getElem h, List.getD_eq_getElem?_getD, List.getElem?_map, List.getElem?_eq_getElem h]; rfl
  · rw [List.getElem?_eq_none (by simp; omega), List.getElem?_eq_none (by omega)]; rfl
/-- sorted(d.items()) -/
theorem call_sortedI (hcm : X.calm = true) : CallR X (.builtin "sorted") (fun xs H Q => ∃ v d kvs, xs = [.ref v] ∧ H v = some (.frz (viewO d) (.own 0)) ∧ H d = some (.dK kvs) ∧ IntK kvs ∧ kvs.length < 64 ∧
    ∀ l (as : List Addr) (rows : List (Int × V)) H', (∀ b o, H b = some o → H' b = some o) → H l = none → H' l = some (.lst (as.map V.ref)) → Paired (fun a (r : Int × V) => H' a = some (.tup [.int r.1, r.2])) as rows →
      (rows.map (·.1)).Pairwise (· < ·) → rows.Perm (kvs.map fun q => (keyI q.1, q.2)) → Q (.ref l) H') := by
  intro pins s σ H xs us Q I r h
  obtain ⟨v, d, kvs, rfl, hv, hd, hi, hl, q⟩ := h
  obtain ⟨u, rfl, ru⟩ := vals1 r
  obtain rfl : u = Value.ref v := ru
  obtain ⟨hz, hS, vs, rel, o, es, ep, dd⟩ := dk_of I.hok hd
  have hlen := rel.len
  have nd : (kvs.map (·.1)).Nodup := by rw [rel.fsts]; exact dd.2.2.2.2.2
  have hh : X.A.in1.handled = none := I.ok.hd hcm
  have hview : s.heap.IsItemsView v d := ⟨_, (I.hok _ _ hv).1, rfl, rfl⟩
  refine sorted_free fun {R E'} k => W.kdx_collect (knd := mixKind X.prog X.w) hh hview ⟨o, es, dd⟩ (by rw [← hlen]; exact hz) fun h1 tk as kp la G => ?_
  have la' : as.length = kvs.length := by rw [la, hlen]
  have nda : as.Nodup := G.rise.imp fun z => Nat.ne_of_lt z
  have at_ : ∀ j, j < kvs.length → ∃ a t x i vv, as[j]? = some a ∧ kvs[j]? = some (.inl i, vv) ∧ RelV vv x ∧ kAt kvs j = i ∧ h1.get? a = some { cls := .type "tuple", data := .seq #[.int i t, x] } ∧ s.heap.objs.size < a := fun j hj => by
    have e : as[j]? = some (as[j]'(by omega)) := List.getElem?_eq_getElem (by omega)
    obtain ⟨key, kk, x, e1, e2, e3⟩ := G.pairs j _ e
    obtain ⟨vv, e4, rv⟩ := rel.at e1
    obtain ⟨i, e5⟩ := hi _ (List.mem_of_getElem? e4)
    have e5 : kk = .inl i := e5
    subst e5
    obtain ⟨t, rfl⟩ := is_int e2
    exact ⟨_, t, x, i, vv, e, e4, rv, kAt_of e4, e3, G.above _ (List.getElem_mem _)⟩
  have gd_ : ∀ j a, as[j]? = some a → (as.map Value.ref).getD j Value.none = .ref a := fun j a e => by
    rw [List.getD_eq_getElem?_getD, List.getElem?_map, e]; rfl
  refine k (as.map Value.ref) { s with heap := h1, toks := tk } ⟨kAt kvs, by simp; omega, by rw [List.length_map, la']; exact nodup_key hi nd, kp, rfl, rfl, rfl, fun h' kp' h2 => ⟨tuples' true, ?_, ?_⟩, ?_⟩
  · intro Q E q
    obtain ⟨fs, f1, f2, f3⟩ := katTups_of (h := h') (PF := fun f => ∃ i t, f = Value.int i t) (as.map Value.ref) fun w' hw => by
      obtain ⟨a, ha, rfl⟩ := List.mem_map.mp hw
      obtain ⟨j, hj, rfl⟩ := List.mem_iff_getElem.mp ha
      obtain ⟨a, t, x, i, vv, e1, e2, e3, e4, e5, e6⟩ := at_ j (by omega)
      rw [List.getElem?_eq_getElem hj] at e1
      cases e1
      exact ⟨_, _, _, _, _, rfl, kp' _ _ e5, rfl, rfl, rfl, i, t, rfl⟩
    refine W.kat_kind f1 (by rw [f2]; omega) (fun f hf => ?_) rfl q (T := .type "int")
    obtain ⟨i, t, rfl⟩ := f3 f hf
    intro A Q E s _ q
    exact wpAny_pure q
  · intro i j C h1' h2' hne c
    rw [List.length_map, la'] at h1' h2'
    unfold W.kas_ask
    obtain ⟨a1, t1, x1, i1, v1, e11, e12, e13, e14, e15, e16⟩ := at_ i h1'
    obtain ⟨a2, t2, x2, i2, v2, e21, e22, e23, e24, e25, e26⟩ := at_ j h2'
    rw [gd_ i a1 e11, gd_ j a2 e21]
    refine W.kat_lt (kp' _ _ e15) rfl (kp' _ _ e25) rfl ?_
    refine W.kat_cons (wpAny_eqBool_int ?_)
    have ne : i1 ≠ i2 := fun z => hne (nodup_key hi nd i j h1' h2' (by show kAt kvs i = kAt kvs j; rw [e14, e24, z]))
    rw [show (i1 == i2) = false by simpa using ne]
    refine W.kat_no ?_
    show wpAny _ _ (oneLt' true _ _) _ _ _
    rw [← keyLt'_oneType]
    refine W.kat_lt_int ?_
    have : fK (kAt kvs) i j = decide (i1 < i2) := by show decide (kAt kvs i < kAt kvs j) = _; rw [e14, e24]
    rw [this] at c
    exact c
  · intro h' l p kk g as' hle kp' gl
    rw [List.length_map, la'] at g as'
    have pin : ∀ i ∈ p.toList, i < kvs.length := fun i hi => by
      have := (g.pm.mem_iff).mp (show i ∈ p by simpa using hi)
      simpa using this
    have sl : s.heap.get? l = none := by
      cases z : s.heap.get? l with
      | none => rfl
      | some o => exact absurd (Heap.lt_size (kp l o z)) (Nat.not_lt.mpr hle)
    have hnl : H l = none := by
      cases z : H l with
      | none => rfl
      | some u =>
        obtain ⟨o, e⟩ := (I.hok l u z).there
        rw [sl] at e; cases e
    have inas : ∀ a ∈ as, ∃ j, j < kvs.length ∧ as[j]? = some a := fun a ha => by
      obtain ⟨j, hj, e⟩ := List.mem_iff_getElem.mp ha
      exact ⟨j, by omega, by rw [List.getElem?_eq_getElem hj, e]⟩
    have asz : ∀ a ∈ as, s.heap.objs.size < a ∧ a < h1.objs.size := fun a ha => by
      obtain ⟨j, hj, e⟩ := inas a ha
      obtain ⟨a', t, x, i, vv, e1, e2, e3, e4, e5, e6⟩ := at_ j hj
      rw [e] at e1; cases e1
      exact ⟨e6, Heap.lt_size e5⟩
    have lnas : l ∉ as := fun z => absurd (asz l z).2 (Nat.not_lt.mpr hle)
    have anl : ∀ a ∈ as, a ≠ l := fun a ha e => lnas (e ▸ ha)
    generalize hH' : (fun b => if b = l then some (HO.lst ((p.toList.map fun i => as.getD i 0).map V.ref)) else match (as.zip kvs).lookup b with | some kv => some (HO.tup [V.int (keyI kv.1), kv.2]) | none => H b : Hp) = H'
    have H'l : H' l = some (.lst ((p.toList.map fun i => as.getD i 0).map V.ref)) := by rw [← hH']; exact if_pos rfl
    have H'a : ∀ (j : Nat) (a : Addr) (i : Int) (vv : V), as[j]? = some a → kvs[j]? = some (Sum.inl i, vv) → H' a = some (.tup [.int i, vv]) := fun j a i vv e1 e2 => by
      rw [← hH']
      show (if a = l then _ else _) = _
      rw [if_neg (anl a (List.mem_of_getElem? e1)), lookup_zip nda la' e1, e2]; rfl
    have H'o : ∀ b, b ≠ l → b ∉ as → H' b = H b := fun b n1 n2 => by
      rw [← hH']
      show (if b = l then _ else _) = _
      rw [if_neg n1, lookup_none n2]
    have ext : ∀ b o, H b = some o → H' b = some o := fun b o e => by
      rw [H'o b (ne_of_none e hnl) fun z => by
        have := I.hok.fresh (Nat.le_of_lt (asz b z).1)
        rw [this] at e; cases e]
      exact e
    have pr : ∀ L : List Nat, (∀ i ∈ L, i < kvs.length) → Paired (fun a (r : Int × V) => H' a = some (.tup [.int r.1, r.2])) (L.map fun i => as.getD i 0) (L.map fun i => (kAt kvs i, vAt kvs i)) := by
      intro L
      induction L with
      | nil => intro _; exact .nil
      | cons i r ih =>
        intro hL
        obtain ⟨a, t, x, ii, vv, e1, e2, e3, e4, e5, e6⟩ := at_ i (hL i (by simp))
        refine .cons ?_ (ih fun j hj => hL j (by simp [hj]))
        show H' (as.getD i 0) = some (.tup [.int (kAt kvs i), vAt kvs i])
        rw [e4, vAt_of e2, List.getD_eq_getElem?_getD, e1]
        exact H'a i a ii vv e1 e2
    have hV : ∀ L : List Nat, (∀ i ∈ L, i < kvs.length) → Vals ((L.map fun i => as.getD i 0).map V.ref) (L.map fun i => (as.map Value.ref).getD i .none) := by
      intro L
      induction L with
      | nil => intro _; exact .nil
      | cons i r ih =>
        intro hL
        obtain ⟨a, t, x, ii, vv, e1, e2, e3, e4, e5, e6⟩ := at_ i (hL i (by simp))
        refine .cons ?_ (ih fun j hj => hL j (by simp [hj]))
        show RelV (.ref (as.getD i 0)) ((as.map Value.ref).getD i .none)
        rw [gd_ i a e1, List.getD_eq_getElem?_getD, e1]
        rfl
    have hsz : sizeLine = 16777216 := by decide
    refine ⟨.ref l, H', I.more (t' := tk) (fun b o e => kp' b o (kp b o e)) ext (fun b o e n => ?_) (fun b o n e => ?_), rfl, q l _ (p.toList.map fun i => (kAt kvs i, vAt kvs i)) H' ext hnl H'l (pr _ pin) ?_ (perm_rows g)⟩
    · by_cases hb : b = l
      · rw [hb]; exact sl
      · by_cases hb2 : b ∈ as
        · exact Heap.get?_none_of_le (Nat.le_of_lt (asz b hb2).1)
        · rw [H'o b hb hb2, n] at e; cases e
    · by_cases hb : b = l
      · subst hb
        rw [H'l] at e; cases e
        exact ⟨by simp [g.sz]; omega, _, _, hV _ pin, gl⟩
      · by_cases hb2 : b ∈ as
        · obtain ⟨j, hj, e0⟩ := inas b hb2
          obtain ⟨a, t, x, ii, vv, e1, e2, e3, e4, e5, e6⟩ := at_ j hj
          rw [e0] at e1; cases e1
          rw [H'a j b ii vv e0 e2] at e; cases e
          exact ⟨by show (2 : Nat) ≤ _; decide, [.int ii t, x], .cons ⟨t, rfl⟩ (.cons e3 .nil), _, kp' _ _ e5, rfl, _, rfl⟩
        · rw [H'o b hb hb2, n] at e; cases e
    · have := asc_pairwise g as'
      rw [List.map_map]
      exact this
end
end L2

set_option Elab.async false
set_option linter.all false
set_option maxRecDepth 100000
namespace L2
open PySem PySem.Spec PyProof.Rows
/-! ### rows of a table: keys and texts, parted bit by bit -/
abbrev Rw := Int × Str
def bitAt (k : Int) (b : Nat) : Int := k / 2 ^ b % 2
theorem bitAt_two (k : Int) (b : Nat) : bitAt k b = 0 ∨ bitAt k b = 1 := by unfold bitAt; omega
def prt (rows : List Rw) (b : Nat) (s : Int) : List Rw := rows.filter fun r => decide (bitAt r.1 b = s)
abbrev rwT (r : Rw) : Tm := .nd "row" (.int r.1) (.str r.2)
abbrev fkT : Tm → Tm → Tm := .nd "fork"
def topP : Nat → List Rw → Tm
  | _, [] => nlT
  | _, [r] => rwT r
  | 0, _ :: _ :: _ => nlT
  | b + 1, x :: y :: r => fkT (topP b (prt (x :: y :: r) b 0)) (topP b (prt (x :: y :: r) b 1))
theorem topP_nil (b : Nat) : topP b [] = nlT := by cases b <;> rfl
theorem topP_one (b : Nat) (r : Rw) : topP b [r] = rwT r := by cases b <;> rfl
theorem topP_more {b : Nat} {rows : List Rw} (h : 2 ≤ rows.length) : topP (b + 1) rows = fkT (topP b (prt rows b 0)) (topP b (prt rows b 1)) := by
  match rows, h with
  | x :: y :: r, _ => rfl
theorem div_step (k : Int) (b : Nat) : k / 2 ^ (b + 1) = k / 2 ^ b / 2 := by
  rw [Int.pow_succ, Int.ediv_ediv_of_nonneg (two_pow_nn b)]
theorem prt_mem {rows : List Rw} {b : Nat} {s : Int} {r : Rw} (h : r ∈ prt rows b s) : r ∈ rows ∧ bitAt r.1 b = s := by
  have := List.mem_filter.mp h
  exact ⟨this.1, of_decide_eq_true this.2⟩
structure OKR (b : Nat) (rows : List Rw) : Prop where
  nd : (rows.map (·.1)).Nodup
  al : ∀ r ∈ rows, ∀ r' ∈ rows, r.1 / 2 ^ b = r'.1 / 2 ^ b
theorem OKR.zero {rows : List Rw} (h : OKR 0 rows) : rows.length ≤ 1 := by
  match rows, h with
  | [], _ => simp
  | [_], _ => simp
  | x :: y :: r, h =>
    have e := h.al x (by simp) y (by simp)
    simp at e
    have n := h.nd
    simp [e] at n
theorem OKR.prt {b : Nat} {rows : List Rw} (h : OKR (b + 1) rows) (s : Int) : OKR b (prt rows b s) := by
  refine ⟨h.nd.sublist (List.Sublist.map _ List.filter_sublist), fun r hr r' hr' => ?_⟩
  obtain ⟨m1, e1⟩ := prt_mem hr
  obtain ⟨m2, e2⟩ := prt_mem hr'
  have e := h.al r m1 r' m2
  rw [div_step, div_step] at e
  unfold bitAt at e1 e2
  omega
theorem OKR.of {b : Nat} {rows : List Rw} (nd : (rows.map (·.1)).Nodup) (h : ∀ r ∈ rows, 0 ≤ r.1 ∧ r.1 < 2 ^ b) : OKR b rows :=
  ⟨nd, fun r hr r' hr' => by rw [Int.ediv_eq_zero_of_lt (h r hr).1 (h r hr).2, Int.ediv_eq_zero_of_lt (h r' hr').1 (h r' hr').2]⟩
theorem prt_len (b : Nat) : ∀ rows : List Rw, (prt rows b 0).length + (prt rows b 1).length = rows.length
  | [] => rfl
  | r :: t => by
    have ih := prt_len b t
    unfold prt at ih ⊢
    rcases bitAt_two r.1 b with e | e
    · rw [List.filter_cons_of_pos (by simp [e]), List.filter_cons_of_neg (by simp [e])]
      simp only [List.length_cons]; omega
    · rw [List.filter_cons_of_neg (by simp [e]), List.filter_cons_of_pos (by simp [e])]
      simp only [List.length_cons]; omega
theorem prt_len2 (b : Nat) (rows : List Rw) (k : Int) : (prt rows b (bitAt k b)).length + (prt rows b (1 - bitAt k b)).length = rows.length := by
  have := prt_len b rows
  rcases bitAt_two k b with e | e
  · rw [e]; exact this
  · rw [e]; show (prt rows b 1).length + (prt rows b 0).length = _; omega
/-- how many seals are asked for it -/
def cstP : Nat → List Rw → Nat
  | 0, _ => 1
  | b + 1, rows => if rows.length ≤ 1 then 1 else 1 + cstP b (prt rows b 0) + cstP b (prt rows b 1)
theorem cstP_pos (b : Nat) (rows : List Rw) : 1 ≤ cstP b rows := by
  cases b with
  | zero => exact Nat.le_refl _
  | succ b => unfold cstP; split <;> omega
theorem cstP_more {b : Nat} {rows : List Rw} (h : 2 ≤ rows.length) : cstP (b + 1) rows = 1 + cstP b (prt rows b 0) + cstP b (prt rows b 1) := by
  show (if _ then _ else _) = _
  rw [if_neg (by omega)]
theorem cstP_le : ∀ (b : Nat) (rows : List Rw), cstP b rows ≤ 1 + 2 * (b * rows.length)
  | 0, _ => by simp [cstP]
  | b + 1, rows => by
    by_cases h : 2 ≤ rows.length
    · rw [cstP_more h]
      have i1 := cstP_le b (prt rows b 0)
      have i2 := cstP_le b (prt rows b 1)
      have l := prt_len b rows
      have e : b * rows.length = b * (prt rows b 0).length + b * (prt rows b 1).length := by rw [← l, Nat.mul_add]
      rw [Nat.add_mul]
      omega
    · show (if _ then _ else _) ≤ _
      rw [if_pos (by omega)]; omega
theorem topP_dep : ∀ (b : Nat) (rows : List Rw), (topP b rows).dep ≤ b + 1
  | b, [] => by rw [topP_nil]; simp [Tm.dep]
  | b, [r] => by rw [topP_one]; simp [Tm.dep]
  | 0, _ :: _ :: _ => by simp [topP, Tm.dep]
  | b + 1, x :: y :: r => by
    have i1 := topP_dep b (prt (x :: y :: r) b 0)
    have i2 := topP_dep b (prt (x :: y :: r) b 1)
    show max _ _ + 1 ≤ _
    omega
/-- what the way of a key holds: the tops left aside, and the rows left -/
def wayP : Nat → List Rw → Int → List Tm × List Rw
  | 0, rows, _ => ([], rows)
  | b + 1, rows, k => if rows.length ≤ 1 then ([], rows) else (topP b (prt rows b (1 - bitAt k b)) :: (wayP b (prt rows b (bitAt k b)) k).1, (wayP b (prt rows b (bitAt k b)) k).2)
theorem wayP_few {b : Nat} {rows : List Rw} {k : Int} (h : rows.length ≤ 1) : wayP b rows k = ([], rows) := by
  cases b with
  | zero => rfl
  | succ b => show (if _ then _ else _) = _; rw [if_pos h]
theorem wayP_more {b : Nat} {rows : List Rw} {k : Int} (h : 2 ≤ rows.length) : wayP (b + 1) rows k = (topP b (prt rows b (1 - bitAt k b)) :: (wayP b (prt rows b (bitAt k b)) k).1, (wayP b (prt rows b (bitAt k b)) k).2) := by
  show (if _ then _ else _) = _
  rw [if_neg (by omega)]
theorem wayP_len : ∀ (b : Nat) (rows : List Rw) (k : Int), (wayP b rows k).1.length ≤ b
  | 0, _, _ => Nat.le_refl _
  | b + 1, rows, k => by
    by_cases h : 2 ≤ rows.length
    · rw [wayP_more h]; have := wayP_len b (prt rows b (bitAt k b)) k; simp only [List.length_cons]; omega
    · rw [wayP_few (by omega)]; simp
theorem wayP_dep : ∀ (b : Nat) (rows : List Rw) (k : Int), ∀ t ∈ (wayP b rows k).1, t.dep ≤ b
  | 0, _, _, t, h => by simp [wayP] at h
  | b + 1, rows, k, t, ht => by
    by_cases h : 2 ≤ rows.length
    · rw [wayP_more h] at ht
      rcases List.mem_cons.mp ht with z | z
      · rw [z]; exact topP_dep _ _
      · have := wayP_dep b _ k t z; omega
    · rw [wayP_few (by omega)] at ht; cases ht
theorem wayP_end : ∀ (b : Nat) (rows : List Rw) (k : Int), OKR b rows → (wayP b rows k).2.length ≤ 1
  | 0, rows, k, h => h.zero
  | b + 1, rows, k, h => by
    by_cases h2 : 2 ≤ rows.length
    · rw [wayP_more h2]; exact wayP_end b _ k (h.prt _)
    · rw [wayP_few (by omega)]; show rows.length ≤ 1; omega
/-- how many seals are asked for it -/
def wcP : Nat → List Rw → Int → Nat
  | 0, _, _ => 0
  | b + 1, rows, k => if rows.length ≤ 1 then 0 else cstP b (prt rows b (1 - bitAt k b)) + wcP b (prt rows b (bitAt k b)) k
theorem wcP_more {b : Nat} {rows : List Rw} {k : Int} (h : 2 ≤ rows.length) : wcP (b + 1) rows k = cstP b (prt rows b (1 - bitAt k b)) + wcP b (prt rows b (bitAt k b)) k := by
  show (if _ then _ else _) = _
  rw [if_neg (by omega)]
theorem wcP_le : ∀ (b : Nat) (rows : List Rw) (k : Int), wcP b rows k ≤ b + 2 * (b * rows.length)
  | 0, _, _ => by simp [wcP]
  | b + 1, rows, k => by
    by_cases h : 2 ≤ rows.length
    · rw [wcP_more h]
      have i1 := cstP_le b (prt rows b (1 - bitAt k b))
      have i2 := wcP_le b (prt rows b (bitAt k b)) k
      have l := prt_len2 b rows k
      have e : b * rows.length = b * (prt rows b (bitAt k b)).length + b * (prt rows b (1 - bitAt k b)).length := by rw [← l, Nat.mul_add]
      rw [Nat.add_mul]
      omega
    · show (if _ then _ else _) ≤ _
      rw [if_pos (by omega)]; omega
/-- the rows, in the heap -/
def RowAt (H : Hp) (r : Rw) (v : V) : Prop := ∃ p, v = .ref p ∧ H p = some (.tup [.int r.1, .str r.2])
abbrev RowsAt (H : Hp) : List Rw → List V → Prop := Paired (RowAt H)
theorem RowAt.up {S : Sl} {n : Nat} {H H' : Hp} {r : Rw} {v : V} (h : RowAt H r v) (g : Gn S n H H') : RowAt H' r v := by
  obtain ⟨p, e, q⟩ := h
  exact ⟨p, e, g.keep _ _ q rfl⟩
theorem RowsAt.up {S : Sl} {n : Nat} {H H' : Hp} {rows : List Rw} {vs : List V} (h : RowsAt H rows vs) (g : Gn S n H H') : RowsAt H' rows vs := Paired.imp2 (fun _ _ q => RowAt.up q g) h
theorem pr_get1 {α β : Type} {F : α → β → Prop} : ∀ {l₁ : List α} {l₂ : List β} {i : Nat} {a : α}, Paired F l₁ l₂ → l₁[i]? = some a → ∃ b, l₂[i]? = some b ∧ F a b
  | _, _, 0, _, .cons r _, h2 => by simp at h2; subst h2; exact ⟨_, rfl, r⟩
  | _, _, i + 1, _, .cons _ t, h2 => by
    obtain ⟨a, h1, h3⟩ := pr_get1 (i := i) t (by simpa using h2)
    exact ⟨a, by simpa using h1, h3⟩
theorem pr_snoc {α β : Type} {F : α → β → Prop} {l : List α} {m : List β} {a : α} {b : β} (h : Paired F l m) (r : F a b) : Paired F (l ++ [a]) (m ++ [b]) := pr_app h (.cons r .nil)
theorem filter_take {α : Type} {f : α → Bool} {l : List α} {i : Nat} {a : α} (h : l[i]? = some a) : (l.take (i + 1)).filter f = (l.take i).filter f ++ (if f a = true then [a] else []) := by
  rw [List.take_succ, h, List.filter_append]
  congr 1
  show [a].filter f = _
  cases e : f a <;> simp [e]
/-- [row for row in rows if test] -/
theorem comp_rows {K : PySem.W.Frag} {S : Sl} {js : List Nat} {tt : TT} {σ : St} {H : Hp} {R : Addr → Hp → Prop} {a : Addr} {rows : List Rw} {ws : List V} (f : Rw → Bool) (ts : Told S H) (hq : SqL K H a ws) (hw : RowsAt H rows ws) (hz : rows.length ≤ 100000)
    (htt : ∀ (p : Addr) (r : Rw) (H' : Hp) (Qb : Bool → Hp → Prop), H' p = some (.tup [.int r.1, .str r.2]) → Qb (f r) H' → tt (some (.ref p) :: capt js σ) H' Qb)
    (hQ : ∀ D H' ws', Gr S 0 H H' → H D = none → H' D = some (.lst ws') → RowsAt H' (rows.filter f) ws' → R D H') :
    ∀ D, H D = none → ∃ W : Nat → Nat → List V → Hp → Prop, (∃ m, W 0 m [] (upd H D (.lst []))) ∧ ∀ i m ys H, W i m ys H →
      ((Itl K a).stop i H ∧ R D H) ∨ ((Itl K a).go i H ∧ ∀ x H', (Itl K a).yld i H x H' → tt (some x :: capt js σ) H' fun b H2 => if b = true then tVar 0 (some x :: capt js σ) H2 fun y H3 => H3 D = some (.lst ys) ∧ ys.length < sizeLine ∧ ∃ m', m' < m ∧ W (i + 1) m' (ys ++ [y]) (upd H3 D (.lst (ys ++ [y])))
        else ∃ m', m' < m ∧ W (i + 1) m' ys H2) := by
  intro D hD
  refine ⟨fun i m ys H' => m = rows.length - i ∧ i ≤ rows.length ∧ H' D = some (.lst ys) ∧ Gr S 0 H H' ∧ RowsAt H' ((rows.take i).filter f) ys, ⟨rows.length, by simp, by omega, upd_same, Gr.new ts hD, .nil⟩, ?_⟩
  rintro i m ys H' ⟨rfl, hi, hD', g, ry⟩
  have hq' := g.sq hq
  have hl := pr_len hw
  by_cases hlt : i < rows.length
  · have hlt' : i < ws.length := by omega
    refine .inr ⟨⟨_, ws[i], hq', List.getElem?_eq_getElem hlt'⟩, fun x H2 ⟨e2, hx⟩ => ?_⟩
    subst e2
    have er : rows[i]? = some rows[i] := List.getElem?_eq_getElem hlt
    have ex := hx _ hq'
    obtain ⟨p, rfl, hp⟩ := pr_get hw er ex
    have hp' := g.gn.keep _ _ hp rfl
    refine htt p rows[i] H2 _ hp' ?_
    have ef := filter_take (f := f) er
    have ylen : ys.length ≤ i := by rw [← pr_len ry]; refine Nat.le_trans (List.length_filter_le _ _) ?_; rw [List.length_take]; omega
    cases e : f rows[i] with
    | true =>
      rw [if_pos rfl]
      rw [e, if_pos rfl] at ef
      have g4 : Gn S 0 H2 (upd H2 D (.lst (ys ++ [.ref p]))) := Gn.chg g.gn.told2 hD' rfl (fun _ e => nomatch e)
      refine ⟨_, rfl, hD', by rw [sizeLine_eq]; omega, rows.length - (i + 1), by omega, rfl, by omega, upd_same, g.own hD, ?_⟩
      rw [ef]
      exact RowsAt.up (pr_snoc ry ⟨p, rfl, hp'⟩) g4
    | false =>
      rw [if_neg (by simp)]
      rw [e, if_neg (by simp), List.append_nil] at ef
      exact ⟨rows.length - (i + 1), by omega, rfl, by omega, hD', g, by rw [ef]; exact ry⟩
  · have e : i = rows.length := by omega
    subst e
    refine .inl ⟨⟨_, hq', by omega⟩, ?_⟩
    rw [List.take_length] at ry
    exact hQ D H' ys g hD hD' ry
end L2

set_option Elab.async false
set_option linter.all false
set_option maxRecDepth 100000
namespace L2
open PySem PySem.Spec PyProof.Rows
/-! ### tuples that hold lists of trees -/
def EqW (K : PySem.W.Frag) (H : Hp) (n : Nat) (x y : V) : Prop := EqV H n x y ∨ ∃ a b xs ys, x = .ref a ∧ y = .ref b ∧ SqL K H a xs ∧ SqL K H b ys ∧ xs.length = ys.length ∧ ∀ (i : Nat) u v, xs[i]? = some u → ys[i]? = some v → EqV H n u v
section
variable {X : Cx}
theorem eqAt_W {pins : List (Addr × Obj)} {σ : St} {H : Hp} {s : Shared} {A : Around} {n : Nat} {x y : V} {u v : Value} (I : Inv X pins σ H s) (h : EqW X.K H n x y) (rx : RelV x u) (ry : RelV y v) (hu : A.units + n + 1 < cLine) : SeqAt.EqAt A s u v true := by
  rcases h with h | ⟨a, b, xs, ys, rfl, rfl, ha, hb, hl, hi⟩
  · exact eqAt_of I.hok n x y u v A h rx ry (by omega)
  · obtain rfl : u = Value.ref a := rx
    obtain rfl : v = Value.ref b := ry
    by_cases e : a = b
    · subst e; exact SeqAt.EqAt.same _
    obtain ⟨its, r, pa, za⟩ := I.list ha
    obtain ⟨its2, r2, pb, zb⟩ := I.list hb
    have h1 := r.length; have h2 := r2.length
    have q2 := SeqAt.RcAt.lists (A := A) (s := s) (e := fun _ => true) pa.isList pb.isList (by simp; omega) (by omega) fun j h1 h2 => by
      obtain ⟨x1, e1, q1⟩ := r.at h1
      obtain ⟨y1, e2, q2⟩ := r2.at h2
      exact eqAt_of I.hok n x1 y1 _ _ A.in1 (hi j x1 y1 e1 e2) q1 q2 (by show A.units + 1 + n < cLine; omega)
    rw [all_true] at q2
    exact SeqAt.EqAt.of_refs e q2
theorem op_neW : OpR X (compareOp .NotEq) (fun x y H Q => ∃ n a b xs ys, x = .ref a ∧ y = .ref b ∧ H a = some (.tup xs) ∧ H b = some (.tup ys) ∧ xs.length = ys.length ∧ (∀ (i : Nat) u v, xs[i]? = some u → ys[i]? = some v → EqW X.K H n u v) ∧ X.A.units + n + 2 < cLine ∧ Q (.bl false) H) := by
  intro pins s σ H x y v u Q I rx ry h
  obtain ⟨n, a, b, xs, ys, rfl, rfl, ha, hb, hl, hi, hu, q⟩ := h
  obtain rfl : v = Value.ref a := rx
  obtain rfl : u = Value.ref b := ry
  obtain ⟨za, its, r, pa⟩ := I.hok _ _ ha
  obtain ⟨zb, its2, r2, pb⟩ := I.hok _ _ hb
  have q2 := SeqAt.RcNeAt.tuples (A := X.A) (s := s) (e := fun _ => true) (show s.heap.IsTuple a its.toArray from pa) (show s.heap.IsTuple b its2.toArray from pb) (by omega) fun j h1 h2 => by
    obtain ⟨x1, e1, q1⟩ := r.at h1
    obtain ⟨y1, e2, q2⟩ := r2.at h2
    exact eqAt_W I (hi j x1 y1 e1 e2) q1 q2 (by show X.A.units + 1 + n + 1 < cLine; omega)
  have e3 : (!((List.range (min its.toArray.size its2.toArray.size)).all (fun _ => true) && its.toArray.size == its2.toArray.size)) = false := by
    have h1 := r.length; have h2 := r2.length
    rw [all_true, Bool.true_and]
    simp; omega
  rw [e3] at q2
  exact q2 X.prog X.w X.xe _ ⟨.bl false, H, I, rfl, q⟩
end
/-! ### a def with defaults, all of them ints -/
structure FunD (K : PySem.W.Frag) (x qual : Str) (st : Stmt) (f : Addr) (fd : FuncData) (ds : List Int) : Prop where
  ex : ∃ (oc : Value) (od : Option Addr) (T : Addr) (kV doc pm : Value) (an : Option Addr) (cdv ct : Value) (osl : Array (Option Value)) (oT : Obj) (its : List Value) (n : Nat),
    fd = PySem.W.fnOf x qual (defArgs st) (defBody st) (defScope st) (.ref T) kV doc pm an cdv ct ∧ K.lookup f = some ⟨oc, od, .func fd, osl⟩ ∧ PySem.W.codeIn K cdv qual = true ∧ K.lookup T = some oT ∧ oT.data = .seq its.toArray n ∧ IntsAre its ds
  kp : PySem.W.keepIn K (.ref f) = true
def MethD (K : PySem.W.Frag) (C : Addr) (m qual : Str) (st : Stmt) (ds : List Int) : Prop := ∃ f fd, Meth K C m f ∧ FunD K m qual st f fd ds
theorem methD_mk {K : PySem.W.Frag} {C : Addr} {m qual : Str} {st : Stmt} {f T : Addr} {oc oc2 : Value} {od an od2 : Option Addr} {osl osl2 : Array (Option Value)} {kV doc pm cdv ct : Value} {d : Int} {t : Tok} {n : Nat} (a : PySem.W.findIn K (.ref C) m = some (some (.ref f))) (i : PySem.W.isFn K (.ref f) = true)
    (l : K.lookup f = some ⟨oc, od, .func (PySem.W.fnOf m qual (defArgs st) (defBody st) (defScope st) (.ref T) kV doc pm an cdv ct), osl⟩) (c : PySem.W.codeIn K cdv qual = true) (k : PySem.W.keepIn K (.ref f) = true)
    (lT : K.lookup T = some ⟨oc2, od2, .seq #[.int d t] n, osl2⟩) : MethD K C m qual st [d] :=
  ⟨f, _, ⟨a, i, k⟩, ⟨⟨oc, od, T, kV, doc, pm, an, cdv, ct, osl, _, [.int d t], n, rfl, l, c, lT, rfl, .cons d t .nil⟩, k⟩⟩
section
variable {P : Program} {w : World} {K : PySem.W.Frag} {mg : Str → Option Value} {base : Heap}
theorem FunD.ok {x qual : Str} {st : Stmt} {f : Addr} {fd : FuncData} {ds : List Int} {N ps : List Str} {k : Nat} {sp : Sp} (F : FunD K x qual st f fd ds) (S : FnScope N ps (defScope st)) (len : ∀ vs H Q E, sp vs H Q E → vs.length = ps.length)
    (hbody : ∀ (cdv : Value) (A : Around) (outer : List Env) (s : Shared) (H : Hp) (vs : List V) (Q : VK) (E : XK), Room k (A.deeper (envOfC qual (defScope st) s.heap.objs.size f cdv)) → sp vs H Q E →
      ∃ t, PSs (cxOf CX0 P w K mg base N qual (defScope st) f cdv A outer s H E).nox (defBody st) t ∧ t { nx := fun _ H' => Q .non H', rt := Q } (start N vs) H) : FnOk P w K mg base CX0 (k + 1) f fd ps sp := by
  obtain ⟨oc, od, T, kV, doc, pm, an, cdv, ct, osl, oT, its, n, rfl, lk, hcd, _⟩ := F.ex
  refine fn_of lk hcd S len fun A outer s H vs Q E hr hsp => ?_
  obtain ⟨t, h, q⟩ := hbody cdv A outer s H vs Q E hr hsp
  exact ⟨t, h.nox, q⟩
/-- how its arguments bind, all of them given -/
theorem FunD.binds {x qual : Str} {st : Stmt} {f : Addr} {fd : FuncData} {d : Int} {ps : List Str} (F : FunD K x qual st f fd [d])
    (h : ∀ (T : Addr) (kV doc pm : Value) (an : Option Addr) (cdv ct : Value) (t : Tok) (us : List Value), us.length = ps.length → ∃ k, bindArgs (PySem.W.fnOf x qual (defArgs st) (defBody st) (defScope st) (.ref T) kV doc pm an cdv ct) ⟨us, []⟩ = seqItems? (.ref T) >>= k ∧ k (some #[.int d t]) = pure (ps.zip us)) : Binds K fd ps [] := by
  obtain ⟨oc, od, T, kV, doc, pm, an, cdv, ct, osl, oT, its, n, rfl, lk, hcd, lT, hs, hi⟩ := F.ex
  intro s us KX hl
  rw [List.append_nil] at hl ⊢
  obtain ⟨t, rfl⟩ : ∃ t, its = [.int d t] := by
    cases hi with
    | cons _ t r => cases r; exact ⟨t, rfl⟩
  obtain ⟨k, h1, h2⟩ := h T kV doc pm an cdv ct t us hl
  exact BindsTo.of_defaults rfl (KX _ _ lT) hs h1 h2
/-- the last one left out -/
theorem FunD.bindsD {x qual : Str} {st : Stmt} {f : Addr} {fd : FuncData} {d : Int} {ps : List Str} (F : FunD K x qual st f fd [d])
    (h : ∀ (T : Addr) (kV doc pm : Value) (an : Option Addr) (cdv ct : Value) (t : Tok) (us : List Value), us.length + 1 = ps.length → ∃ k, bindArgs (PySem.W.fnOf x qual (defArgs st) (defBody st) (defScope st) (.ref T) kV doc pm an cdv ct) ⟨us, []⟩ = seqItems? (.ref T) >>= k ∧ k (some #[.int d t]) = pure (ps.zip (us ++ [.int d t]))) : ∃ t, Binds K fd ps [.int d t] := by
  obtain ⟨oc, od, T, kV, doc, pm, an, cdv, ct, osl, oT, its, n, rfl, lk, hcd, lT, hs, hi⟩ := F.ex
  obtain ⟨t, rfl⟩ : ∃ t, its = [.int d t] := by
    cases hi with
    | cons _ t r => cases r; exact ⟨t, rfl⟩
  refine ⟨t, fun s us KX hl => ?_⟩
  rw [List.length_append] at hl
  obtain ⟨k, h1, h2⟩ := h T kV doc pm an cdv ct t us hl
  exact BindsTo.of_defaults rfl (KX _ _ lT) hs h1 h2
end
/-- a row of written ints -/
inductive IntCs : List Expr → List Int → Prop
  | nil : IntCs [] []
  | cons {n : Int} {j p} {es : List Expr} {ns : List Int} (h : IntCs es ns) : IntCs (.Constant (.int n) j p :: es) (n :: ns)
def tInts (ns : List Int) : TA := fun _ H Q => Q (ns.map V.int) H
theorem pa_ints {X : Cx} {es : List Expr} {ns : List Int} (h : IntCs es ns) : PA X es (tInts ns) := by
  induction h with
  | nil => exact pa_nil
  | cons h ih => exact pa_cons pe_int ih
/-- one promise of many -/
theorem FnP.any {P : Program} {w : World} {K : PySem.W.Frag} {mg : Str → Option Value} {base : Heap} {n k : Nat} {x : Str} {ps : List Str} {sp : Nat → Sp} (h : ∀ b, b ≤ n → FnP P w K mg base k x ps (sp b)) : FnP P w K mg base k x ps (fun vs H Q E => ∃ b, b ≤ n ∧ sp b vs H Q E) := by
  obtain ⟨f, fd, h1, h2, h3, h4, oc, od, sl, h5⟩ := h 0 (Nat.zero_le _)
  refine ⟨f, fd, h1, h2, h3, ⟨fun vs H Q E ⟨b, hb, q⟩ => ?_, fun A outer s H args us vs Q E hr e0 hbd r ⟨b, hb, q⟩ => ?_⟩, oc, od, sl, h5⟩
  · obtain ⟨f', fd', a1, a2, a3, a4, _⟩ := h b hb
    exact a4.len _ _ _ _ q
  · obtain ⟨f', fd', a1, a2, a3, a4, oc', od', sl', a5⟩ := h b hb
    have e := h1.symm.trans a1
    cases e
    rw [h5] at a5
    cases a5
    exact a4.run A outer s H args us vs Q E hr e0 hbd r q
/-! ### the rows of a dict, by rising key -/
theorem sorted_eq {α : Type} : ∀ {l₁ l₂ : List (Int × α)}, l₁.Perm l₂ → (l₁.map (·.1)).Pairwise (· < ·) → (l₂.map (·.1)).Pairwise (· < ·) → l₁ = l₂
  | [], l₂, p, _, _ => p.nil_eq
  | a :: r, [], p, _, _ => by cases p.symm.nil_eq
  | a :: r, b :: t, p, h1, h2 => by
    have h1' := List.pairwise_cons.mp (show ((a.1 :: r.map (·.1)).Pairwise (· < ·)) from h1)
    have h2' := List.pairwise_cons.mp (show ((b.1 :: t.map (·.1)).Pairwise (· < ·)) from h2)
    have e : a = b := by
      have m1 : a ∈ b :: t := p.mem_iff.mp (by simp)
      have m2 : b ∈ a :: r := p.mem_iff.mpr (by simp)
      rcases List.mem_cons.mp m1 with z | z
      · exact z
      rcases List.mem_cons.mp m2 with y | y
      · exact y.symm
      have z1 := h2'.1 a.1 (List.mem_map.mpr ⟨a, z, rfl⟩)
      have z2 := h1'.1 b.1 (List.mem_map.mpr ⟨b, y, rfl⟩)
      omega
    subst e
    rw [sorted_eq ((List.perm_cons a).mp p) h1'.2 h2'.2]
structure Rws (D : Nat) (kvs : List (Key × V)) : Prop where
  all : ∀ p ∈ kvs, ∃ i x, p = (.inl i, .str x) ∧ 0 ≤ i ∧ i < 2 ^ D
  nd : (kvs.map (·.1)).Nodup
theorem Rws.nil {D : Nat} : Rws D [] := ⟨fun _ h => (nomatch h), List.nodup_nil⟩
theorem Rws.ints {D : Nat} {kvs : List (Key × V)} (h : Rws D kvs) : IntK kvs := fun p hp => by
  obtain ⟨i, x, rfl, _⟩ := h.all p hp
  exact ⟨i, rfl⟩
theorem valV_mem {kvs : List (Key × V)} {k : Key} {v : V} (h : valV kvs k = some v) : (k, v) ∈ kvs := by
  induction kvs with
  | nil => cases h
  | cons p r ih =>
    by_cases e : p.1 = k
    · rw [valV_pos e] at h; cases h; subst e; simp
    · rw [valV_neg e] at h; exact List.mem_cons_of_mem _ (ih h)
theorem mem_valV {kvs : List (Key × V)} (nd : (kvs.map (·.1)).Nodup) {k : Key} {v : V} (h : (k, v) ∈ kvs) : valV kvs k = some v := by
  induction kvs with
  | nil => cases h
  | cons p r ih =>
    have nd' := List.nodup_cons.mp nd
    rcases List.mem_cons.mp h with e | e
    · subst e; exact valV_pos rfl
    · rw [valV_neg (fun z => nd'.1 (List.mem_map.mpr ⟨_, e, z.symm⟩))]
      exact ih nd'.2 e
theorem putK_old {kvs : List (Key × V)} {k : Key} {v : V} (h : (valV kvs k).isSome = true) : putK kvs k v = kvs.map (fun kv => if kv.1 = k then (kv.1, v) else kv) := by
  unfold putK
  rw [valV_any, if_pos h]
theorem Rws.put {D : Nat} {kvs : List (Key × V)} (h : Rws D kvs) {i : Int} (h0 : 0 ≤ i) (h1 : i < 2 ^ D) (x : Str) : Rws D (putK kvs (.inl i) (.str x)) := by
  cases e : valV kvs (.inl i) with
  | none =>
    refine ⟨fun p hp => ?_, nd_putK _ h.nd e⟩
    rw [putK_new _ e] at hp
    rcases List.mem_append.mp hp with z | z
    · exact h.all p z
    · rw [List.mem_singleton.mp z]; exact ⟨i, x, rfl, h0, h1⟩
  | some v =>
    have eo := putK_old (v := .str x) (show (valV kvs (.inl i)).isSome = true by rw [e]; rfl)
    rw [eo]
    refine ⟨fun p hp => ?_, ?_⟩
    · obtain ⟨q, hq, rfl⟩ := List.mem_map.mp hp
      by_cases z : q.1 = .inl i
      · rw [if_pos z, z]; exact ⟨i, x, rfl, h0, h1⟩
      · rw [if_neg z]; exact h.all q hq
    · have e2 : (kvs.map (fun kv => if kv.1 = .inl i then (kv.1, V.str x) else kv)).map (·.1) = kvs.map (·.1) := by
        rw [List.map_map]
        apply List.map_congr_left
        intro q _
        show (if q.1 = _ then _ else _ : Key × V).1 = q.1
        split <;> rfl
      rw [e2]; exact h.nd
theorem Rws.drop {D : Nat} {kvs : List (Key × V)} (h : Rws D kvs) (k : Key) : Rws D (dropK kvs k) := ⟨fun p hp => h.all p (dropK_mem hp), nd_dropK h.nd⟩
/-- the rows by rising key -/
def SrtOf (kvs : List (Key × V)) (rows : List Rw) : Prop := (rows.map (·.1)).Pairwise (· < ·) ∧ (rows.map fun r => (r.1, V.str r.2)).Perm (kvs.map fun q => (keyI q.1, q.2))
theorem SrtOf.len {kvs : List (Key × V)} {rows : List Rw} (h : SrtOf kvs rows) : rows.length = kvs.length := by
  have := h.2.length_eq
  simpa using this
theorem SrtOf.uniq {kvs : List (Key × V)} {rows : List Rw} (h : SrtOf kvs rows) {rs : List (Int × V)} (h1 : (rs.map (·.1)).Pairwise (· < ·)) (h2 : rs.Perm (kvs.map fun q => (keyI q.1, q.2))) : rs = rows.map fun r => (r.1, V.str r.2) :=
  sorted_eq (h2.trans h.2.symm) h1 (by rw [List.map_map]; exact h.1)
theorem SrtOf.okr {D : Nat} {kvs : List (Key × V)} {rows : List Rw} (h : SrtOf kvs rows) (hw : Rws D kvs) : OKR D rows := by
  refine OKR.of (h.1.imp fun z => by omega) fun r hr => ?_
  have m : (r.1, V.str r.2) ∈ kvs.map fun q => (keyI q.1, q.2) := h.2.mem_iff.mp (List.mem_map.mpr ⟨r, hr, rfl⟩)
  obtain ⟨q, hq, e⟩ := List.mem_map.mp m
  obtain ⟨i, x, rfl, h0, h1⟩ := hw.all q hq
  have e1 : i = r.1 := congrArg Prod.fst e
  rw [← e1]; exact ⟨h0, h1⟩
def sVal (kvs : List (Key × V)) (k : Int) : Str := match valV kvs (.inl k) with | some (.str x) => x | _ => ""
theorem sVal_eq {D : Nat} {kvs : List (Key × V)} (hw : Rws D kvs) {k : Int} (h : .inl k ∈ kvs.map (·.1)) : valV kvs (.inl k) = some (.str (sVal kvs k)) := by
  obtain ⟨p, hp, e⟩ := List.mem_map.mp h
  obtain ⟨i, x, rfl, _, _⟩ := hw.all p hp
  have e1 : (Sum.inl i : Key) = .inl k := e
  cases e1
  have z := mem_valV hw.nd hp
  unfold sVal
  rw [z]
theorem srt_of {D : Nat} {kvs : List (Key × V)} (hw : Rws D kvs) {ks : List Int} (hp : ks.Perm (kvs.map fun q => keyI q.1)) (hs : ks.Pairwise (· < ·)) : SrtOf kvs (ks.map fun k => (k, sVal kvs k)) := by
  refine ⟨?_, ?_⟩
  · have e : (ks.map fun k => (k, sVal kvs k)).map (·.1) = ks := by rw [List.map_map]; exact (List.map_congr_left (fun _ _ => rfl)).trans (List.map_id _)
    rw [e]; exact hs
  · rw [List.map_map]
    refine (hp.map _).trans (List.Perm.of_eq ?_)
    rw [List.map_map]
    apply List.map_congr_left
    intro q hq
    obtain ⟨i, x, rfl, _, _⟩ := hw.all q hq
    show (i, V.str (sVal kvs i)) = (i, V.str x)
    have z := mem_valV hw.nd hq
    unfold sVal
    rw [z]
theorem key_mem {D : Nat} {kvs : List (Key × V)} (hw : Rws D kvs) {ks : List Int} (hp : ks.Perm (kvs.map fun q => keyI q.1)) {k : Int} (h : k ∈ ks) : .inl k ∈ kvs.map (·.1) := by
  obtain ⟨q, hq, e⟩ := List.mem_map.mp (hp.mem_iff.mp h)
  obtain ⟨i, x, rfl, _, _⟩ := hw.all q hq
  have e : i = k := e
  subst e
  exact List.mem_map.mpr ⟨_, hq, rfl⟩
theorem bits_lt {k : Int} (h : 0 ≤ k) (D : Nat) : (((Builtin.Int.intBits k : Nat) : Int) ≤ (D : Int)) ↔ k < 2 ^ D := by
  have hp := Nat.one_le_two_pow (n := D)
  unfold Builtin.Int.intBits
  rw [two_pow_cast]
  by_cases e : k = 0
  · subst e
    rw [show ((0 : Int) == 0) = true from rfl, if_pos rfl]
    omega
  · rw [show (k == 0) = false from beq_eq_false_iff_ne.mpr e, if_neg Bool.false_ne_true]
    have z := Nat.log2_lt (n := k.natAbs) (k := D) (by omega)
    omega
theorem xor1 {k : Int} {D : Nat} (hD : 1 ≤ D) (h0 : 0 ≤ k) (h1 : k < 2 ^ D) : 0 ≤ Builtin.bitXor k 1 ∧ Builtin.bitXor k 1 < 2 ^ D := by
  rw [bitXor_and, bitAnd_m1]
  obtain ⟨d, rfl⟩ : ∃ d, D = d + 1 := ⟨D - 1, by omega⟩
  rw [Int.pow_succ] at h1 ⊢
  have := two_pow_nn d
  omega
theorem lookup_swap {a b z : Str} {x y c : Addr} (hab : (a == b) = false) (h : List.lookup z [(a, x), (b, y)] = some c) : List.lookup z [(b, y), (a, x)] = some c := by
  rw [List.lookup_cons] at h ⊢
  cases e : z == a with
  | true =>
    rw [e] at h
    have ez : z = a := eq_of_beq e
    subst ez
    rw [hab]
    simpa using h
  | false =>
    rw [e] at h
    rw [List.lookup_cons] at h
    cases e2 : z == b with
    | true => rw [e2] at h; exact h
    | false => rw [e2] at h; cases h
theorem prt_ne (rows : List Rw) (b : Nat) (k : Int) : (rows.filter fun r => !decide (bitAt r.1 b = bitAt k b)) = prt rows b (1 - bitAt k b) := by
  unfold prt
  apply List.filter_congr
  intro r _
  have h1 := bitAt_two r.1 b
  have h2 := bitAt_two k b
  by_cases e : bitAt r.1 b = bitAt k b
  · rw [decide_eq_true e, decide_eq_false (by omega)]; rfl
  · rw [decide_eq_false e, decide_eq_true (by omega)]; rfl
theorem cutV_mem {xs : List V} {lo hi : Option Int} {v : V} (h : v ∈ cutV xs lo hi) : v ∈ xs := List.mem_of_mem_drop (List.mem_of_mem_take h)
end L2

namespace My
open PySem L2
def top (i : Nat) : Stmt := PySem.Challenge.pw_growbook_k08_ways.main.body.getD i (.Pass ⟨0, 0, 0, 0⟩)
abbrev sNone : Stmt := top 5
abbrev sCell : Stmt := top 14
abbrev sPlain : Stmt := top 15
abbrev sTurned : Stmt := top 16
abbrev sNumbering : Stmt := top 17
abbrev sSealBy : Stmt := top 18
abbrev sLaw : Stmt := top 22
abbrev sInD : Stmt := top 7
abbrev sRow : Stmt := top 8
abbrev sFork : Stmt := top 9
abbrev sPartOf : Stmt := top 10
abbrev sTopPart : Stmt := top 11
abbrev sDraw : Stmt := top 19
abbrev sLpart : Stmt := top 20
abbrev sLway : Stmt := top 21
abbrev mInit : Stmt := inClass (top 12) 0
abbrev mCheck : Stmt := inClass (top 12) 1
abbrev mPut : Stmt := inClass (top 12) 2
abbrev mCut : Stmt := inClass (top 12) 3
abbrev mValue : Stmt := inClass (top 12) 4
abbrev mHead : Stmt := inClass (top 12) 5
abbrev mWay : Stmt := inClass (top 12) 6
abbrev mTwin : Stmt := inClass (top 12) 7
abbrev mRows : Stmt := inClass (top 12) 8
/-! ### the seals of the law -/
abbrev qN : Str := "_law_numbering.<locals>._law_numbered"
abbrev sNumd : Stmt := (defBody sNumbering).getD 1 (.Pass ⟨0, 0, 0, 0⟩)
section
variable {P : Program} {w : World} {K : PySem.W.Frag} {mg : Str → Option Value} {base : Heap}
theorem scPl : FnScope mot mot (defScope sPlain) := ⟨rfl, rfl, rfl, by decide +kernel, rfl, by decide +kernel, by decide +kernel⟩
theorem scTu : FnScope mot mot (defScope sTurned) := ⟨rfl, rfl, rfl, by decide +kernel, rfl, by decide +kernel, by decide +kernel⟩
theorem ok_plain (F : FunAt K mg "_law_plain" sPlain) : FnP P w K mg base 1 "_law_plain" mot spPlain := by
  refine F.ok scPl (fun _ _ _ _ _ _ us hl => match us, hl with | [_, _, _], _ => rfl) (fun vs H Q E h => ?_) (fun f cdv A outer s H vs Q E hr h => ?_)
  · obtain ⟨m, v1, v2, rfl, _⟩ := h; rfl
  obtain ⟨m, v1, v2, rfl, q⟩ := h
  refine ⟨_, pss_one (ps_ret (pe_tup (pa_cons (pv 0) (pa_cons (pv 1) (pa_cons (pv 2) pa_nil))))), ?_⟩
  exact ⟨_, rfl, _, rfl, _, rfl, (by show 3 ≤ sizeLine; decide), fun p hp => q p hp⟩
theorem ok_turned (F : FunAt K mg "_law_turned" sTurned) : FnP P w K mg base 1 "_law_turned" mot spTurned := by
  refine F.ok scTu (fun _ _ _ _ _ _ us hl => match us, hl with | [_, _, _], _ => rfl) (fun vs H Q E h => ?_) (fun f cdv A outer s H vs Q E hr h => ?_)
  · obtain ⟨m, v1, v2, rfl, _⟩ := h; rfl
  obtain ⟨m, v1, v2, rfl, q⟩ := h
  refine ⟨_, pss_one (ps_ret (pe_tup (pa_cons pe_str (pa_cons (pv 2) (pa_cons (pv 1) (pa_cons (pv 0) pa_nil)))))), ?_⟩
  exact ⟨_, rfl, _, rfl, _, rfl, (by show 4 ≤ sizeLine; decide), fun p hp => q p hp⟩
theorem clN : ClScope mot "_law_told" (defScope sNumd) := ⟨rfl, rfl, rfl, by decide +kernel, by decide +kernel, by decide +kernel, fun x h => by
  have e : (defScope sNumd).names = ([("_law_mark", NameKind.local), ("_law_one", NameKind.local), ("_law_two", NameKind.local), ("_law_told", NameKind.free), ("len", NameKind.globalImplicit)] : List (Str × NameKind)) := rfl
  rw [e] at h
  have m := PySem.mem_of_lookup h
  simp at m
  exact m, rfl⟩
/-- the numbering seal, called -/
theorem num_run {A : Around} {outer : List Env} {s : Shared} {H : Hp} {us : List Value} {Q : VK} {E : XK} {f d : Addr} {m : Str} {t1 t2 : Tm} {v1 v2 : V} (ml : mg "len" = none) (hr : Room 1 A) (e0 : Env0 P w K mg base A outer s H) (r : Vals [.str m, v1, v2] us)
    (hS : SealAt K mg sNumd (.num d) H f) (hc : Cap (.num d) H 1) (i1 : isT (.num d) H t1 v1) (i2 : isT (.num d) H t2 v2) (q : ∀ v H', Gr (.num d) 1 H H' → isT (.num d) H' (.nd m t1 t2) v → Q v H') :
    codeAny (model P w) A (.call (.ref f) ⟨us, []⟩) (CR CX0 outer P w H s Q E) s := by
  obtain ⟨c, c', doc, pm, ct, ob, co, cvs, tk, kvs, h1, h2, h3, h4, h5, h6, h7, h8⟩ := id hS
  obtain ⟨k1, rfl⟩ := isT_key i1
  obtain ⟨k2, rfl⟩ := isT_key i2
  have hlen : kvs.length < sizeLine := by have := hc d kvs rfl h7; rw [sizeLine_eq]; omega
  have tld := hS.told
  refine clos_run (k := 0) (ps := mot) (y := "_law_told") clN hr e0 r rfl h1 h2 h3 h4 h5 h6 (cv := .ref d) rfl (fun us hl => match us, hl with | [_, _, _], _ => rfl) fun hr1 => ?_
  have hu := hu_of hr1
  refine ⟨_, pss_cons (ps_if (pt_cmp (pc_dnotin hu (pe_tup (pa_cons (pv 0) (pa_cons (pv 1) (pa_cons (pv 2) pa_nil)))) (pv 3))) (pss_one (ps_dput hu (pv 3) (pe_tup (pa_cons (pv 0) (pa_cons (pv 1) (pa_cons (pv 2) pa_nil)))) (pe_callB call_lenT rfl ml PySem.boot_len (pa_cons (pv 3) pa_nil)) rfl)) pss_nil)
    (pss_one (ps_ret (pe_dget hu (pv 3) (pe_tup (pa_cons (pv 0) (pa_cons (pv 1) (pa_cons (pv 2) pa_nil)))) (fun _ _ => rfl)))), ?_⟩
  refine ⟨_, rfl, _, rfl, _, rfl, (by show 3 ≤ sizeLine; decide), fun p hp => ?_⟩
  have g1 : Gr (.num d) 0 H (upd H p (.tup [.str m, kV k1, kV k2])) := .new tld hp
  have d1 : upd H p (.tup [.str m, kV k1, kV k2]) d = some (.dT kvs) := by rw [upd_ne (ne_of_none h7 hp)]; exact h7
  refine ⟨_, rfl, d, _, rfl, DGet.t (k := [.inr m, k1, k2]) d1 upd_same, _, rfl, ?_⟩
  cases e : valV kvs [.inr m, k1, k2] with
  | some v =>
    obtain ⟨n, rfl⟩ := h8.val e
    refine iteF ?_
    refine ⟨_, rfl, _, rfl, _, rfl, _, rfl, (by show 3 ≤ sizeLine; decide), fun p2 hp2 => ?_⟩
    have g2 : Gr (.num d) 0 _ (upd (upd H p (.tup [.str m, kV k1, kV k2])) p2 (.tup [.str m, kV k1, kV k2])) := .new g1.gn.told2 hp2
    have d2 : upd (upd H p (.tup [.str m, kV k1, kV k2])) p2 (.tup [.str m, kV k1, kV k2]) d = some (.dT kvs) := by rw [upd_ne (ne_of_none d1 hp2)]; exact d1
    refine ⟨d, .int n, rfl, ?_, ?_⟩
    · have z := DGet.t (k := [.inr m, k1, k2]) d2 upd_same
      rw [e] at z; exact z
    · have g := (g1.trans g2).up (by omega : 0 + 0 ≤ 1)
      exact q _ _ g ⟨kvs, k1, k2, n, d2, isT_up g.gn i1, isT_up g.gn i2, e, rfl⟩
  | none =>
    refine iteT ?_
    refine ⟨_, rfl, d, kvs, rfl, d1, _, rfl, _, rfl, _, rfl, _, rfl, (by show 3 ≤ sizeLine; decide), fun p2 hp2 => ?_⟩
    have g2 : Gr (.num d) 0 _ (upd (upd H p (.tup [.str m, kV k1, kV k2])) p2 (.tup [.str m, kV k1, kV k2])) := .new g1.gn.told2 hp2
    have d2 : upd (upd H p (.tup [.str m, kV k1, kV k2])) p2 (.tup [.str m, kV k1, kV k2]) d = some (.dT kvs) := by rw [upd_ne (ne_of_none d1 hp2)]; exact d1
    refine ⟨d, _, rfl, DPut.t (k := [.inr m, k1, k2]) d2 upd_same hlen, ?_⟩
    generalize hH3 : upd (upd (upd H p (.tup [.str m, kV k1, kV k2])) p2 (.tup [.str m, kV k1, kV k2])) d (.dT (putK kvs [.inr m, k1, k2] (.int kvs.length))) = H3
    have d3 : H3 d = some (.dT (kvs ++ [([.inr m, k1, k2], .int kvs.length)])) := by rw [← hH3, upd_same, putK_new _ e]
    have g3 : Gr (.num d) 1 (upd (upd H p (.tup [.str m, kV k1, kV k2])) p2 (.tup [.str m, kV k1, kV k2])) H3 := by
      have ne : ∀ b o, upd (upd H p (.tup [.str m, kV k1, kV k2])) p2 (.tup [.str m, kV k1, kV k2]) b = some o → b ≠ d → H3 b = some o := fun b o h hb => by rw [← hH3, upd_ne hb]; exact h
      refine ⟨⟨fun b o h i => ne b o h ?_, fun d' ed => ?_⟩, fun b o h hd => ne b o h fun z => hd (by rw [z]; rfl)⟩
      · rintro rfl; rw [d2] at h; cases h; cases i
      · obtain rfl : d = d' := Option.some.inj ed
        exact ⟨kvs, _, d2, d3, by simp, fun p hp => by rw [List.mem_singleton.mp hp]; exact ⟨_, rfl⟩⟩
    refine ⟨_, rfl, _, rfl, _, rfl, _, rfl, (by show 3 ≤ sizeLine; decide), fun p4 hp4 => ?_⟩
    have g4 : Gr (.num d) 0 H3 (upd H3 p4 (.tup [.str m, kV k1, kV k2])) := .new g3.gn.told2 hp4
    have d4 : upd H3 p4 (.tup [.str m, kV k1, kV k2]) d = some (.dT (kvs ++ [([.inr m, k1, k2], .int kvs.length)])) := by rw [upd_ne (ne_of_none d3 hp4)]; exact d3
    have ev : valV (kvs ++ [([.inr m, k1, k2], V.int (kvs.length : Int))]) [.inr m, k1, k2] = some (.int (kvs.length : Int)) := by rw [valV_snoc _ _ _ _ e, if_pos rfl]
    refine ⟨d, .int kvs.length, rfl, ?_, ?_⟩
    · have z := DGet.t (k := [.inr m, k1, k2]) d4 upd_same
      rw [ev] at z; exact z
    · have g := (((g1.trans g2).trans g3).trans g4).up (by omega : 0 + 0 + 1 + 0 ≤ 1)
      exact q _ _ g ⟨_, k1, k2, _, d4, isT_up g.gn i1, isT_up g.gn i2, ev, rfl⟩
theorem seal_ok (Fp : FnP P w K mg base 1 "_law_plain" mot spPlain) (Ft : FnP P w K mg base 1 "_law_turned" mot spTurned) (ml : mg "len" = none) : CallOk P w K mg base CX0 1 (spSeal K mg sNumd) := by
  intro f A outer s H us vs Q E hr e0 r h
  obtain ⟨S, m, t1, t2, v1, v2, hS, hc, rfl, i1, i2, q⟩ := h
  have tld := hS.told
  cases S with
  | plain =>
    obtain ⟨f', fd, h1, h2, h3, h4, _⟩ := Fp
    have e := hS.1.symm.trans h1
    cases e
    refine h4.called h3 hr e0 r ⟨m, v1, v2, rfl, fun p hp => ?_⟩
    have g : Gr .plain 0 H (upd H p (.tup [.str m, v1, v2])) := .new tld hp
    exact q _ _ (g.up (by omega)) ⟨p, v1, v2, rfl, upd_same, isT_up g.gn i1, isT_up g.gn i2⟩
  | turned =>
    obtain ⟨f', fd, h1, h2, h3, h4, _⟩ := Ft
    have e := hS.1.symm.trans h1
    cases e
    refine h4.called h3 hr e0 r ⟨m, v1, v2, rfl, fun p hp => ?_⟩
    have g : Gr .turned 0 H (upd H p (.tup [.str "seal of", v2, v1, .str m])) := .new tld hp
    exact q _ _ (g.up (by omega)) ⟨p, v1, v2, rfl, upd_same, isT_up g.gn i1, isT_up g.gn i2⟩
  | num d => exact num_run ml hr e0 r hS hc i1 i2 q
end
/-! ### how the law draws its seal and its leaves -/
section
variable {P : Program} {w : World} {K : PySem.W.Frag} {mg : Str → Option Value} {base : Heap}
/-- cell_at(script, k): some int -/
def spCell (K : PySem.W.Frag) : Sp := fun vs H Q _ => ∃ (a : Addr) (ns : List Int) (k : Int), vs = [.ref a, .int k] ∧ SqL K H a (ns.map V.int) ∧ 0 ≤ k ∧ ∀ v : Int, Q (.int v) H
theorem scCe : FnScope ["_law_script", "_law_k"] ["_law_script", "_law_k"] (defScope sCell) := ⟨rfl, rfl, rfl, by decide +kernel, rfl, by decide +kernel, by decide +kernel⟩
theorem ok_cell (F : FunAt K mg "_law_cell_at" sCell) (ml : mg "len" = none) : FnP P w K mg base 1 "_law_cell_at" ["_law_script", "_law_k"] (spCell K) := by
  refine F.ok scCe (fun _ _ _ _ _ _ us hl => match us, hl with | [_, _], _ => rfl) (fun vs H Q E h => ?_) (fun f cdv A outer s H vs Q E hr h => ?_)
  · obtain ⟨a, ns, k, rfl, _⟩ := h; rfl
  obtain ⟨a, ns, k, rfl, hS, h0, q⟩ := h
  refine ⟨_, pss_cons (ps_if (pt_cmpR op_lt (pv 1) (pe_callB call_len_seq rfl ml PySem.boot_len (pa_cons (pv 0) pa_nil)) (nomark _)) (pss_one (ps_ret (pe_ix ix_list (pv 0) (pv 1) (fun _ _ => rfl)))) pss_nil) (pss_one (ps_ret pe_int)), ?_⟩
  refine ⟨_, rfl, _, rfl, a, _, rfl, .inl hS, _, _, rfl, rfl, _, rfl, ?_⟩
  refine ite2 (fun c => ?_) (fun c => ?_)
  · have c' : k < ((ns.map V.int).length : Int) := of_decide_eq_true c
    rw [List.length_map] at c'
    have hk : k.toNat < ns.length := by omega
    have z : atI (ns.map V.int) ((k.toNat : Nat) : Int) = some (.int ns[k.toNat]) := atI_nat (by rw [List.getElem?_map, List.getElem?_eq_getElem hk] <;> rfl)
    rw [show ((k.toNat : Nat) : Int) = k by omega] at z
    exact ⟨_, rfl, _, rfl, a, _, _, _, rfl, rfl, hS, z, q _⟩
  · exact q 0
/-- the numbering seal is made once: the table of its code stands at Pt -/
structure Ext0 (K : PySem.W.Frag) (mg : Str → Option Value) (base : Heap) (c0 Pt : Addr) : Prop where
  code : PySem.W.CodeHd base c0 Pt
  bm : ∃ bm ob, mg "__builtins__" = some (.ref bm) ∧ bm ≠ builtinsNs ∧ base.get? bm = some ob ∧ ob.cls = .type "module" ∧ ob.dict = some builtinsNs ∧ ob.data = .plain
  tab : PySem.W.tabIn K "_law_numbering" = some (c0, Pt)
def spNumbering (K : PySem.W.Frag) (mg : Str → Option Value) (Pt : Addr) : Sp := fun vs H Q _ => vs = [] ∧ H Pt = some (.tbl #[]) ∧
  ∀ f d H', SealAt K mg sNumd (.num d) H' f → H' d = some (.dT []) → (∀ b o, H b = some o → b ≠ Pt → H' b = some o) → Q (.ref f) H'
theorem scNu : FnScope ["_law_numbered", "_law_told"] [] (defScope sNumbering) := ⟨rfl, rfl, rfl, by decide +kernel, rfl, by decide +kernel, by decide +kernel⟩
theorem ok_numbering {c0 Pt : Addr} (F : FunAt K mg "_law_numbering" sNumbering) (kb : K.In base) (nb : base.Ns mainGlobals mg) (X0 : Ext0 K mg base c0 Pt) : FnP P w K mg base 1 "_law_numbering" [] (spNumbering K mg Pt) := by
  obtain ⟨f0, fd, hm, F⟩ := F
  obtain ⟨oc, od, kV, doc, pm, an, cdv, ct, osl, rfl, lk, hcd⟩ := F.ex
  have hcode : cdv = .ref c0 := PySem.W.law_code kb nb X0.tab hm (kb _ _ lk) rfl
  refine ⟨f0, _, hm, F.kp, F.binds (ps := []) fun _ _ _ _ _ _ us hl => match us, hl with | [], _ => rfl, ?_, _, _, _, lk⟩
  refine fn_ofR lk hcd scNu (fun vs H Q E h => by rw [h.1]; rfl) fun A outer s s1 H vs Q E hr h I => ?_
  obtain ⟨rfl, hP, q⟩ := h
  generalize hX : cxOf CX0 P w K mg base ["_law_numbered", "_law_told"] "_law_numbering" (defScope sNumbering) f0 cdv A outer s H E = X at I
  subst hX
  -- told = {}
  refine wpAny_execs_cons (thn ((ps_set (X := cxOf CX0 P w K mg base ["_law_numbered", "_law_told"] "_law_numbering" (defScope sNumbering) f0 cdv A outer s H E) (i := 1) scNu.nd rfl (Or.inr rfl) pe_dnewT : PS _ _ _) [] s1 _ H
    { nx := fun σ H' => ∃ d, H d = none ∧ σ = [none, some (.ref d)] ∧ H' = upd H d (.dT []), rt := fun _ _ => False } I fun d hd => ⟨d, hd, rfl, rfl⟩) fun fl s2 h2 => ?_)
  cases fl with
  | brk => obtain ⟨_, _, _, z⟩ := h2; exact False.elim z
  | cont => obtain ⟨_, _, _, z⟩ := h2; exact False.elim z
  | ret u => obtain ⟨_, _, _, _, _, z⟩ := h2; exact False.elim z
  | next =>
  obtain ⟨σ2, H2, I2, d, hd, rfl, rfl⟩ := h2
  have hPd : Pt ≠ d := ne_of_none hP hd
  -- the def
  refine wpAny_execs_cons (thn (ps_def (X := cxOf CX0 P w K mg base ["_law_numbered", "_law_told"] "_law_numbering" (defScope sNumbering) f0 cdv A outer s H E) (i := 0) (Pt := Pt) (c0 := c0) (qual := qN) (clos := [("_law_told", s.heap.objs.size + 1)])
    rfl rfl rfl rfl rfl hcode X0.code X0.bm scNu.nd rfl (Or.inl rfl) (Or.inl rfl) [] s2 _ _
    { nx := fun σ H' => ∃ (f c' : Addr) (ob : Obj) (cvs : Array Value) (tk : Tok) (ctv doc pm : Value) (ps : Array Value), upd H d (.dT []) f = none ∧ upd H d (.dT []) c' = none ∧ c' ≠ f ∧ Pt ≠ f ∧ Pt ≠ c' ∧ ob.data = .fields cvs ∧ cvs[1]? = some (.str qN tk) ∧ σ = [some (.ref f), some (.ref d)] ∧
        H' = upd (upd (upd (upd H d (.dT [])) Pt (.tbl ps)) c' (.frz ob (.own 0))) f (.frz (PySem.W.fnMade "_law_numbered" qN (defArgs sNumd) (defBody sNumd) (defScope sNumd) [("_law_told", s.heap.objs.size + 1)] doc pm c' ctv) (.own 0)), rt := fun _ _ => False } I2
    ⟨#[], by rw [upd_ne hPd]; exact hP, trivial, rfl, fun f c' ob cvs tk ctv doc pm h1 h2 h3 h4 h5 h6 h7 => ⟨f, c', ob, cvs, tk, ctv, doc, pm, _, h1, h2, h3, h4, h5, h6, h7, rfl, rfl⟩⟩) fun fl s3 h3 => ?_)
  cases fl with
  | brk => obtain ⟨_, _, _, z⟩ := h3; exact False.elim z
  | cont => obtain ⟨_, _, _, z⟩ := h3; exact False.elim z
  | ret u => obtain ⟨_, _, _, _, _, z⟩ := h3; exact False.elim z
  | next =>
  obtain ⟨σ3, H3, I3, f, c', ob, cvs, tk, ctv, doc', pm', ps, n1, n2, n3, n4, n5, n6, n7, rfl, e3⟩ := h3
  -- return it
  refine wpAny_execs_cons (wpAny_Return_some (thn ((pv (X := cxOf CX0 P w K mg base ["_law_numbered", "_law_told"] "_law_numbering" (defScope sNumbering) f0 cdv A outer s H E) 0 : PE _ _ _) [] s3 _ H3 (fun v H' => v = .ref f ∧ H' = H3) I3 ⟨_, rfl, rfl, rfl⟩) fun u s4 ⟨v, H4, I4, r4, e4, e5⟩ => ?_))
  subst e4 e5
  obtain rfl : u = Value.ref f := r4
  obtain ⟨mm, hn, hl⟩ := I4.loc
  obtain ⟨cu, rcu, lcu⟩ := hl 1 "_law_told" (.ref d) rfl rfl (Or.inr (Or.inl rfl))
  obtain rfl : cu = Value.ref d := rcu
  rcases lcu with ⟨kk, _⟩ | ⟨_, c, hc, co, hco, hcd2⟩
  · exact absurd (show some NameKind.cell = some NameKind.local from kk) (by decide)
  have ec : s.heap.objs.size + 1 = c := Option.some.inj ((show (cxOf CX0 P w K mg base ["_law_numbered", "_law_told"] "_law_numbering" (defScope sNumbering) f0 cdv A outer s H E).env.cells.lookup ("_law_told" : Str) = some (s.heap.objs.size + 1) from rfl).symm.trans hc)
  have hcn : H4 c = none := (I4.freeC "_law_told" c hc).resolve_right fun z => absurd (show true = false from z.1) (by decide)
  have lec : s.heap.objs.size ≤ c := by omega
  refine ⟨.ref f, upd H4 c (.frz co (.own 0)), I4.os, I4.bare, I4.base.track lec hcn, I4.hok.track hco hcn, rfl, q f d _ ?_ ?_ ?_⟩
  · have ne : ∀ b o, H4 b = some o → upd H4 c (.frz co (.own 0)) b = some o := fun b o h => by rw [upd_ne (ne_of_none h hcn)]; exact h
    refine ⟨c, c', doc', pm', ctv, ob, co, cvs, tk, [], ?_, ?_, n6, n7, upd_same, hcd2, ?_, .nil⟩
    · rw [← ec]; refine ec ▸ ne _ _ ?_; rw [e3, upd_same, ec]
    · refine ne _ _ ?_; rw [e3, upd_ne n3, upd_same]
    · refine ne _ _ ?_
      have q1 : d ≠ f := by rintro rfl; rw [upd_same] at n1; cases n1
      have q2 : d ≠ c' := by rintro rfl; rw [upd_same] at n2; cases n2
      rw [e3, upd_ne q1, upd_ne q2, upd_ne (Ne.symm hPd), upd_same]
  · have hdc : d ≠ c := by
      rintro rfl
      have q1 : d ≠ f := by rintro rfl; rw [upd_same] at n1; cases n1
      have q2 : d ≠ c' := by rintro rfl; rw [upd_same] at n2; cases n2
      rw [e3, upd_ne q1, upd_ne q2, upd_ne (Ne.symm hPd), upd_same] at hcn; cases hcn
    have q1 : d ≠ f := by rintro rfl; rw [upd_same] at n1; cases n1
    have q2 : d ≠ c' := by rintro rfl; rw [upd_same] at n2; cases n2
    rw [upd_ne hdc, e3, upd_ne q1, upd_ne q2, upd_ne (Ne.symm hPd), upd_same]
  · intro b o hb hbP
    have b1 : b ≠ d := ne_of_none hb hd
    have hb2 : upd H d (.dT []) b = some o := by rw [upd_ne b1]; exact hb
    have b2 : b ≠ f := ne_of_none hb2 n1
    have b3 : b ≠ c' := ne_of_none hb2 n2
    have hb4 : H4 b = some o := by rw [e3, upd_ne b2, upd_ne b3, upd_ne hbP]; exact hb2
    rw [upd_ne (ne_of_none hb4 hcn)]; exact hb4
/-- seal_by(script) -/
def spSealBy (K : PySem.W.Frag) (mg : Str → Option Value) (Pt : Addr) : Sp := fun vs H Q _ => ∃ (a : Addr) (ns : List Int), vs = [.ref a] ∧ SqL K H a (ns.map V.int) ∧ H Pt = some (.tbl #[]) ∧
  ∀ S f H', SealAt K mg sNumd S H' f → Cap S H' 10000000 → (∀ b o, H b = some o → b ≠ Pt → H' b = some o) → Q (.ref f) H'
theorem scSb : FnScope ["_law_script", "_law_kind"] ["_law_script"] (defScope sSealBy) := ⟨rfl, rfl, rfl, by decide +kernel, rfl, by decide +kernel, by decide +kernel⟩
theorem ok_sealby {Pt : Addr} (F : FunAt K mg "_law_seal_by" sSealBy) (Fc : FnP P w K mg base 1 "_law_cell_at" ["_law_script", "_law_k"] (spCell K)) (Fn : FnP P w K mg base 1 "_law_numbering" [] (spNumbering K mg Pt))
    (Fp : FunAt K mg "_law_plain" sPlain) (Ft : FunAt K mg "_law_turned" sTurned) : FnP P w K mg base 2 "_law_seal_by" ["_law_script"] (spSealBy K mg Pt) := by
  obtain ⟨fp, fpd, mp, Fp⟩ := Fp
  obtain ⟨ft, ftd, mt, Ft⟩ := Ft
  obtain ⟨_, _, _, _, _, _, _, _, _, rfl, lp, _⟩ := Fp.ex
  obtain ⟨_, _, _, _, _, _, _, _, _, rfl, lt, _⟩ := Ft.ex
  refine F.ok scSb (fun _ _ _ _ _ _ us hl => match us, hl with | [_], _ => rfl) (fun vs H Q E h => ?_) (fun f cdv A outer s H vs Q E hr h => ?_)
  · obtain ⟨a, ns, rfl, _⟩ := h; rfl
  obtain ⟨a, ns, rfl, hS, hP, q⟩ := h
  have nd := scSb.nd
  refine ⟨_, pss_cons (ps_set (i := 1) nd rfl (Or.inl rfl) (pe_op op_mod (pe_op op_fdiv (pe_callN Fc hr rfl (pa_cons (pv 0) (pa_cons pe_int pa_nil))) pe_int) pe_int))
    (pss_cons (ps_if (pt_cmpR op_eq (pv 1) pe_int (nomark _)) (pss_one (ps_ret (pe_glob (v := .ref fp) rfl mp rfl))) pss_nil)
    (pss_cons (ps_if (pt_cmpR op_eq (pv 1) pe_int (nomark _)) (pss_one (ps_ret (pe_glob (v := .ref ft) rfl mt rfl))) pss_nil)
    (pss_one (ps_ret (pe_callN0 Fn hr rfl))))), ?_⟩
  refine ⟨_, rfl, a, ns, 0, rfl, hS, by omega, fun v => ?_⟩
  refine ⟨_, _, rfl, rfl, ⟨by decide, by decide⟩, _, _, rfl, rfl, (by show (0 : Int) < 3; decide), ?_⟩
  refine ⟨_, rfl, rfl, _, rfl, ?_⟩
  refine ite2 (fun _ => ?_) (fun _ => ?_)
  · exact q .plain fp H ⟨mp, _, _, _, _, lp⟩ (fun d _ e => nomatch e) fun b o h _ => h
  refine ⟨_, rfl, rfl, _, rfl, ?_⟩
  refine ite2 (fun _ => ?_) (fun _ => ?_)
  · exact q .turned ft H ⟨mt, _, _, _, _, lt⟩ (fun d _ e => nomatch e) fun b o h _ => h
  refine ⟨rfl, hP, fun f d H' h1 h2 h3 => q (.num d) f H' h1 (fun d' kvs e hk => ?_) h3⟩
  obtain rfl : d = d' := Option.some.inj e
  rw [h2] at hk; cases hk
  simp
end
/-! ### the table's seals, and the parts of its rows -/
section
variable {P : Program} {w : World} {K : PySem.W.Frag} {mg : Str → Option Value} {base : Heap}
def spNone (K : PySem.W.Frag) (mg : Str → Option Value) : Sp := fun vs H Q _ => ∃ S f, vs = [.ref f] ∧ SealAt K mg sNumd S H f ∧ Cap S H 1 ∧ ∀ v H', Gr S 1 H H' → isT S H' nlT v → Q v H'
theorem scNo : FnScope ["seal"] ["seal"] (defScope sNone) := ⟨rfl, rfl, rfl, by decide +kernel, rfl, by decide +kernel, by decide +kernel⟩
theorem ok_none (F : FunAt K mg "none_seal" sNone) (Fl : CallOk P w K mg base CX0 1 (spSeal K mg sNumd)) : FnP P w K mg base 2 "none_seal" ["seal"] (spNone K mg) := by
  refine F.ok scNo (fun _ _ _ _ _ _ us hl => match us, hl with | [_], _ => rfl) (fun vs H Q E h => ?_) (fun f cdv A outer s H vs Q E hr h => ?_)
  · obtain ⟨S, f, rfl, _⟩ := h; rfl
  obtain ⟨S, f, rfl, hS, hc, q⟩ := h
  refine ⟨_, pss_one (ps_ret (pe_callV (i := 0) Fl hr pass0 rfl (Or.inl rfl) (pa_cons pe_str (pa_cons pe_int (pa_cons pe_int pa_nil))))), ?_⟩
  exact ⟨f, rfl, hS.fny, hS.fny, S, _, .int 0, .int 0, _, _, hS, hc, rfl, rfl, rfl, q⟩
def spMark (K : PySem.W.Frag) (mg : Str → Option Value) (m : Str) : Sp := fun vs H Q _ => ∃ S f t1 t2 v1 v2, vs = [.ref f, v1, v2] ∧ SealAt K mg sNumd S H f ∧ Cap S H 1 ∧ isT S H t1 v1 ∧ isT S H t2 v2 ∧ ∀ v H', Gr S 1 H H' → isT S H' (.nd m t1 t2) v → Q v H'
theorem scRw : FnScope ["seal", "key", "value"] ["seal", "key", "value"] (defScope sRow) := ⟨rfl, rfl, rfl, by decide +kernel, rfl, by decide +kernel, by decide +kernel⟩
theorem ok_row (F : FunAt K mg "row_seal" sRow) (Fl : CallOk P w K mg base CX0 1 (spSeal K mg sNumd)) : FnP P w K mg base 2 "row_seal" ["seal", "key", "value"] (spMark K mg "row") := by
  refine F.ok scRw (fun _ _ _ _ _ _ us hl => match us, hl with | [_, _, _], _ => rfl) (fun vs H Q E h => ?_) (fun f cdv A outer s H vs Q E hr h => ?_)
  · obtain ⟨S, f, t1, t2, v1, v2, rfl, _⟩ := h; rfl
  obtain ⟨S, f, t1, t2, v1, v2, rfl, hS, hc, i1, i2, q⟩ := h
  refine ⟨_, pss_one (ps_ret (pe_callV (i := 0) Fl hr pass0 rfl (Or.inl rfl) (pa_cons pe_str (pa_cons (pv 1) (pa_cons (pv 2) pa_nil))))), ?_⟩
  exact ⟨f, rfl, hS.fny, _, rfl, _, rfl, hS.fny, S, _, t1, t2, _, _, hS, hc, rfl, i1, i2, q⟩
theorem scFk : FnScope ["seal", "low", "high"] ["seal", "low", "high"] (defScope sFork) := ⟨rfl, rfl, rfl, by decide +kernel, rfl, by decide +kernel, by decide +kernel⟩
theorem ok_fork (F : FunAt K mg "fork_seal" sFork) (Fl : CallOk P w K mg base CX0 1 (spSeal K mg sNumd)) : FnP P w K mg base 2 "fork_seal" ["seal", "low", "high"] (spMark K mg "fork") := by
  refine F.ok scFk (fun _ _ _ _ _ _ us hl => match us, hl with | [_, _, _], _ => rfl) (fun vs H Q E h => ?_) (fun f cdv A outer s H vs Q E hr h => ?_)
  · obtain ⟨S, f, t1, t2, v1, v2, rfl, _⟩ := h; rfl
  obtain ⟨S, f, t1, t2, v1, v2, rfl, hS, hc, i1, i2, q⟩ := h
  refine ⟨_, pss_one (ps_ret (pe_callV (i := 0) Fl hr pass0 rfl (Or.inl rfl) (pa_cons pe_str (pa_cons (pv 1) (pa_cons (pv 2) pa_nil))))), ?_⟩
  exact ⟨f, rfl, hS.fny, _, rfl, _, rfl, hS.fny, S, _, t1, t2, _, _, hS, hc, rfl, i1, i2, q⟩
theorem bit1 (k : Int) (b : Nat) : Builtin.bitAnd (k / 2 ^ ((b : Int)).toNat) 1 = bitAt k b := by
  rw [PyProof.Rows.bitAnd_m1]; rfl
/-- part_of(rows, bit, side) -/
def spPart (K : PySem.W.Frag) : Sp := fun vs H Q _ => ∃ S : Sl, ∃ a ws rows, ∃ b : Nat, ∃ sd : Int, vs = [.ref a, .int b, .int sd] ∧ Told S H ∧ SqL K H a ws ∧ RowsAt H rows ws ∧ rows.length ≤ 1000 ∧
  ∀ D H' ws', Gr S 0 H H' → H D = none → H' D = some (.lst ws') → RowsAt H' (prt rows b sd) ws' → Q (.ref D) H'
theorem scPo : FnScope ["rows", "bit", "side"] ["rows", "bit", "side"] (defScope sPartOf) := ⟨rfl, rfl, rfl, by decide +kernel, rfl, by decide +kernel, by decide +kernel⟩
theorem ok_part (F : FunAt K mg "part_of" sPartOf) : FnP P w K mg base 1 "part_of" ["rows", "bit", "side"] (spPart K) := by
  refine F.ok scPo (fun _ _ _ _ _ _ us hl => match us, hl with | [_, _, _], _ => rfl) (fun vs H Q E h => ?_) (fun f0 cdv A outer s H vs Q E hr h => ?_)
  · obtain ⟨S, a, ws, rows, b, sd, rfl, _⟩ := h; rfl
  obtain ⟨S, a, ws, rows, b, sd, rfl, ts, hq, hw, hz, q⟩ := h
  refine' ⟨_, pss_one (ps_ret (pe_comp (ys := ["bit", "side"]) (js := [1, 2]) ?ok (pi_list (pv 0)) (fun _ _ _ => pts_one ?ht) (fun _ _ _ => pv 0))), ?rd⟩
  case ok =>
    refine ⟨rfl, rfl, rfl, by decide +kernel, by decide +kernel, rfl, by decide +kernel, fun _ _ h => h, rfl, fun i y h => ?_, rfl⟩
    match i, h with
    | 0, h => simp at h; subst h; exact ⟨1, rfl, rfl, rfl, rfl⟩
    | 1, h => simp at h; subst h; exact ⟨2, rfl, rfl, rfl, rfl⟩
    | i + 2, h => simp at h
  case ht =>
    exact pt_cmpR op_eq (pe_op op_and (pe_op op_shr (pe_ix (ix_tupK K rfl) (pv 0) pe_int (fun _ _ => rfl)) (pv 1)) pe_int) (pv 2) (nomark _)
  case rd =>
  refine ⟨_, rfl, a, rfl, ⟨_, hq⟩, ?_⟩
  refine comp_rows (fun r => decide (bitAt r.1 b = sd)) ts hq hw (by omega) (fun p r H' Qb hp hQ => ?_) q
  refine ⟨_, rfl, p, _, 0, _, rfl, rfl, .inl (.inl hp), atI_nat (j := 0) rfl, _, rfl, _, _, rfl, rfl, by show (0 : Int) ≤ (b : Int); omega, _, _, rfl, rfl, _, rfl, rfl, _, rfl, ?_⟩
  show Qb (decide (V.int (Builtin.bitAnd (r.1 / 2 ^ ((b : Int)).toNat) 1) = V.int sd)) H'
  rw [bit1]
  have e : decide (V.int (bitAt r.1 b) = V.int sd) = decide (bitAt r.1 b = sd) := by
    by_cases h : bitAt r.1 b = sd
    · rw [decide_eq_true h, decide_eq_true (by rw [h])]
    · rw [decide_eq_false h, decide_eq_false (fun z => h (by injection z))]
  rw [e]
  exact hQ
/-- the top of rows whose keys are alike but for b bits -/
def spTopP (K : PySem.W.Frag) (mg : Str → Option Value) (b : Nat) : Sp := fun vs H Q _ => ∃ S f a ws rows, vs = [.ref f, .ref a, .int b] ∧ SealAt K mg sNumd S H f ∧ SqL K H a ws ∧ RowsAt H rows ws ∧ rows.length ≤ 1000 ∧ OKR b rows ∧ Cap S H (cstP b rows) ∧
  ∀ v H', Gr S (cstP b rows) H H' → isT S H' (topP b rows) v → Q v H'
theorem scTp : FnScope ["seal", "rows", "bits", "bit", "low", "high"] ["seal", "rows", "bits"] (defScope sTopPart) := ⟨rfl, rfl, rfl, by decide +kernel, rfl, by decide +kernel, by decide +kernel⟩
theorem ok_topP (F : FunAt K mg "top_of_part" sTopPart) (Fn : FnP P w K mg base 2 "none_seal" ["seal"] (spNone K mg)) (Fr : FnP P w K mg base 2 "row_seal" ["seal", "key", "value"] (spMark K mg "row"))
    (Ff : FnP P w K mg base 2 "fork_seal" ["seal", "low", "high"] (spMark K mg "fork")) (Fp : FnP P w K mg base 1 "part_of" ["rows", "bit", "side"] (spPart K)) (ml : mg "len" = none) :
    ∀ b : Nat, FnP P w K mg base (b + 3) "top_of_part" ["seal", "rows", "bits"] (spTopP K mg b) := by
  intro b
  induction b with
  | zero =>
    refine F.ok scTp (fun _ _ _ _ _ _ us hl => match us, hl with | [_, _, _], _ => rfl) (fun vs H Q E h => ?_) (fun f0 cdv A outer s H vs Q E hr h => ?_)
    · obtain ⟨S, f, a, ws, rows, rfl, _⟩ := h; rfl
    obtain ⟨S, f, a, ws, rows, rfl, hS, hq, hw, hz, ok, hc, q⟩ := h
    have nd := scTp.nd
    have hl := pr_len hw
    refine ⟨_, pss_cons (ps_if (pt_cmpR op_eq (pe_callB call_len_seq rfl ml PySem.boot_len (pa_cons (pv 1) pa_nil)) pe_int (nomark _)) (pss_one (ps_ret (pe_callN Fn hr rfl (pa_cons (pv 0) pa_nil)))) pss_nil) <|
      pss_cons (ps_if (pt_cmpR op_eq (pe_callB call_len_seq rfl ml PySem.boot_len (pa_cons (pv 1) pa_nil)) pe_int (nomark _)) (pss_one (ps_ret (pe_callN Fr hr rfl (pa_cons (pv 0) (pa_cons (pe_ix ix_tup (pe_ix ix_list (pv 1) pe_int (fun _ _ => rfl)) pe_int (fun _ _ => rfl)) (pa_cons (pe_ix ix_tup (pe_ix ix_list (pv 1) pe_int (fun _ _ => rfl)) pe_int (fun _ _ => rfl)) pa_nil)))))) pss_nil) <|
      pss_never, ?_⟩
    have h1 := ok.zero
    refine ⟨_, rfl, a, _, rfl, .inl hq, rfl, _, rfl, ?_⟩
    refine ite2 (fun c => ?_) (fun c => ?_)
    · have c' : V.int (ws.length : Int) = V.int 0 := of_decide_eq_true c
      have e : rows = [] := List.eq_nil_of_length_eq_zero (by injection c' with c'; omega)
      subst e
      refine ⟨_, rfl, S, f, rfl, hS, hc, fun v H' g i => q v H' g ?_⟩
      rw [topP_nil]; exact i
    · have c' : ¬ V.int (ws.length : Int) = V.int 0 := of_decide_eq_false (Bool.eq_false_iff.mpr c)
      have c2 : rows.length ≠ 0 := fun z => c' (congrArg V.int (by omega))
      obtain ⟨r, rfl⟩ : ∃ r, rows = [r] := by
        match rows, h1, c2 with
        | [r], _, _ => exact ⟨r, rfl⟩
      obtain ⟨v, rfl, p, rfl, hp⟩ : ∃ v, ws = [v] ∧ RowAt H r v := by
        cases hw with
        | cons r1 t1 => cases t1; exact ⟨_, rfl, r1⟩
      refine ⟨_, rfl, a, _, rfl, .inl hq, rfl, _, rfl, ?_⟩
      refine iteT ?_
      refine ⟨_, rfl, _, rfl, a, _, 0, _, rfl, rfl, hq, atI_nat (j := 0) rfl, p, _, 0, _, rfl, rfl, .inl (.inl hp), atI_nat (j := 0) rfl, _, rfl, a, _, 0, _, rfl, rfl, hq, atI_nat (j := 0) rfl, p, _, 1, _, rfl, rfl, .inl (.inl hp), atI_nat (j := 1) rfl,
        S, f, .int r.1, .str r.2, _, _, rfl, hS, hc, rfl, rfl, fun v H' g i => q v H' g ?_⟩
      rw [topP_one]; exact i
  | succ b ih =>
    refine F.ok scTp (fun _ _ _ _ _ _ us hl => match us, hl with | [_, _, _], _ => rfl) (fun vs H Q E h => ?_) (fun f0 cdv A outer s H vs Q E hr h => ?_)
    · obtain ⟨S, f, a, ws, rows, rfl, _⟩ := h; rfl
    obtain ⟨S, f, a, ws, rows, rfl, hS, hq, hw, hz, ok, hc, q⟩ := h
    have nd := scTp.nd
    have hl := pr_len hw
    refine ⟨_, pss_cons (ps_if (pt_cmpR op_eq (pe_callB call_len_seq rfl ml PySem.boot_len (pa_cons (pv 1) pa_nil)) pe_int (nomark _)) (pss_one (ps_ret (pe_callN Fn (hr.mono (by omega)) rfl (pa_cons (pv 0) pa_nil)))) pss_nil) <|
      pss_cons (ps_if (pt_cmpR op_eq (pe_callB call_len_seq rfl ml PySem.boot_len (pa_cons (pv 1) pa_nil)) pe_int (nomark _)) (pss_one (ps_ret (pe_callN Fr (hr.mono (by omega)) rfl (pa_cons (pv 0) (pa_cons (pe_ix ix_tup (pe_ix ix_list (pv 1) pe_int (fun _ _ => rfl)) pe_int (fun _ _ => rfl)) (pa_cons (pe_ix ix_tup (pe_ix ix_list (pv 1) pe_int (fun _ _ => rfl)) pe_int (fun _ _ => rfl)) pa_nil)))))) pss_nil) <|
      pss_cons (ps_set (i := 3) nd rfl (Or.inl rfl) (pe_op op_sub (pv 2) pe_int)) <|
      pss_cons (ps_set (i := 4) nd rfl (Or.inl rfl) (pe_callN ih hr rfl (pa_cons (pv 0) (pa_cons (pe_callN Fp (hr.mono (by omega)) rfl (pa_cons (pv 1) (pa_cons (pv 3) (pa_cons pe_int pa_nil)))) (pa_cons (pv 3) pa_nil))))) <|
      pss_cons (ps_set (i := 5) nd rfl (Or.inl rfl) (pe_callN ih hr rfl (pa_cons (pv 0) (pa_cons (pe_callN Fp (hr.mono (by omega)) rfl (pa_cons (pv 1) (pa_cons (pv 3) (pa_cons pe_int pa_nil)))) (pa_cons (pv 3) pa_nil))))) <|
      pss_one (ps_ret (pe_callN Ff (hr.mono (by omega)) rfl (pa_cons (pv 0) (pa_cons (pv 4) (pa_cons (pv 5) pa_nil))))), ?_⟩
    have cp := cstP_pos (b + 1) rows
    refine ⟨_, rfl, a, _, rfl, .inl hq, rfl, _, rfl, ?_⟩
    refine ite2 (fun c => ?_) (fun c => ?_)
    · have c' : V.int (ws.length : Int) = V.int 0 := of_decide_eq_true c
      have e : rows = [] := List.eq_nil_of_length_eq_zero (by injection c' with c'; omega)
      subst e
      refine ⟨_, rfl, S, f, rfl, hS, hc.dn cp, fun v H' g i => q v H' (g.up cp) ?_⟩
      rw [topP_nil]; exact i
    have c' : ¬ V.int (ws.length : Int) = V.int 0 := of_decide_eq_false (Bool.eq_false_iff.mpr c)
    have c2 : rows.length ≠ 0 := fun z => c' (congrArg V.int (by omega))
    refine ⟨_, rfl, a, _, rfl, .inl hq, rfl, _, rfl, ?_⟩
    refine ite2 (fun c => ?_) (fun c => ?_)
    · have c' : V.int (ws.length : Int) = V.int 1 := of_decide_eq_true c
      have h1 : rows.length = 1 := by injection c' with c'; omega
      obtain ⟨r, rfl⟩ : ∃ r, rows = [r] := List.length_eq_one_iff.mp h1
      obtain ⟨v, rfl, p, rfl, hp⟩ : ∃ v, ws = [v] ∧ RowAt H r v := by
        cases hw with
        | cons r1 t1 => cases t1; exact ⟨_, rfl, r1⟩
      refine ⟨_, rfl, _, rfl, a, _, 0, _, rfl, rfl, hq, atI_nat (j := 0) rfl, p, _, 0, _, rfl, rfl, .inl (.inl hp), atI_nat (j := 0) rfl, _, rfl, a, _, 0, _, rfl, rfl, hq, atI_nat (j := 0) rfl, p, _, 1, _, rfl, rfl, .inl (.inl hp), atI_nat (j := 1) rfl,
        S, f, .int r.1, .str r.2, _, _, rfl, hS, hc.dn cp, rfl, rfl, fun v H' g i => q v H' (g.up cp) ?_⟩
      rw [topP_one]; exact i
    have c3 : ¬ V.int (ws.length : Int) = V.int 1 := of_decide_eq_false (Bool.eq_false_iff.mpr c)
    have c4 : rows.length ≠ 1 := fun z => c3 (congrArg V.int (by omega))
    have h2 : 2 ≤ rows.length := by omega
    have hcs := cstP_more (b := b) h2
    have eb : (((b + 1 : Nat) : Int) - 1) = ((b : Nat) : Int) := by omega
    refine ⟨_, rfl, _, _, rfl, rfl, ?_⟩
    dsimp only
    rw [eb]
    have ls : ∀ sd, (prt rows b sd).length ≤ 1000 := fun sd => Nat.le_trans (List.length_filter_le _ _) hz
    refine ⟨_, rfl, _, rfl, _, rfl, S, a, ws, rows, b, 0, rfl, hS.told, hq, hw, hz, fun D0 H0 ws0 g0 n0 e0 r0 => ⟨_, rfl, ?_⟩⟩
    refine ⟨S, f, D0, ws0, prt rows b 0, rfl, hS.up g0.gn, SqL.of e0, r0, ls 0, ok.prt 0, hc.go g0.gn (by omega), fun v1 H1 g1 i1 => ?_⟩
    have g01 := g0.trans g1
    refine ⟨_, rfl, _, rfl, _, rfl, S, a, ws, rows, b, 1, rfl, g01.gn.told2, g01.sq hq, RowsAt.up hw g01.gn, hz, fun D2 H2 ws2 g2 n2 e2 r2 => ⟨_, rfl, ?_⟩⟩
    have g02 := g01.trans g2
    refine ⟨S, f, D2, ws2, prt rows b 1, rfl, hS.up g02.gn, SqL.of e2, r2, ls 1, ok.prt 1, hc.go g02.gn (by omega), fun v3 H3 g3 i3 => ?_⟩
    have g03 := g02.trans g3
    refine ⟨_, rfl, _, rfl, _, rfl, S, f, topP b (prt rows b 0), topP b (prt rows b 1), _, _, rfl, hS.up g03.gn, hc.go g03.gn (by omega), isT_up (g2.trans g3).gn i1, i3, fun v4 H4 g4 i4 => q v4 H4 ((g03.trans g4).up (by omega)) ?_⟩
    rw [topP_more h2]; exact i4
def spTopA (K : PySem.W.Frag) (mg : Str → Option Value) : Sp := fun vs H Q E => ∃ b, b ≤ 16 ∧ spTopP K mg b vs H Q E
end
/-! ### the law's own parts and ways -/
section
variable {P : Program} {w : World} {K : PySem.W.Frag} {mg : Str → Option Value} {base : Heap}
theorem half_eq (b : Nat) : (1 : Int) * 2 ^ ((((b + 1 : Nat) : Int) - 1)).toNat = 2 ^ b := by
  rw [show ((((b + 1 : Nat) : Int) - 1)).toNat = b by omega, Int.one_mul]
theorem half_ok {b : Nat} (h : b ≤ 20) : CDiv 0 ((2 : Int) ^ b) := by
  have h1 := two_pow_nn b
  have h2 : (2 : Nat) ^ b ≤ 2 ^ 20 := Nat.pow_le_pow_right (by omega) h
  have h3 := Nat.one_le_two_pow (n := b)
  unfold CDiv
  rw [PyProof.Rows.two_pow_cast]
  omega
theorem dec_bit (i s : Int) : decide (V.int i = V.int s) = decide (i = s) := by
  by_cases h : i = s
  · rw [decide_eq_true h, decide_eq_true (by rw [h])]
  · rw [decide_eq_false h, decide_eq_false (fun z => h (by injection z))]
theorem scLp : FnScope ["_law_seal", "_law_rows", "_law_level", "_law_half", "_law_low", "_law_high"] ["_law_seal", "_law_rows", "_law_level"] (defScope sLpart) := ⟨rfl, rfl, rfl, by decide +kernel, rfl, by decide +kernel, by decide +kernel⟩
theorem ok_lpart (F : FunAt K mg "_law_part" sLpart) (Fl : CallOk P w K mg base CX0 1 (spSeal K mg sNumd)) (ml : mg "len" = none) :
    ∀ b : Nat, b ≤ 20 → FnP P w K mg base (b + 3) "_law_part" ["_law_seal", "_law_rows", "_law_level"] (spTopP K mg b) := by
  intro b
  induction b with
  | zero =>
    intro _
    refine F.ok scLp (fun _ _ _ _ _ _ us hl => match us, hl with | [_, _, _], _ => rfl) (fun vs H Q E h => ?_) (fun f0 cdv A outer s H vs Q E hr h => ?_)
    · obtain ⟨S, f, a, ws, rows, rfl, _⟩ := h; rfl
    obtain ⟨S, f, a, ws, rows, rfl, hS, hq, hw, hz, ok, hc, q⟩ := h
    have nd := scLp.nd
    have hl := pr_len hw
    refine ⟨_, pss_cons (ps_if (pt_cmpR op_eq (pe_callB call_len_seq rfl ml PySem.boot_len (pa_cons (pv 1) pa_nil)) pe_int (nomark _)) (pss_one (ps_ret (pe_callV (i := 0) Fl (hr.mono (by omega)) pass0 rfl (Or.inl rfl) (pa_cons pe_str (pa_cons pe_int (pa_cons pe_int pa_nil)))))) pss_nil) <|
      pss_cons (ps_if (pt_cmpR op_eq (pe_callB call_len_seq rfl ml PySem.boot_len (pa_cons (pv 1) pa_nil)) pe_int (nomark _)) (pss_one (ps_ret (pe_callV (i := 0) Fl (hr.mono (by omega)) pass0 rfl (Or.inl rfl) (pa_cons pe_str (pa_cons (pe_ix ix_tup (pe_ix ix_list (pv 1) pe_int (fun _ _ => rfl)) pe_int (fun _ _ => rfl)) (pa_cons (pe_ix ix_tup (pe_ix ix_list (pv 1) pe_int (fun _ _ => rfl)) pe_int (fun _ _ => rfl)) pa_nil)))))) pss_nil) <|
      pss_never, ?_⟩
    have h1 := ok.zero
    refine ⟨_, rfl, a, _, rfl, .inl hq, rfl, _, rfl, ?_⟩
    refine ite2 (fun c => ?_) (fun c => ?_)
    · have c' : V.int (ws.length : Int) = V.int 0 := of_decide_eq_true c
      have e : rows = [] := List.eq_nil_of_length_eq_zero (by injection c' with c'; omega)
      subst e
      refine ⟨f, rfl, hS.fny, hS.fny, S, _, .int 0, .int 0, _, _, hS, hc, rfl, rfl, rfl, fun v H' g i => q v H' g ?_⟩
      rw [topP_nil]; exact i
    · have c' : ¬ V.int (ws.length : Int) = V.int 0 := of_decide_eq_false (Bool.eq_false_iff.mpr c)
      have c2 : rows.length ≠ 0 := fun z => c' (congrArg V.int (by omega))
      obtain ⟨r, rfl⟩ : ∃ r, rows = [r] := by
        match rows, h1, c2 with
        | [r], _, _ => exact ⟨r, rfl⟩
      obtain ⟨v, rfl, p, rfl, hp⟩ : ∃ v, ws = [v] ∧ RowAt H r v := by
        cases hw with
        | cons r1 t1 => cases t1; exact ⟨_, rfl, r1⟩
      refine ⟨_, rfl, a, _, rfl, .inl hq, rfl, _, rfl, ?_⟩
      refine iteT ?_
      refine ⟨f, rfl, hS.fny, _, rfl, a, _, 0, _, rfl, rfl, hq, atI_nat (j := 0) rfl, p, _, 0, _, rfl, rfl, .inl (.inl hp), atI_nat (j := 0) rfl, _, rfl, a, _, 0, _, rfl, rfl, hq, atI_nat (j := 0) rfl, p, _, 1, _, rfl, rfl, .inl (.inl hp), atI_nat (j := 1) rfl,
        hS.fny, S, _, .int r.1, .str r.2, _, _, hS, hc, rfl, rfl, rfl, fun v H' g i => q v H' g ?_⟩
      rw [topP_one]; exact i
  | succ b ih =>
    intro hb
    have ih := ih (by omega)
    refine F.ok scLp (fun _ _ _ _ _ _ us hl => match us, hl with | [_, _, _], _ => rfl) (fun vs H Q E h => ?_) (fun f0 cdv A outer s H vs Q E hr h => ?_)
    · obtain ⟨S, f, a, ws, rows, rfl, _⟩ := h; rfl
    obtain ⟨S, f, a, ws, rows, rfl, hS, hq, hw, hz, ok, hc, q⟩ := h
    have nd := scLp.nd
    have hl := pr_len hw
    refine' ⟨_, pss_cons (ps_if (pt_cmpR op_eq (pe_callB call_len_seq rfl ml PySem.boot_len (pa_cons (pv 1) pa_nil)) pe_int (nomark _)) (pss_one (ps_ret (pe_callV (i := 0) Fl (hr.mono (by omega)) pass0 rfl (Or.inl rfl) (pa_cons pe_str (pa_cons pe_int (pa_cons pe_int pa_nil)))))) pss_nil) <|
      pss_cons (ps_if (pt_cmpR op_eq (pe_callB call_len_seq rfl ml PySem.boot_len (pa_cons (pv 1) pa_nil)) pe_int (nomark _)) (pss_one (ps_ret (pe_callV (i := 0) Fl (hr.mono (by omega)) pass0 rfl (Or.inl rfl) (pa_cons pe_str (pa_cons (pe_ix ix_tup (pe_ix ix_list (pv 1) pe_int (fun _ _ => rfl)) pe_int (fun _ _ => rfl)) (pa_cons (pe_ix ix_tup (pe_ix ix_list (pv 1) pe_int (fun _ _ => rfl)) pe_int (fun _ _ => rfl)) pa_nil)))))) pss_nil) <|
      pss_cons (ps_set (i := 3) nd rfl (Or.inr rfl) (pe_op op_shl pe_int (pe_op op_sub (pv 2) pe_int))) <|
      pss_cons (ps_setComp (iz := 4) (ys := ["_law_half"]) (js := [3]) ?ok1 (pi_list (pv 1)) (fun _ _ _ => pts_one ?ht1) (fun _ _ _ => pv 0) nd rfl (Or.inl rfl) (Or.inl rfl) rfl) <|
      pss_cons (ps_setComp (iz := 5) (ys := ["_law_half"]) (js := [3]) ?ok2 (pi_list (pv 1)) (fun _ _ _ => pts_one ?ht2) (fun _ _ _ => pv 0) nd rfl (Or.inl rfl) (Or.inl rfl) rfl) <|
      pss_one (ps_ret (pe_callV (i := 0) Fl (hr.mono (by omega)) pass0 rfl (Or.inl rfl) (pa_cons pe_str (pa_cons (pe_callN ih hr rfl (pa_cons (pv 0) (pa_cons (pv 4) (pa_cons (pe_op op_sub (pv 2) pe_int) pa_nil)))) (pa_cons (pe_callN ih hr rfl (pa_cons (pv 0) (pa_cons (pv 5) (pa_cons (pe_op op_sub (pv 2) pe_int) pa_nil)))) pa_nil))))), ?rd⟩
    case ok1 =>
      refine ⟨rfl, rfl, rfl, by decide +kernel, by decide +kernel, rfl, by decide +kernel, fun _ _ h => h, rfl, fun i y h => ?_, rfl⟩
      match i, h with
      | 0, h => simp at h; subst h; exact ⟨3, rfl, rfl, rfl, rfl⟩
      | i + 1, h => simp at h
    case ok2 =>
      refine ⟨rfl, rfl, rfl, by decide +kernel, by decide +kernel, rfl, by decide +kernel, fun _ _ h => h, rfl, fun i y h => ?_, rfl⟩
      match i, h with
      | 0, h => simp at h; subst h; exact ⟨3, rfl, rfl, rfl, rfl⟩
      | i + 1, h => simp at h
    case ht1 => exact pt_cmpR op_eq (pe_op op_mod (pe_op op_fdiv (pe_ix (ix_tupK K rfl) (pv 0) pe_int (fun _ _ => rfl)) (pv 1)) pe_int) pe_int (nomark _)
    case ht2 => exact pt_cmpR op_eq (pe_op op_mod (pe_op op_fdiv (pe_ix (ix_tupK K rfl) (pv 0) pe_int (fun _ _ => rfl)) (pv 1)) pe_int) pe_int (nomark _)
    case rd =>
    have cp := cstP_pos (b + 1) rows
    refine ⟨_, rfl, a, _, rfl, .inl hq, rfl, _, rfl, ?_⟩
    refine ite2 (fun c => ?_) (fun c => ?_)
    · have c' : V.int (ws.length : Int) = V.int 0 := of_decide_eq_true c
      have e : rows = [] := List.eq_nil_of_length_eq_zero (by injection c' with c'; omega)
      subst e
      refine ⟨f, rfl, hS.fny, hS.fny, S, _, .int 0, .int 0, _, _, hS, hc.dn cp, rfl, rfl, rfl, fun v H' g i => q v H' (g.up cp) ?_⟩
      rw [topP_nil]; exact i
    have c' : ¬ V.int (ws.length : Int) = V.int 0 := of_decide_eq_false (Bool.eq_false_iff.mpr c)
    have c2 : rows.length ≠ 0 := fun z => c' (congrArg V.int (by omega))
    refine ⟨_, rfl, a, _, rfl, .inl hq, rfl, _, rfl, ?_⟩
    refine ite2 (fun c => ?_) (fun c => ?_)
    · have c' : V.int (ws.length : Int) = V.int 1 := of_decide_eq_true c
      have h1 : rows.length = 1 := by injection c' with c'; omega
      obtain ⟨r, rfl⟩ : ∃ r, rows = [r] := List.length_eq_one_iff.mp h1
      obtain ⟨v, rfl, p, rfl, hp⟩ : ∃ v, ws = [v] ∧ RowAt H r v := by
        cases hw with
        | cons r1 t1 => cases t1; exact ⟨_, rfl, r1⟩
      refine ⟨f, rfl, hS.fny, _, rfl, a, _, 0, _, rfl, rfl, hq, atI_nat (j := 0) rfl, p, _, 0, _, rfl, rfl, .inl (.inl hp), atI_nat (j := 0) rfl, _, rfl, a, _, 0, _, rfl, rfl, hq, atI_nat (j := 0) rfl, p, _, 1, _, rfl, rfl, .inl (.inl hp), atI_nat (j := 1) rfl,
        hS.fny, S, _, .int r.1, .str r.2, _, _, hS, hc.dn cp, rfl, rfl, rfl, fun v H' g i => q v H' (g.up cp) ?_⟩
      rw [topP_one]; exact i
    have c3 : ¬ V.int (ws.length : Int) = V.int 1 := of_decide_eq_false (Bool.eq_false_iff.mpr c)
    have c4 : rows.length ≠ 1 := fun z => c3 (congrArg V.int (by omega))
    have h2 : 2 ≤ rows.length := by omega
    have hcs := cstP_more (b := b) h2
    have eb : (((b + 1 : Nat) : Int) - 1) = ((b : Nat) : Int) := by omega
    have hok := half_ok (b := b) (by omega)
    have ls : ∀ sd, (prt rows b sd).length ≤ 1000 := fun sd => Nat.le_trans (List.length_filter_le _ _) hz
    refine ⟨_, rfl, _, _, rfl, rfl, _, _, rfl, rfl, ⟨by omega, by omega, by decide⟩, ?_⟩
    dsimp only
    rw [half_eq]
    refine ⟨_, rfl, a, rfl, ⟨_, hq⟩, ?_⟩
    refine comp_rows (fun r => decide (bitAt r.1 b = 0)) hS.told hq hw (by omega) (fun p r H' Qb hp hQ => ?_) fun D0 H0 ws0 g0 n0 e0 r0 => ?_
    · refine ⟨_, rfl, p, _, 0, _, rfl, rfl, .inl (.inl hp), atI_nat (j := 0) rfl, _, rfl, _, _, rfl, rfl, hok, _, _, rfl, rfl, (by show (0 : Int) < 2; decide), rfl, _, rfl, ?_⟩
      rw [dec_bit]; exact hQ
    have hq0 := g0.sq hq
    have hw0 := RowsAt.up hw g0.gn
    refine ⟨_, rfl, a, rfl, ⟨_, hq0⟩, ?_⟩
    refine comp_rows (fun r => decide (bitAt r.1 b = 1)) g0.gn.told2 hq0 hw0 (by omega) (fun p r H' Qb hp hQ => ?_) fun D1 H1 ws1 g1 n1 e1 r1 => ?_
    · refine ⟨_, rfl, p, _, 0, _, rfl, rfl, .inl (.inl hp), atI_nat (j := 0) rfl, _, rfl, _, _, rfl, rfl, hok, _, _, rfl, rfl, (by show (0 : Int) < 2; decide), rfl, _, rfl, ?_⟩
      rw [dec_bit]; exact hQ
    have g01 := g0.trans g1
    have hS1 := hS.up g01.gn
    refine ⟨f, rfl, hS1.fny, _, rfl, _, rfl, _, rfl, _, _, rfl, rfl, ?_⟩
    dsimp only
    rw [eb]
    refine ⟨S, f, D0, ws0, prt rows b 0, rfl, hS1, SqL.of (g1.lst e0), RowsAt.up r0 g1.gn, ls 0, ok.prt 0, hc.go g01.gn (by omega), fun v2 H2 g2 i2 => ?_⟩
    have g02 := g01.trans g2
    refine ⟨_, rfl, _, rfl, _, rfl, _, _, rfl, rfl, ?_⟩
    dsimp only
    rw [eb]
    refine ⟨S, f, D1, ws1, prt rows b 1, rfl, hS.up g02.gn, SqL.of (g2.lst e1), RowsAt.up r1 g2.gn, ls 1, ok.prt 1, hc.go g02.gn (by omega), fun v3 H3 g3 i3 => ?_⟩
    have g03 := g02.trans g3
    have hS3 := hS.up g03.gn
    refine ⟨hS3.fny, S, _, topP b (prt rows b 0), topP b (prt rows b 1), _, _, hS3, hc.go g03.gn (by omega), rfl, isT_up g3.gn i2, i3, fun v4 H4 g4 i4 => q v4 H4 ((g03.trans g4).up (by omega)) ?_⟩
    rw [topP_more h2]; exact i4
end
/-! ### the table -/
structure Txt (K : PySem.W.Frag) (mg : Str → Option Value) (C : Addr) : Prop where
  cl : Cls K C
  nS : NoAttr K C "seal"
  nD : NoAttr K C "depth"
  nH : NoAttr K C "held"
  mgC : mg "Table" = some (.ref C)
def fl (f : Addr) (D : Nat) (d : Addr) : List (Str × V) := [("seal", .ref f), ("depth", .int D), ("held", .ref d)]
theorem fl_s (f : Addr) (D : Nat) (d : Addr) : (fl f D d).lookup ("seal" : Str) = some (.ref f) := rfl
theorem fl_d (f : Addr) (D : Nat) (d : Addr) : (fl f D d).lookup ("depth" : Str) = some (.int D) := rfl
theorem fl_h (f : Addr) (D : Nat) (d : Addr) : (fl f D d).lookup ("held" : Str) = some (.ref d) := rfl
theorem fl_new (f : Addr) (D : Nat) (d : Addr) : putF "held" (.ref d) (putF "depth" (.int D) (putF "seal" (.ref f) [])) = fl f D d := by
  have e : putF "depth" (.int D) (putF "seal" (.ref f) []) = ([("seal", .ref f), ("depth", .int D)] : List (Str × V)) := by
    show (if ("seal" : Str) = "depth" then _ else (("seal" : Str), V.ref f) :: [(("depth" : Str), V.int D)]) = _
    rw [if_neg (by decide +kernel)]
  rw [e]
  show (if ("seal" : Str) = "held" then _ else (("seal" : Str), V.ref f) :: (if ("depth" : Str) = "held" then _ else (("depth" : Str), V.int D) :: [(("held" : Str), V.ref d)])) = _
  rw [if_neg (by decide +kernel), if_neg (by decide +kernel)]; rfl
theorem fl_2 (f : Addr) (D : Nat) : (putF "depth" (V.int D) (putF "seal" (.ref f) [])).length = 2 := by
  have e : putF "depth" (.int D) (putF "seal" (.ref f) []) = ([("seal", .ref f), ("depth", .int D)] : List (Str × V)) := by
    show (if ("seal" : Str) = "depth" then _ else (("seal" : Str), V.ref f) :: [(("depth" : Str), V.int D)]) = _
    rw [if_neg (by decide +kernel)]
  rw [e]; rfl
/-- a table stands at x, its dict at d -/
def TabAt (C : Addr) (H : Hp) (x d f : Addr) (D : Nat) (kvs : List (Key × V)) : Prop := (∃ dx, H x = some (.ins C dx (fl f D d))) ∧ H d = some (.dK kvs)
theorem TabAt.up {C : Addr} {S : Sl} {H H' : Hp} {x d f : Addr} {D n : Nat} {kvs : List (Key × V)} (h : TabAt C H x d f D kvs) (g : Gr S n H H') : TabAt C H' x d f D kvs := by
  obtain ⟨⟨dx, h1⟩, h2⟩ := h
  exact ⟨⟨dx, g.same h1 (fun _ e => nomatch e)⟩, g.same h2 (fun _ e => nomatch e)⟩
section
variable {P : Program} {w : World} {K : PySem.W.Frag} {mg : Str → Option Value} {base : Heap} {C : Addr}
def spTI (C : Addr) : Sp := fun vs H Q _ => ∃ (p dx f : Addr) (D : Nat), vs = [.ref p, .ref f, .int D] ∧ H p = some (.ins C dx []) ∧ ∀ d H', H d = none → TabAt C H' p d f D [] → (∀ b o, H b = some o → b ≠ p → H' b = some o) → Q .non H'
theorem scTI : FnScope ["self", "seal", "depth"] ["self", "seal", "depth"] (defScope mInit) := ⟨rfl, rfl, rfl, by decide +kernel, rfl, by decide +kernel, by decide +kernel⟩
theorem ok_tinit {f : Addr} {fd : FuncData} (F : FunD K "__init__" "Table.__init__" mInit f fd [8]) (T : Txt K mg C) : FnOk P w K mg base CX0 1 f fd ["self", "seal", "depth"] (spTI C) := by
  refine F.ok scTI (fun vs H Q E h => ?_) (fun cdv A outer s H vs Q E hr h => ?_)
  · obtain ⟨p, dx, f, D, rfl, _⟩ := h; rfl
  obtain ⟨p, dx, f, D, rfl, hp, k⟩ := h
  refine ⟨_, pss_cons (ps_fld (pv 0) (pv 1) rfl) <| pss_cons (ps_fld (pv 0) (pv 2) rfl) <| pss_one (ps_fld (pv 0) pe_dnewK rfl), ?_⟩
  refine ⟨_, rfl, _, rfl, p, C, dx, [], rfl, hp, T.cl, T.nS, (by show 0 < 1000; decide), ?_⟩
  refine ⟨_, rfl, _, rfl, p, C, dx, _, rfl, upd_same, T.cl, T.nD, (by show 1 < 1000; decide), ?_⟩
  intro d hd
  have npd : p ≠ d := ne_of_none upd_same hd
  have hd0 : H d = none := by rw [upd_ne npd.symm, upd_ne npd.symm] at hd; exact hd
  refine ⟨_, rfl, p, C, dx, _, rfl, (by rw [upd_ne npd, upd_same]), T.cl, T.nH, (by rw [fl_2]; decide), ?_⟩
  refine k d _ hd0 ⟨⟨dx, ?_⟩, ?_⟩ fun b o e hb => ?_
  · rw [upd_same, fl_new]
  · rw [upd_ne npd.symm, upd_same]
  · have b1 : b ≠ d := ne_of_none e hd0
    rw [upd_ne hb, upd_ne b1, upd_ne hb, upd_ne hb]; exact e
/-- in_depth(key, depth) -/
def spInD : Sp := fun vs H Q _ => ∃ (k : Int) (D : Nat), vs = [.int k, .int D] ∧ Q (.bl (decide (0 ≤ k ∧ k < 2 ^ D))) H
theorem scID : FnScope ["key", "depth"] ["key", "depth"] (defScope sInD) := ⟨rfl, rfl, rfl, by decide +kernel, rfl, by decide +kernel, by decide +kernel⟩
theorem ok_ind (F : FunAt K mg "in_depth" sInD) : FnP P w K mg base 1 "in_depth" ["key", "depth"] spInD := by
  refine F.ok scID (fun _ _ _ _ _ _ us hl => match us, hl with | [_, _], _ => rfl) (fun vs H Q E h => ?_) (fun f0 cdv A outer s H vs Q E hr h => ?_)
  · obtain ⟨k, D, rfl, _⟩ := h; rfl
  obtain ⟨k, D, rfl, q⟩ := h
  refine ⟨_, pss_one (ps_ret (pe_and (pe_cmpR op_ge (pv 0) pe_int (nomark _)) (pe_one (pe_cmpR op_le (pe_bm0 PySem.F.plainAttrs_int PySem.F.slot_int_bit_length PySem.F.type_int_bit_length mt_bitlen (pv 0)) (pv 1) (nomark _))))), ?_⟩
  refine ⟨_, rfl, _, _, rfl, rfl, _, rfl, ?_⟩
  refine ite2 (fun c => ?_) (fun c => ?_)
  · have h0 : (0 : Int) ≤ k := of_decide_eq_true c
    refine ⟨_, rfl, rfl, _, rfl, rfl, _, rfl, _, _, rfl, rfl, ?_⟩
    have e : decide (((Builtin.Int.intBits k : Nat) : Int) ≤ (D : Int)) = decide (0 ≤ k ∧ k < 2 ^ D) := by
      rw [decide_eq_decide, bits_lt h0]
      exact ⟨fun z => ⟨h0, z⟩, fun z => z.2⟩
    show Q (V.bl (decide (((Builtin.Int.intBits k : Nat) : Int) ≤ (D : Int)))) H
    rw [e]; exact q
  · have h0 : ¬ (0 : Int) ≤ k := of_decide_eq_false (Bool.eq_false_iff.mpr c)
    rw [decide_eq_false (fun z => h0 z.1)] at q
    exact q
/-- check(key), the key being of the depth -/
def spChk (C : Addr) : Sp := fun vs H Q _ => ∃ (x d f : Addr) (D : Nat) (kvs : List (Key × V)) (k : Int), vs = [.ref x, .int k] ∧ TabAt C H x d f D kvs ∧ 0 ≤ k ∧ k < 2 ^ D ∧ Q .non H
theorem scCk : FnScope ["self", "key"] ["self", "key"] (defScope mCheck) := ⟨rfl, rfl, rfl, by decide +kernel, rfl, by decide +kernel, by decide +kernel⟩
theorem ok_chk (F : MethAt K C "check" "Table.check" mCheck) (T : Txt K mg C) (Fi : FnP P w K mg base 1 "in_depth" ["key", "depth"] spInD) : MtP P w K mg base C 2 "check" ["self", "key"] (spChk C) := by
  refine F.ok scCk (fun _ _ _ _ _ _ us hl => match us, hl with | [_, _], _ => rfl) (fun vs H Q E h => ?_) (fun f0 cdv A outer s H vs Q E hr h => ?_)
  · obtain ⟨x, d, f, D, kvs, k, rfl, _⟩ := h; rfl
  obtain ⟨x, d, f, D, kvs, k, rfl, ⟨⟨dx, h1⟩, h2⟩, k0, k1, q⟩ := h
  refine ⟨_, pss_one (ps_if (pt_not (pt_val (pe_callN Fi hr rfl (pa_cons (pv 1) (pa_cons (pe_fld (pv 0) rfl) pa_nil))))) pss_never pss_nil), ?_⟩
  refine ⟨_, rfl, _, rfl, x, C, dx, _, _, rfl, h1, T.cl, T.nD, fl_d _ _ _, k, D, rfl, _, rfl, ?_⟩
  rw [decide_eq_true (show 0 ≤ k ∧ k < 2 ^ D from ⟨k0, k1⟩)]
  exact iteF q
/-- put(key, value) -/
def spPut (C : Addr) : Sp := fun vs H Q _ => ∃ (x d f : Addr) (D : Nat) (kvs : List (Key × V)) (k : Int) (v : V), vs = [.ref x, .int k, v] ∧ TabAt C H x d f D kvs ∧ 0 ≤ k ∧ k < 2 ^ D ∧ kvs.length < sizeLine ∧ Q .non (upd H d (.dK (putK kvs (.inl k) v)))
theorem scPt : FnScope ["self", "key", "value"] ["self", "key", "value"] (defScope mPut) := ⟨rfl, rfl, rfl, by decide +kernel, rfl, by decide +kernel, by decide +kernel⟩
theorem ok_put (F : MethAt K C "put" "Table.put" mPut) (T : Txt K mg C) (Fc : MtP P w K mg base C 2 "check" ["self", "key"] (spChk C)) : MtP P w K mg base C 3 "put" ["self", "key", "value"] (spPut C) := by
  refine F.ok scPt (fun _ _ _ _ _ _ us hl => match us, hl with | [_, _, _], _ => rfl) (fun vs H Q E h => ?_) (fun f0 cdv A outer s H vs Q E hr h => ?_)
  · obtain ⟨x, d, f, D, kvs, k, v, rfl, _⟩ := h; rfl
  obtain ⟨x, d, f, D, kvs, k, v, rfl, hT, k0, k1, hz, q⟩ := h
  obtain ⟨⟨dx, h1⟩, h2⟩ := id hT
  have hu := hu_of hr
  refine ⟨_, pss_cons (ps_expr (pe_methN Fc (pv 0) T.cl hr (pa_cons (pv 1) pa_nil))) <| pss_one (ps_dput hu (pe_fld (pv 0) rfl) (pv 1) (pv 2) rfl), ?_⟩
  refine ⟨_, rfl, x, dx, _, rfl, h1, rfl, _, rfl, x, d, f, D, kvs, k, rfl, hT, k0, k1, ?_⟩
  exact ⟨_, rfl, _, rfl, x, C, dx, _, _, rfl, h1, T.cl, T.nH, fl_h _ _ _, _, rfl, d, _, rfl, DPut.k (k := .inl k) h2 hz, q⟩
/-- rows() -/
def spRows (C : Addr) : Sp := fun vs H Q _ => ∃ (S : Sl) (x d f : Addr) (D : Nat) (kvs : List (Key × V)) (rows : List Rw), vs = [.ref x] ∧ TabAt C H x d f D kvs ∧ Told S H ∧ Rws D kvs ∧ kvs.length < 64 ∧ SrtOf kvs rows ∧
  ∀ l ws H', Gr S 0 H H' → H l = none → H' l = some (.lst ws) → RowsAt H' rows ws → Q (.ref l) H'
theorem scRs : FnScope ["self"] ["self"] (defScope mRows) := ⟨rfl, rfl, rfl, by decide +kernel, rfl, by decide +kernel, by decide +kernel⟩
theorem gr_ext {S : Sl} {H H' : Hp} (t : Told S H) (h : ∀ b o, H b = some o → H' b = some o) : Gr S 0 H H' := ⟨⟨fun b o e _ => h b o e, fun d e => by
    obtain ⟨kvs, q⟩ := t d e
    exact ⟨kvs, [], q, by rw [List.append_nil]; exact h _ _ q, Nat.le_refl _, .nil⟩⟩, fun b o e _ => h b o e⟩
theorem rows_at {H' : Hp} : ∀ {as : List Addr} {rows : List Rw}, Paired (fun a (r : Int × V) => H' a = some (.tup [.int r.1, r.2])) as (rows.map fun r => (r.1, V.str r.2)) → RowsAt H' rows (as.map V.ref)
  | [], [], .nil => .nil
  | a :: as, r :: rows, .cons h t => .cons ⟨a, rfl, h⟩ (rows_at t)
theorem ok_rows (F : MethAt K C "rows" "Table.rows" mRows) (T : Txt K mg C) (ms : mg "sorted" = none) : MtP P w K mg base C 1 "rows" ["self"] (spRows C) := by
  refine F.ok scRs (fun _ _ _ _ _ _ us hl => match us, hl with | [_], _ => rfl) (fun vs H Q E h => ?_) (fun f0 cdv A outer s H vs Q E hr h => ?_)
  · obtain ⟨S, x, d, f, D, kvs, rows, rfl, _⟩ := h; rfl
  obtain ⟨S, x, d, f, D, kvs, rows, rfl, ⟨⟨dx, h1⟩, h2⟩, ts, hw, hz, hs, q⟩ := h
  refine ⟨_, pss_one (ps_ret (pe_callB (call_sortedI rfl) rfl ms PyProof.Rows.boot_sorted (pa_cons (pe_bm0 PySem.F.plainAttrs_dict PySem.F.slot_dict_items PySem.F.type_dict_items mt_items (pe_fld (pv 0) rfl)) pa_nil))), ?_⟩
  refine ⟨_, rfl, x, C, dx, _, _, rfl, h1, T.cl, T.nH, fl_h _ _ _, .inr (.inr (.inl ⟨rfl, .inl ⟨_, h2⟩⟩)), d, kvs, rfl, rfl, h2, fun p hp => ?_⟩
  have g1 : Gr S 0 H (upd H p (.frz (viewO d) (.own 0))) := .new ts hp
  refine ⟨p, d, kvs, rfl, upd_same, g1.same h2 (fun _ e => nomatch e), hw.ints, hz, fun l as rs H' hx hl hl' pr pw pm => ?_⟩
  have e := hs.uniq pw pm
  subst e
  have g2 : Gr S 0 _ H' := gr_ext g1.gn.told2 hx
  exact q l _ H' (g1.trans g2) (g1.free hl) hl' (rows_at pr)
/-- what the way's end is -/
def EndAt (H : Hp) : List Rw → V → Prop
  | [], v => v = .non
  | r :: _, v => RowAt H r v
theorem EndAt.up {S : Sl} {n : Nat} {H H' : Hp} {rows : List Rw} {v : V} (h : EndAt H rows v) (g : Gn S n H H') : EndAt H' rows v := by
  cases rows with
  | nil => exact h
  | cons r t => exact RowAt.up h g
/-- the way, as it is told: a tuple at p, of a list at r and an end -/
def WayAt (S : Sl) (H : Hp) (p r : Addr) (wy : List Tm × List Rw) : Prop := ∃ os ev, H p = some (.tup [.ref r, ev]) ∧ H r = some (.lst os) ∧ isTs S H wy.1 os ∧ EndAt H wy.2 ev
def spTWay (K : PySem.W.Frag) (mg : Str → Option Value) (C : Addr) : Sp := fun vs H Q _ => ∃ (S : Sl) (x d f : Addr) (D : Nat) (kvs : List (Key × V)) (rows : List Rw) (k : Int), vs = [.ref x, .int k] ∧ TabAt C H x d f D kvs ∧ SealAt K mg sNumd S H f ∧ Rws D kvs ∧ kvs.length < 64 ∧ SrtOf kvs rows ∧ D ≤ 16 ∧
  0 ≤ k ∧ k < 2 ^ D ∧ Cap S H (wcP D rows k) ∧ ∀ p r H', Gr S (wcP D rows k) H H' → H p = none → H r = none → WayAt S H' p r (wayP D rows k) → Q (.ref p) H'
theorem scTW : FnScope ["self", "key", "others", "rows", "bit", "side"] ["self", "key"] (defScope mWay) := ⟨rfl, rfl, rfl, by decide +kernel, rfl, by decide +kernel, by decide +kernel⟩
theorem ok_tway (F : MethAt K C "way" "Table.way" mWay) (T : Txt K mg C) (Fc : MtP P w K mg base C 2 "check" ["self", "key"] (spChk C)) (Fr : MtP P w K mg base C 1 "rows" ["self"] (spRows C))
    (Ft : FnP P w K mg base 19 "top_of_part" ["seal", "rows", "bits"] (spTopA K mg)) (Fp : FnP P w K mg base 1 "part_of" ["rows", "bit", "side"] (spPart K)) (ml : mg "len" = none) :
    MtP P w K mg base C 20 "way" ["self", "key"] (spTWay K mg C) := by
  refine F.ok scTW (fun _ _ _ _ _ _ us hl => match us, hl with | [_, _], _ => rfl) (fun vs H Q E h => ?_) (fun f0 cdv A outer s H vs Q E hr h => ?_)
  · obtain ⟨S, x, d, f, D, kvs, rows, k, rfl, _⟩ := h; rfl
  obtain ⟨S, x, d, f, D, kvs, rows, k, rfl, hT, hS, hw, hz, hs, hD, k0, k1, hc, q⟩ := h
  obtain ⟨⟨dx, h1⟩, h2⟩ := id hT
  have nd := scTW.nd
  refine ⟨_, pss_cons (ps_expr (pe_methN Fc (pv 0) T.cl (hr.mono (by omega)) (pa_cons (pv 1) pa_nil))) <|
    pss_cons (ps_set (i := 2) nd rfl (Or.inl rfl) (pe_lst pa_nil)) <|
    pss_cons (ps_set (i := 3) nd rfl (Or.inl rfl) (pe_methN0 Fr (pv 0) T.cl (hr.mono (by omega)))) <|
    pss_cons (ps_set (i := 4) nd rfl (Or.inl rfl) (pe_fld (pv 0) rfl)) <|
    pss_cons (ps_while PassesOwn.never (pt_cmpR op_gt (pe_callB call_len_seq rfl ml PySem.boot_len (pa_cons (pv 3) pa_nil)) pe_int (nomark _)) <|
      pss_cons (ps_set (i := 4) nd rfl (Or.inl rfl) (pe_op op_sub (pv 4) pe_int)) <|
      pss_cons (ps_set (i := 5) nd rfl (Or.inl rfl) (pe_op op_and (pe_op op_shr (pv 1) (pv 4)) pe_int)) <|
      pss_cons (ps_expr (pe_bm PySem.F.plainAttrs_list PySem.F.slot_list_append PySem.F.type_list_append mt_append (pv 2) (pa_cons (pe_callN Ft hr rfl (pa_cons (pe_fld (pv 0) rfl) (pa_cons (pe_callN Fp (hr.mono (by omega)) rfl (pa_cons (pv 3) (pa_cons (pv 4) (pa_cons (pe_op op_sub pe_int (pv 5)) pa_nil)))) (pa_cons (pv 4) pa_nil)))) pa_nil))) <|
      pss_one (ps_set (i := 3) nd rfl (Or.inl rfl) (pe_callN Fp (hr.mono (by omega)) rfl (pa_cons (pv 3) (pa_cons (pv 4) (pa_cons (pv 5) pa_nil)))))) <|
    pss_cons (ps_if (pt_cmpR op_eq (pe_callB call_len_seq rfl ml PySem.boot_len (pa_cons (pv 3) pa_nil)) pe_int (nomark _)) (pss_one (ps_ret (pe_tup (pa_cons (pv 2) (pa_cons pe_non pa_nil))))) pss_nil) <|
    pss_one (ps_ret (pe_tup (pa_cons (pv 2) (pa_cons (pe_ix ix_list (pv 3) pe_int (fun _ _ => rfl)) pa_nil)))), ?_⟩
  refine ⟨_, rfl, x, dx, _, rfl, h1, rfl, _, rfl, x, d, f, D, kvs, k, rfl, hT, k0, k1, ?_⟩
  refine ⟨(by show 0 ≤ sizeLine; decide), fun r hr0 => ?_⟩
  have g1 : Gr S 0 H (upd H r (.lst [])) := .new hS.told hr0
  have hT1 := hT.up g1
  obtain ⟨⟨dx1, a1⟩, a2⟩ := id hT1
  refine ⟨_, rfl, x, dx1, _, rfl, a1, rfl, S, x, d, f, D, kvs, rows, rfl, hT1, g1.gn.told2, hw, hz, hs, fun l ws H1 g2 nl el rl => ?_⟩
  have g12 := g1.trans g2
  have hT2 := hT.up g12
  obtain ⟨⟨dx2, b1⟩, b2⟩ := id hT2
  refine ⟨_, rfl, x, C, dx2, _, _, rfl, b1, T.cl, T.nD, fl_d _ _ _, ?_⟩
  have nrl : l ≠ r := by rintro rfl; rw [upd_same] at nl; cases nl
  have lrows := hs.len
  refine while_by (fun σ H' => ∃ (b n : Nat) (a : Addr) (ws : List V) (rws : List Rw) (ts : List Tm) (os : List V) (o5 : Option V), σ = [some (.ref x), some (.int k), some (.ref r), some (.ref a), some (.int b), o5] ∧ b ≤ D ∧ Gr S n H H' ∧ n + wcP b rws k ≤ wcP D rows k ∧
      H' a = some (.lst ws) ∧ a ≠ r ∧ RowsAt H' rws ws ∧ OKR b rws ∧ rws.length ≤ 1000 ∧ H' r = some (.lst os) ∧ isTs S H' ts os ∧ ts ++ (wayP b rws k).1 = (wayP D rows k).1 ∧ (wayP b rws k).2 = (wayP D rows k).2)
    (fun σ _ => match σ with | [_, _, _, _, some (.int b), _] => b.toNat | _ => 0) ⟨D, 0, l, ws, rows, [], [], none, rfl, Nat.le_refl _, g12.up (by omega), by omega, el, nrl, rl, hs.okr hw, by omega, g2.lst upd_same, .nil, rfl, rfl⟩ ?_ ?_
  · rintro σ H' ⟨b, n, a, ws, rws, ts, os, o5, rfl, hb, g, hn, ha, nar, ra, ok, hlen, hro, it, e1, e2⟩
    have hl := pr_len ra
    refine ⟨_, rfl, a, ws, rfl, .inl (SqL.of ha), _, _, rfl, rfl, _, rfl, ?_⟩
    refine ite2 (fun c => ?_) (fun c => ?_)
    · have c' : (1 : Int) < (ws.length : Int) := of_decide_eq_true c
      have h2' : 2 ≤ rws.length := by omega
      obtain ⟨b', rfl⟩ : ∃ b', b = b' + 1 := by
        cases b with
        | zero => have := ok.zero; omega
        | succ b' => exact ⟨b', rfl⟩
      rw [wcP_more h2'] at hn
      rw [wayP_more h2'] at e1 e2
      have eb : (((b' + 1 : Nat) : Int) - 1) = ((b' : Nat) : Int) := by omega
      refine ⟨_, rfl, _, _, rfl, rfl, ?_⟩
      dsimp only
      rw [eb]
      refine ⟨_, rfl, _, rfl, _, _, rfl, rfl, (by show (0 : Int) ≤ (b' : Int); omega), _, _, rfl, rfl, ?_⟩
      dsimp only
      rw [bit1]
      have hS' := hS.up g.gn
      obtain ⟨⟨dx3, c1⟩, c2⟩ := id (hT.up g)
      have ls : ∀ sd, (prt rws b' sd).length ≤ 1000 := fun sd => Nat.le_trans (List.length_filter_le _ _) hlen
      refine ⟨_, rfl, .inl ⟨rfl, _, SqL.of hro⟩, _, rfl, x, C, dx3, _, _, rfl, c1, T.cl, T.nS, fl_s _ _ _, _, rfl, _, rfl, _, rfl, _, _, rfl, rfl, S, a, ws, rws, b', 1 - bitAt k b', rfl, g.gn.told2, SqL.of ha, ra, hlen, fun D1 H1 ws1 g1 n1 l1 r1 => ⟨_, rfl, ?_⟩⟩
      have gg1 := g.trans g1
      refine ⟨b', by omega, S, f, D1, ws1, prt rws b' (1 - bitAt k b'), rfl, hS.up gg1.gn, SqL.of l1, r1, ls _, ok.prt _, hc.go gg1.gn (by omega), fun v2 H2 g2 i2 => ?_⟩
      have gg2 := gg1.trans g2
      have g12' := g1.trans g2
      have hro2 := g12'.lst hro
      have los := pr_len it
      have lts : ts.length ≤ 16 := by
        have z := congrArg List.length e1
        rw [List.length_append] at z
        have := wayP_len D rows k
        omega
      refine ⟨r, os, v2, rfl, rfl, hro2, by rw [sizeLine_eq]; omega, ?_⟩
      have g3 : Gn S 0 H2 (upd H2 r (.lst (os ++ [v2]))) := Gn.chg g2.gn.told2 hro2 rfl (fun _ e => nomatch e)
      have gg3 : Gr S _ H (upd H2 r (.lst (os ++ [v2]))) := gg2.own hr0
      have ha3 : upd H2 r (.lst (os ++ [v2])) a = some (.lst ws) := by rw [upd_ne nar]; exact g12'.lst ha
      refine ⟨_, rfl, _, rfl, _, rfl, S, a, ws, rws, b', bitAt k b', rfl, gg3.gn.told2, SqL.of ha3, RowsAt.up (RowsAt.up ra g12'.gn) g3, hlen, fun D4 H4 ws4 g4 n4 l4 r4 => ?_⟩
      have gg4 := gg3.trans g4
      refine ⟨⟨b', _, D4, ws4, prt rws b' (bitAt k b'), ts ++ [topP b' (prt rws b' (1 - bitAt k b'))], os ++ [v2], _, rfl, by omega, gg4, by omega, l4, ?_, r4, ok.prt _, ls _, g4.lst upd_same, ?_, ?_, e2⟩, ?_⟩
      · rintro rfl; rw [upd_same] at n4; cases n4
      · exact isTs_up g4.gn (pr_app (isTs_up g3 (isTs_up g12'.gn it)) (.cons (isT_up g3 i2) .nil))
      · rw [List.append_assoc]; exact e1
      · show ((b' : Nat) : Int).toNat < (((b' + 1 : Nat)) : Int).toNat
        omega
    · have c' : ¬ (1 : Int) < (ws.length : Int) := of_decide_eq_false (Bool.eq_false_iff.mpr c)
      rw [wayP_few (show rws.length ≤ 1 by omega)] at e1 e2
      have e1 : ts = (wayP D rows k).1 := by simpa using e1
      have e2 : rws = (wayP D rows k).2 := e2
      have fin : ∀ (p : Addr) (ev : V), H' p = none → EndAt H' rws ev → Q (.ref p) (upd H' p (.tup [.ref r, ev])) := fun p ev hp he => by
        have g5 : Gr S 0 H' (upd H' p (.tup [.ref r, ev])) := .new g.gn.told2 hp
        refine q p r _ ((g.trans g5).up (by omega)) (g.free hp) hr0 ⟨os, ev, upd_same, g5.lst hro, ?_, ?_⟩
        · rw [← e1]; exact isTs_up g5.gn it
        · rw [← e2]; exact he.up g5.gn
      refine ⟨_, rfl, a, ws, rfl, .inl (SqL.of ha), rfl, _, rfl, ?_⟩
      refine ite2 (fun c => ?_) (fun c => ?_)
      · have c2 : V.int (ws.length : Int) = V.int 0 := of_decide_eq_true c
        have e : rws = [] := List.eq_nil_of_length_eq_zero (by injection c2 with c2; omega)
        refine ⟨_, rfl, (by show 2 ≤ sizeLine; decide), fun p hp => fin p .non hp ?_⟩
        rw [e]; rfl
      · have c2 : ¬ V.int (ws.length : Int) = V.int 0 := of_decide_eq_false (Bool.eq_false_iff.mpr c)
        have c3 : ws.length ≠ 0 := fun z => c2 (congrArg V.int (by omega))
        obtain ⟨rw0, er⟩ : ∃ r0, rws = [r0] := List.length_eq_one_iff.mp (by omega)
        subst er
        obtain ⟨v, ew, hv⟩ : ∃ v, ws = [v] ∧ RowAt H' rw0 v := by
          cases ra with
          | cons r1 t1 => cases t1; exact ⟨_, rfl, r1⟩
        subst ew
        exact ⟨_, rfl, _, rfl, a, _, 0, _, rfl, rfl, SqL.of ha, atI_nat (j := 0) rfl, (by show 2 ≤ sizeLine; decide), fun p hp => fin p v hp hv⟩
  · rintro σ H' Q1 Q2 hq ⟨v, e1, a, w2, e2, e3, i, j, e4, e5, c, e6, z⟩
    exact ⟨v, e1, a, w2, e2, e3, i, j, e4, e5, c, e6, hq _ _ z⟩
/-- the law's own way -/
def spLWay (K : PySem.W.Frag) (mg : Str → Option Value) : Sp := fun vs H Q _ => ∃ (S : Sl) (f a : Addr) (ws : List V) (D : Nat) (rows : List Rw) (k : Int), vs = [.ref f, .ref a, .int D, .int k] ∧ SealAt K mg sNumd S H f ∧ H a = some (.lst ws) ∧ RowsAt H rows ws ∧ rows.length ≤ 1000 ∧ OKR D rows ∧ D ≤ 16 ∧
  Cap S H (wcP D rows k) ∧ ∀ p r H', Gr S (wcP D rows k) H H' → H p = none → H r = none → WayAt S H' p r (wayP D rows k) → Q (.ref p) H'
theorem scLW : FnScope ["_law_seal", "_law_rows", "_law_depth", "_law_key", "_law_others", "_law_level", "_law_half"] ["_law_seal", "_law_rows", "_law_depth", "_law_key"] (defScope sLway) := ⟨rfl, rfl, rfl, by decide +kernel, rfl, by decide +kernel, by decide +kernel⟩
theorem ok_lway (F : FunAt K mg "_law_way" sLway) (Ft : FnP P w K mg base 19 "_law_part" ["_law_seal", "_law_rows", "_law_level"] (spTopA K mg)) (ml : mg "len" = none) :
    FnP P w K mg base 20 "_law_way" ["_law_seal", "_law_rows", "_law_depth", "_law_key"] (spLWay K mg) := by
  refine F.ok scLW (fun _ _ _ _ _ _ us hl => match us, hl with | [_, _, _, _], _ => rfl) (fun vs H Q E h => ?_) (fun f0 cdv A outer s H vs Q E hr h => ?_)
  · obtain ⟨S, f, a, ws, D, rows, k, rfl, _⟩ := h; rfl
  obtain ⟨S, f, a0, ws0, D, rows, k, rfl, hS, ha0, ra0, hlen0, ok0, hD, hc, q⟩ := h
  have nd := scLW.nd
  have hun := hr.un
  refine' ⟨_, pss_cons (ps_set (i := 4) nd rfl (Or.inl rfl) (pe_lst pa_nil)) <|
    pss_cons (ps_set (i := 5) nd rfl (Or.inl rfl) (pv 2)) <|
    pss_cons (ps_while PassesOwn.never (pt_cmpR op_gt (pe_callB call_len_seq rfl ml PySem.boot_len (pa_cons (pv 1) pa_nil)) pe_int (nomark _)) <|
      pss_cons (ps_set (i := 5) nd rfl (Or.inl rfl) (pe_op op_sub (pv 5) pe_int)) <|
      pss_cons (ps_set (i := 6) nd rfl (Or.inr rfl) (pe_op op_shl pe_int (pv 5))) <|
      pss_cons (ps_expr (pe_bm PySem.F.plainAttrs_list PySem.F.slot_list_append PySem.F.type_list_append mt_append (pv 4) (pa_cons (pe_callN Ft hr rfl (pa_cons (pv 0) (pa_cons (pe_comp (ys := ["_law_half", "_law_key"]) (js := [6, 3]) ?ok1 (pi_list (pv 1)) (fun _ _ _ => pts_one ?ht1) (fun _ _ _ => pv 0)) (pa_cons (pv 5) pa_nil)))) pa_nil))) <|
      pss_one (ps_setComp (iz := 1) (ys := ["_law_half", "_law_key"]) (js := [6, 3]) ?ok2 (pi_list (pv 1)) (fun _ _ _ => pts_one ?ht2) (fun _ _ _ => pv 0) nd rfl (Or.inl rfl) (Or.inl rfl) rfl)) <|
    pss_cons (ps_if (pt_cmpR op_eqL2 (pv 1) (pe_lst pa_nil) (nomark _)) (pss_one (ps_ret (pe_tup (pa_cons (pv 4) (pa_cons pe_non pa_nil))))) pss_nil) <|
    pss_one (ps_ret (pe_tup (pa_cons (pv 4) (pa_cons (pe_ix ix_list (pv 1) pe_int (fun _ _ => rfl)) pa_nil)))), ?rd⟩
  case ok1 =>
    refine ⟨rfl, rfl, rfl, by decide +kernel, by decide +kernel, rfl, by decide +kernel, fun _ _ h => lookup_swap (by decide +kernel) h, rfl, fun i y h => ?_, rfl⟩
    match i, h with
    | 0, h => simp at h; subst h; exact ⟨6, rfl, rfl, rfl, rfl⟩
    | 1, h => simp at h; subst h; exact ⟨3, rfl, rfl, rfl, rfl⟩
    | i + 2, h => simp at h
  case ok2 =>
    refine ⟨rfl, rfl, rfl, by decide +kernel, by decide +kernel, rfl, by decide +kernel, fun _ _ h => lookup_swap (by decide +kernel) h, rfl, fun i y h => ?_, rfl⟩
    match i, h with
    | 0, h => simp at h; subst h; exact ⟨6, rfl, rfl, rfl, rfl⟩
    | 1, h => simp at h; subst h; exact ⟨3, rfl, rfl, rfl, rfl⟩
    | i + 2, h => simp at h
  case ht1 => exact pt_cmpR op_ne (pe_op op_mod (pe_op op_fdiv (pe_ix (ix_tupK K rfl) (pv 0) pe_int (fun _ _ => rfl)) (pv 1)) pe_int) (pe_op op_mod (pe_op op_fdiv (pv 2) (pv 1)) pe_int) (nomark _)
  case ht2 => exact pt_cmpR op_eq (pe_op op_mod (pe_op op_fdiv (pe_ix (ix_tupK K rfl) (pv 0) pe_int (fun _ _ => rfl)) (pv 1)) pe_int) (pe_op op_mod (pe_op op_fdiv (pv 2) (pv 1)) pe_int) (nomark _)
  case rd =>
  refine ⟨(by show 0 ≤ sizeLine; decide), fun r hr0 => ?_⟩
  have g1 : Gr S 0 H (upd H r (.lst [])) := .new hS.told hr0
  have nrl : a0 ≠ r := ne_of_none ha0 hr0
  refine ⟨_, rfl, ?_⟩
  refine while_by (fun σ H' => ∃ (b n : Nat) (a : Addr) (ws : List V) (rws : List Rw) (ts : List Tm) (os : List V) (o6 : Option V), σ = [some (.ref f), some (.ref a), some (.int D), some (.int k), some (.ref r), some (.int b), o6] ∧ b ≤ D ∧ Gr S n H H' ∧ n + wcP b rws k ≤ wcP D rows k ∧
      H' a = some (.lst ws) ∧ a ≠ r ∧ RowsAt H' rws ws ∧ OKR b rws ∧ rws.length ≤ 1000 ∧ H' r = some (.lst os) ∧ isTs S H' ts os ∧ ts ++ (wayP b rws k).1 = (wayP D rows k).1 ∧ (wayP b rws k).2 = (wayP D rows k).2)
    (fun σ _ => match σ with | [_, _, _, _, _, some (.int b), _] => b.toNat | _ => 0) ⟨D, 0, a0, ws0, rows, [], [], none, rfl, Nat.le_refl _, g1, by omega, g1.lst ha0, nrl, RowsAt.up ra0 g1.gn, ok0, hlen0, upd_same, .nil, rfl, rfl⟩ ?_ ?_
  · rintro σ H' ⟨b, n, a, ws, rws, ts, os, o6, rfl, hb, g, hn, ha, nar, ra, ok, hlen, hro, it, e1, e2⟩
    have hl := pr_len ra
    refine ⟨_, rfl, a, ws, rfl, .inl (SqL.of ha), _, _, rfl, rfl, _, rfl, ?_⟩
    refine ite2 (fun c => ?_) (fun c => ?_)
    · have c' : (1 : Int) < (ws.length : Int) := of_decide_eq_true c
      have h2' : 2 ≤ rws.length := by omega
      obtain ⟨b', rfl⟩ : ∃ b', b = b' + 1 := by
        cases b with
        | zero => have := ok.zero; omega
        | succ b' => exact ⟨b', rfl⟩
      rw [wcP_more h2'] at hn
      rw [wayP_more h2'] at e1 e2
      have eb : (((b' + 1 : Nat) : Int) - 1) = ((b' : Nat) : Int) := by omega
      have hok := half_ok (b := b') (by omega)
      refine ⟨_, rfl, _, _, rfl, rfl, ?_⟩
      dsimp only
      rw [eb]
      refine ⟨_, rfl, _, _, rfl, rfl, ⟨by omega, by omega, by decide⟩, ?_⟩
      dsimp only
      rw [show (1 : Int) * 2 ^ ((b' : Nat) : Int).toNat = 2 ^ b' by rw [Int.one_mul]; rfl]
      have hS' := hS.up g.gn
      have ls : ∀ sd, (prt rws b' sd).length ≤ 1000 := fun sd => Nat.le_trans (List.length_filter_le _ _) hlen
      refine ⟨_, rfl, .inl ⟨rfl, _, SqL.of hro⟩, _, rfl, _, rfl, a, rfl, ⟨_, SqL.of ha⟩, ?_⟩
      refine comp_rows (fun r => !decide (bitAt r.1 b' = bitAt k b')) g.gn.told2 (SqL.of ha) ra (by omega) (fun p r H' Qb hp hQ => ?_) fun D1 H1 ws1 g1 n1 l1 r1 => ?_
      · refine ⟨_, rfl, p, _, 0, _, rfl, rfl, .inl (.inl hp), atI_nat (j := 0) rfl, _, rfl, _, _, rfl, rfl, hok, _, _, rfl, rfl, (by show (0 : Int) < 2; decide), _, rfl, _, rfl, _, _, rfl, rfl, hok, _, _, rfl, rfl, (by show (0 : Int) < 2; decide), rfl, _, rfl, ?_⟩
        rw [dec_bit]; exact hQ
      rw [prt_ne] at r1
      have gg1 := g.trans g1
      refine ⟨_, rfl, b', by omega, S, f, D1, ws1, prt rws b' (1 - bitAt k b'), rfl, hS.up gg1.gn, SqL.of l1, r1, ls _, ok.prt _, hc.go gg1.gn (by omega), fun v2 H2 g2 i2 => ?_⟩
      have gg2 := gg1.trans g2
      have g12' := g1.trans g2
      have hro2 := g12'.lst hro
      have los := pr_len it
      have lts : ts.length ≤ 16 := by
        have z := congrArg List.length e1
        rw [List.length_append] at z
        have := wayP_len D rows k
        omega
      refine ⟨r, os, v2, rfl, rfl, hro2, by rw [sizeLine_eq]; omega, ?_⟩
      have g3 : Gn S 0 H2 (upd H2 r (.lst (os ++ [v2]))) := Gn.chg g2.gn.told2 hro2 rfl (fun _ e => nomatch e)
      have gg3 : Gr S _ H (upd H2 r (.lst (os ++ [v2]))) := gg2.own hr0
      have ha3 : upd H2 r (.lst (os ++ [v2])) a = some (.lst ws) := by rw [upd_ne nar]; exact g12'.lst ha
      refine ⟨_, rfl, a, rfl, ⟨_, SqL.of ha3⟩, ?_⟩
      refine comp_rows (fun r => decide (bitAt r.1 b' = bitAt k b')) gg3.gn.told2 (SqL.of ha3) (RowsAt.up (RowsAt.up ra g12'.gn) g3) (by omega) (fun p r H' Qb hp hQ => ?_) fun D4 H4 ws4 g4 n4 l4 r4 => ?_
      · refine ⟨_, rfl, p, _, 0, _, rfl, rfl, .inl (.inl hp), atI_nat (j := 0) rfl, _, rfl, _, _, rfl, rfl, hok, _, _, rfl, rfl, (by show (0 : Int) < 2; decide), _, rfl, _, rfl, _, _, rfl, rfl, hok, _, _, rfl, rfl, (by show (0 : Int) < 2; decide), rfl, _, rfl, ?_⟩
        rw [dec_bit]; exact hQ
      have gg4 := gg3.trans g4
      refine ⟨⟨b', _, D4, ws4, prt rws b' (bitAt k b'), ts ++ [topP b' (prt rws b' (1 - bitAt k b'))], os ++ [v2], _, rfl, by omega, gg4, by omega, l4, ?_, r4, ok.prt _, ls _, g4.lst upd_same, ?_, ?_, e2⟩, ?_⟩
      · rintro rfl; rw [upd_same] at n4; cases n4
      · exact isTs_up g4.gn (pr_app (isTs_up g3 (isTs_up g12'.gn it)) (.cons (isT_up g3 i2) .nil))
      · rw [List.append_assoc]; exact e1
      · show ((b' : Nat) : Int).toNat < (((b' + 1 : Nat)) : Int).toNat
        omega
    · have c' : ¬ (1 : Int) < (ws.length : Int) := of_decide_eq_false (Bool.eq_false_iff.mpr c)
      rw [wayP_few (show rws.length ≤ 1 by omega)] at e1 e2
      have e1 : ts = (wayP D rows k).1 := by simpa using e1
      have e2 : rws = (wayP D rows k).2 := e2
      refine ⟨_, rfl, (by show 0 ≤ sizeLine; decide), fun p0 hp0 => ?_⟩
      have g6 : Gr S 0 H' (upd H' p0 (.lst [])) := .new g.gn.told2 hp0
      have fin : ∀ (p : Addr) (ev : V), upd H' p0 (.lst []) p = none → EndAt H' rws ev → Q (.ref p) (upd (upd H' p0 (.lst [])) p (.tup [.ref r, ev])) := fun p ev hp he => by
        have g5 : Gr S 0 _ (upd (upd H' p0 (.lst [])) p (.tup [.ref r, ev])) := .new g6.gn.told2 hp
        have g56 := g6.trans g5
        refine q p r _ ((g.trans g56).up (by omega)) ((g.trans g6).free hp) hr0 ⟨os, ev, upd_same, g56.lst hro, ?_, ?_⟩
        · rw [← e1]; exact isTs_up g56.gn it
        · rw [← e2]; exact he.up g56.gn
      refine ⟨a, p0, ws, [], rfl, rfl, SqL.of (g6.lst ha), SqL.of upd_same, ?_, ?_⟩
      · show (A.deeper (PyProof.Rows.envOfC "_law_way" (defScope sLway) s.heap.objs.size f0 cdv)).units + 1 < cLine
        omega
      match ws, ra with
      | [], .nil =>
        refine .inr ⟨0, rfl, fun i u v h => by simp at h, ?_, _, rfl, ?_⟩
        · show (A.deeper (PyProof.Rows.envOfC "_law_way" (defScope sLway) s.heap.objs.size f0 cdv)).units + 0 + 1 < cLine
          omega
        refine iteT ?_
        exact ⟨_, rfl, (by show 2 ≤ sizeLine; decide), fun p hp => fin p .non hp rfl⟩
      | v :: t, .cons hv ht =>
        refine .inl ⟨by simp, _, rfl, ?_⟩
        refine iteF ?_
        exact ⟨_, rfl, _, rfl, a, _, 0, _, rfl, rfl, SqL.of (g6.lst ha), atI_nat (j := 0) rfl, (by show 2 ≤ sizeLine; decide), fun p hp => fin p v hp hv⟩
  · rintro σ H' Q1 Q2 hq ⟨v, e1, a, w2, e2, e3, i, j, e4, e5, c, e6, z⟩
    exact ⟨v, e1, a, w2, e2, e3, i, j, e4, e5, c, e6, hq _ _ z⟩
end
/-! ### how the law draws -/
section
variable {P : Program} {w : World} {K : PySem.W.Frag} {mg : Str → Option Value} {base : Heap} {C : Addr}
def spDraw : Sp := fun vs H Q _ => ∃ c k m : Int, vs = [.int c, .int k, .int m] ∧ 0 ≤ k ∧ 0 < m ∧ ∀ (v : Int) H', 0 ≤ v → v < m → (∀ b o, H b = some o → H' b = some o) → Q (.int v) H'
theorem scDr : FnScope ["_law_cell", "_law_k", "_law_many", "_law_primes"] ["_law_cell", "_law_k", "_law_many"] (defScope sDraw) := ⟨rfl, rfl, rfl, by decide +kernel, rfl, by decide +kernel, by decide +kernel⟩
def primes : List Int := [1000003, 1000033, 1000037, 1000039, 1000081, 1000099, 1000117, 1000121, 1000133, 1000151, 1000159, 1000171, 1000183, 1000187, 1000193, 1000199]
theorem primes_pos {j : Nat} {p : Int} (h : primes[j]? = some p) : 0 < p := by
  have key : ∀ p ∈ primes, 0 < p := by decide
  exact key p (List.mem_of_getElem? h)
def drA : Stmt := (defBody sDraw).getD 0 (.Pass ⟨0, 0, 0, 0⟩)
def drB : Stmt := (defBody sDraw).getD 1 (.Pass ⟨0, 0, 0, 0⟩)
theorem dr_eq : defBody sDraw = [drA, drB] := rfl
theorem dr_A : ∃ es x1 p1 p2 p3, drA = .Assign [.Name "_law_primes" p1] (.Tuple es x1 p2) p3 ∧ IntCs es primes :=
  ⟨_, _, _, _, _, rfl, .cons (.cons (.cons (.cons (.cons (.cons (.cons (.cons (.cons (.cons (.cons (.cons (.cons (.cons (.cons (.cons .nil)))))))))))))))⟩
theorem ok_draw (F : FunAt K mg "_law_draw" sDraw) : FnP P w K mg base 1 "_law_draw" ["_law_cell", "_law_k", "_law_many"] spDraw := by
  refine F.ok scDr (fun _ _ _ _ _ _ us hl => match us, hl with | [_, _, _], _ => rfl) (fun vs H Q E h => ?_) (fun f0 cdv A outer s H vs Q E hr h => ?_)
  · obtain ⟨c, k, m, rfl, _⟩ := h; rfl
  obtain ⟨c, k, m, rfl, hk, hm, q⟩ := h
  have nd := scDr.nd
  obtain ⟨es, x1, p1, p2, p3, eA, hes⟩ := dr_A
  rw [dr_eq, eA]
  refine ⟨_, pss_cons (ps_set (i := 3) nd rfl (Or.inl rfl) (pe_tup (pa_ints hes))) <|
    pss_one (ps_ret (pe_op op_mod (pe_op op_mod (pe_op op_add (pe_op op_mul (pv 0) pe_int) (pe_op op_mul (pv 1) pe_int)) (pe_ix ix_tup (pv 3) (pe_op op_mod (pv 1) pe_int) (fun _ _ => rfl))) (pv 2))), ?_⟩
  refine ⟨(by show 16 ≤ sizeLine; decide), fun p hp => ?_⟩
  have hj : (k % 16).toNat < primes.length := by show (k % 16).toNat < 16; omega
  obtain ⟨pr, epr⟩ : ∃ pr, primes[(k % 16).toNat]? = some pr := ⟨_, List.getElem?_eq_getElem hj⟩
  have hpr := primes_pos epr
  have eat : atI (primes.map V.int) (k % 16) = some (.int pr) := by
    have z : atI (primes.map V.int) (((k % 16).toNat : Nat) : Int) = some (.int pr) := atI_nat (by rw [List.getElem?_map, epr]; rfl)
    rw [show (((k % 16).toNat : Nat) : Int) = k % 16 by omega] at z
    exact z
  refine ⟨_, rfl, _, _, rfl, rfl, .inr ⟨by decide, by decide⟩, _, rfl, _, _, rfl, rfl, .inr ⟨by decide, by decide⟩, _, _, rfl, rfl, _, rfl, _, rfl, _, _, rfl, rfl, (by show (0 : Int) < 16; decide), p, primes.map V.int, _, _, rfl, rfl, .inl (.inl upd_same), eat, _, _, rfl, rfl, hpr, _, rfl, _, _, rfl, rfl, hm, ?_⟩
  exact q _ _ (Int.emod_nonneg _ (by omega)) (Int.emod_lt_of_pos _ hm) fun b o e => by rw [upd_ne (ne_of_none e hp)]; exact e
end
/-! ### the law -/
/-- the script, which nothing changes -/
def SqF (K : PySem.W.Frag) (H : Hp) (a : Addr) (xs : List V) : Prop := (∃ o, H a = some (.frz o (.lst xs))) ∨ ∀ H', SqL K H' a xs
theorem SqF.sq {K : PySem.W.Frag} {H : Hp} {a : Addr} {xs : List V} (h : SqF K H a xs) : SqL K H a xs := by
  rcases h with ⟨o, h⟩ | h
  · exact .inl (.inr ⟨o, h⟩)
  · exact h H
theorem SqF.up {K : PySem.W.Frag} {S : Sl} {n : Nat} {H H' : Hp} {a : Addr} {xs : List V} (h : SqF K H a xs) (g : Gn S n H H') : SqF K H' a xs := by
  rcases h with ⟨o, h⟩ | h
  · exact .inl ⟨o, g.keep _ _ h rfl⟩
  · exact .inr h
theorem sqF_of {K : PySem.W.Frag} {H : Hp} {a : Addr} {xs : List V} (h : SqL K H a xs) (s : Scr K H a xs) : SqF K H a xs := by
  rcases h with (h | ⟨o, h⟩) | h
  · obtain ⟨its, n, r, z, ⟨u, e⟩ | e⟩ := s
    · rw [h] at e; cases e
    · have hl := r.length
      exact .inr fun H' => .inr ⟨_, its.toArray, n, e, rfl, rfl, rfl, by simp; omega, by simpa using r⟩
  · exact .inl ⟨o, h⟩
  · exact .inr fun H' => .inr h
def spLaw (K : PySem.W.Frag) (mg : Str → Option Value) (Pt : Addr) : Sp := fun vs H Q _ => ∃ (a : Addr) (ns : List Int), vs = [.ref a] ∧ SqF K H a (ns.map V.int) ∧ ns.length ≤ 63 ∧ H Pt = some (.tbl #[]) ∧ ∀ H', Q (.bl true) H'
def forBody : Stmt → List Stmt
  | .For _ _ b _ _ => b
  | _ => []
abbrev nL : List Str := ["_law_script", "_law_seal", "_law_depth", "_law_table", "_law_held", "_law_most", "_law_keys", "_law_at", "_law_cell", "_law_key", "_law_rows", "_law_told"]
section
variable {P : Program} {w : World} {K : PySem.W.Frag} {mg : Str → Option Value} {base : Heap} {C : Addr}
theorem scL : FnScope nL ["_law_script"] (defScope sLaw) := ⟨rfl, rfl, rfl, by decide +kernel, rfl, by decide +kernel, by decide +kernel⟩
/-- what stands while the table is filled -/
structure Held (K : PySem.W.Frag) (mg : Str → Option Value) (C : Addr) (S : Sl) (a f x d hd aK : Addr) (ns : List Int) (D : Nat) (kvs : List (Key × V)) (ks : List Int) (n : Nat) (H : Hp) : Prop where
  sl : SealAt K mg sNumd S H f
  cap : Cap S H n
  tb : TabAt C H x d f D kvs
  hl : H hd = some (.dK kvs)
  ky : H aK = some (.lst (ks.map V.int))
  sc : SqF K H a (ns.map V.int)
  rw : Rws D kvs
  kr : ∀ k ∈ ks, 0 ≤ k ∧ k < 2 ^ D
  ne : hd ≠ d
theorem Held.go {S : Sl} {a f x d hd aK : Addr} {ns : List Int} {D : Nat} {kvs : List (Key × V)} {ks : List Int} {n m b : Nat} {H H' : Hp} (h : Held K mg C S a f x d hd aK ns D kvs ks n H) (g : Gr S m H H') (hn : m + b ≤ n) : Held K mg C S a f x d hd aK ns D kvs ks b H' :=
  ⟨h.sl.up g.gn, h.cap.go g.gn hn, h.tb.up g, g.same h.hl (fun _ e => nomatch e), g.lst h.ky, h.sc.up g.gn, h.rw, h.kr, h.ne⟩
theorem d_log {v : Int} (h0 : 0 ≤ v) (h1 : v < 9) : v.natAbs.log2 < 1920 := by
  by_cases e : v.natAbs = 0
  · rw [e]; decide
  · exact (Nat.log2_lt e).mpr (Nat.lt_of_lt_of_le (show v.natAbs < 2 ^ 4 by omega) (Nat.pow_le_pow_right (by omega) (by omega)))
/-- the end of a turn that fills the table -/
theorem body_ok {f0 : Addr} {cdv : Value} {A : Around} {outer : List Env} {s : Shared} {H : Hp} {E : XK} (hr : Room 99 (A.deeper (PyProof.Rows.envOfC "law" (defScope sLaw) s.heap.objs.size f0 cdv))) (T : Txt K mg C)
    (Fd : FnP P w K mg base 1 "_law_draw" ["_law_cell", "_law_k", "_law_many"] spDraw) (Mp : MtP P w K mg base C 3 "put" ["self", "key", "value"] (spPut C)) (ml : mg "len" = none) (ms : mg "str" = none) :
    ∃ t, PSs (cxOf CX0 P w K mg base nL "law" (defScope sLaw) f0 cdv A outer s H E).nox ((forBody ((defBody sLaw).getD 6 (.Pass ⟨0, 0, 0, 0⟩))).drop 2) t ∧
      ∀ (DD : Ends) (S : Sl) (a f x d hd aK : Addr) (ns : List Int) (D : Nat) (kvs : List (Key × V)) (ks : List Int) (n : Nat) (H6 : Hp) (most cell kk : Int) (o7 o10 o11 : Option V), Held K mg C S a f x d hd aK ns D kvs ks n H6 → kvs.length ≤ 63 → ks.length ≤ 100 → 0 ≤ kk → kk < 2 ^ D →
        (∀ H' kvs', kvs'.length ≤ kvs.length + 1 → Held K mg C S a f x d hd aK ns D kvs' (ks ++ [kk]) n H' → DD.nx [some (.ref a), some (.ref f), some (.int D), some (.ref x), some (.ref hd), some (.int most), some (.ref aK), o7, some (.int cell), some (.int kk), o10, o11] H') →
        t DD [some (.ref a), some (.ref f), some (.int D), some (.ref x), some (.ref hd), some (.int most), some (.ref aK), o7, some (.int cell), some (.int kk), o10, o11] H6 := by
  have nd := scL.nd
  have hu := hu_of hr
  refine ⟨_, pss_cons (ps_if (PW.pt (pw_and (pt_cmpR op_lt (pe_callB call_lenD rfl ml PySem.boot_len (pa_cons (pv 4) pa_nil)) (pv 5) (nomark _)) (pw_and1 (pt_cmpR op_gt (pe_callN Fd (hr.mono (by omega)) rfl (pa_cons (pv 8) (pa_cons pe_int (pa_cons pe_int pa_nil)))) pe_int (nomark _)))))
      (pss_cons (ps_dput hu (pv 4) (pv 9) (pe_callTy call_str_int rfl ms PyProof.Rows.boot_str (pa_cons (pe_callN Fd (hr.mono (by omega)) rfl (pa_cons (pv 8) (pa_cons pe_int (pa_cons pe_int pa_nil)))) pa_nil)) rfl) <|
        pss_one (ps_expr (pe_methN Mp (pv 3) T.cl (hr.mono (by omega)) (pa_cons (pv 9) (pa_cons (pe_dget hu (pv 4) (pv 9) (fun _ _ => rfl)) pa_nil))))) pss_nil) <|
    pss_one (ps_expr (pe_bm PySem.F.plainAttrs_list PySem.F.slot_list_append PySem.F.type_list_append mt_append (pv 6) (pa_cons (pv 9) pa_nil))), ?_⟩
  intro DD S a f x d hd aK ns D kvs ks n H6 most cell kk o7 o10 o11 h hz hk k0 k1 fin
  -- the key is kept
  have app : ∀ H7 kvs', kvs'.length ≤ kvs.length + 1 → Held K mg C S a f x d hd aK ns D kvs' ks n H7 →
      tDrop (tBM K "list" (fun x vs H Q => ∃ p ys v, x = .ref p ∧ vs = [v] ∧ H p = some (.lst ys) ∧ ys.length < sizeLine ∧ Q .non (upd H p (.lst (ys ++ [v])))) (tVar 6) (tCons (tVar 9) tNil)) DD [some (.ref a), some (.ref f), some (.int D), some (.ref x), some (.ref hd), some (.int most), some (.ref aK), o7, some (.int cell), some (.int kk), o10, o11] H7 := fun H7 kvs' hl h7 => by
    refine ⟨_, rfl, .inl ⟨rfl, _, SqL.of h7.ky⟩, _, rfl, aK, _, _, rfl, rfl, h7.ky, by rw [List.length_map, sizeLine_eq]; omega, ?_⟩
    have g : Gn S 0 H7 (upd H7 aK (.lst (ks.map V.int ++ [V.int kk]))) := Gn.chg h7.sl.told h7.ky rfl (fun _ e => nomatch e)
    obtain ⟨⟨dx, t1⟩, t2⟩ := h7.tb
    have nx : x ≠ aK := by rintro rfl; rw [h7.ky] at t1; cases t1
    have nd' : d ≠ aK := by rintro rfl; rw [h7.ky] at t2; cases t2
    have nh : hd ≠ aK := by rintro rfl; have := h7.hl; rw [h7.ky] at this; cases this
    refine fin _ kvs' hl ⟨h7.sl.up g, h7.cap.go g (by omega), ⟨⟨dx, by rw [upd_ne nx]; exact t1⟩, by rw [upd_ne nd']; exact t2⟩, by rw [upd_ne nh]; exact h7.hl, by rw [upd_same, List.map_append]; rfl, h7.sc.up g, h7.rw, fun k hk => ?_, h7.ne⟩
    rcases List.mem_append.mp hk with z | z
    · exact h7.kr k z
    · rw [List.mem_singleton.mp z]; exact ⟨k0, k1⟩
  refine ⟨_, rfl, hd, kvs, rfl, h.hl, _, rfl, _, _, rfl, rfl, _, rfl, ?_⟩
  refine ite2 (fun _ => ?_) (fun _ => iteF (app H6 kvs (by omega) h))
  refine ⟨_, rfl, cell, 3, 4, rfl, by decide, by decide, fun v1 H1 _ _ x1 => ⟨_, _, rfl, rfl, _, rfl, ?_⟩⟩
  have g1 : Gr S 0 H6 H1 := gr_ext h.sl.told x1
  have h1 := h.go (b := n) g1 (by omega)
  refine ite2 (fun _ => ?_) (fun _ => app H1 kvs (by omega) h1)
  refine ⟨_, rfl, cell, 4, 9, rfl, by decide, by decide, fun v2 H2 v20 v21 x2 => ⟨v2, rfl, d_log v20 v21, ?_⟩⟩
  have g2 : Gr S 0 H1 H2 := gr_ext h1.sl.told x2
  have h2 := h1.go (b := n) g2 (by omega)
  refine ⟨_, rfl, _, rfl, hd, _, rfl, DPut.k (k := .inl kk) h2.hl (by rw [sizeLine_eq]; omega), ?_⟩
  generalize hX : (V.str (toString v2) : V) = vv
  obtain ⟨vs, rfl⟩ : ∃ z, vv = V.str z := ⟨_, hX.symm⟩
  obtain ⟨⟨dx, t1⟩, t2⟩ := h2.tb
  have nx : x ≠ hd := by rintro rfl; have := h2.hl; rw [t1] at this; cases this
  have nK : aK ≠ hd := by rintro rfl; have := h2.hl; rw [h2.ky] at this; cases this
  have nxd : x ≠ d := by rintro rfl; rw [t1] at t2; cases t2
  have nKd : aK ≠ d := by rintro rfl; have := h2.ky; rw [t2] at this; cases this
  have tb3 : TabAt C (upd H2 hd (.dK (putK kvs (.inl kk) (.str vs)))) x d f D kvs := ⟨⟨dx, by rw [upd_ne nx]; exact t1⟩, by rw [upd_ne (Ne.symm h2.ne)]; exact t2⟩
  have g3 : Gn S 0 H2 (upd H2 hd (.dK (putK kvs (.inl kk) (.str vs)))) := Gn.chg h2.sl.told h2.hl rfl (fun _ e => nomatch e)
  have g4 : Gn S 0 _ (upd (upd H2 hd (.dK (putK kvs (.inl kk) (.str vs)))) d (.dK (putK kvs (.inl kk) (.str vs)))) := Gn.chg g3.told2 tb3.2 rfl (fun _ e => nomatch e)
  have eg : valV (putK kvs (.inl kk) (V.str vs)) (.inl kk) = some (.str vs) := by rw [valV_put, if_pos rfl]
  refine ⟨_, rfl, x, dx, _, rfl, (show upd H2 hd (.dK (putK kvs (.inl kk) (.str vs))) x = some (.ins C dx (fl f D d)) by rw [upd_ne nx]; exact t1), rfl, _, rfl, _, rfl, _, rfl, hd, .str vs, rfl, ?_, x, d, f, D, kvs, kk, _, rfl, tb3, k0, k1, by rw [sizeLine_eq]; omega, ?_⟩
  · have z := DGet.k (H := upd H2 hd (.dK (putK kvs (.inl kk) (.str vs)))) (a := hd) (k := .inl kk) upd_same
    rw [eg] at z; exact z
  · refine app _ (putK kvs (.inl kk) (.str vs)) (length_putK _ _ _) ⟨(h2.sl.up g3).up g4, (h2.cap.go g3 (b := n) (by omega)).go g4 (by omega), ⟨⟨dx, ?_⟩, upd_same⟩, ?_, ?_, (h2.sc.up g3).up g4, h2.rw.put k0 k1 vs, h2.kr, h2.ne⟩
    · rw [upd_ne nxd, upd_ne nx]; exact t1
    · rw [upd_ne h2.ne, upd_same]
    · rw [upd_ne nKd, upd_ne nK]; exact h2.ky
/-- what stands while ways are asked for -/
structure Held2 (K : PySem.W.Frag) (mg : Str → Option Value) (C : Addr) (S : Sl) (f x d aR : Addr) (D : Nat) (kvs : List (Key × V)) (rows : List Rw) (ws : List V) (n : Nat) (H : Hp) : Prop where
  sl : SealAt K mg sNumd S H f
  cap : Cap S H n
  tb : TabAt C H x d f D kvs
  rl : H aR = some (.lst ws)
  ra : RowsAt H rows ws
theorem Held2.go {S : Sl} {f x d aR : Addr} {D : Nat} {kvs : List (Key × V)} {rows : List Rw} {ws : List V} {n m b : Nat} {H H' : Hp} (h : Held2 K mg C S f x d aR D kvs rows ws n H) (g : Gr S m H H') (hn : m + b ≤ n) : Held2 K mg C S f x d aR D kvs rows ws b H' :=
  ⟨h.sl.up g.gn, h.cap.go g.gn hn, h.tb.up g, g.lst h.rl, RowsAt.up h.ra g.gn⟩
theorem way_eq {S : Sl} {H : Hp} {r r' : Addr} {os os' : List V} {ev ev' : V} {wy : List Tm × List Rw} (hd : ∀ t ∈ wy.1, t.dep ≤ 16) (l1 : H r = some (.lst os)) (l2 : H r' = some (.lst os')) (i1 : isTs S H wy.1 os) (i2 : isTs S H wy.1 os') (e1 : EndAt H wy.2 ev) (e2 : EndAt H wy.2 ev') :
    ∀ (i : Nat) u v, [V.ref r, ev][i]? = some u → [V.ref r', ev'][i]? = some v → EqW K H 16 u v := by
  intro i u v h1 h2
  match i, h1, h2 with
  | 0, h1, h2 =>
    simp at h1 h2
    subst h1 h2
    obtain ⟨q1, q2⟩ := isTs_eq i1 i2 hd
    exact .inr ⟨r, r', os, os', rfl, rfl, SqL.of l1, SqL.of l2, q1, q2⟩
  | 1, h1, h2 =>
    simp at h1 h2
    subst h1 h2
    left
    generalize wy.2 = rw2 at e1 e2
    match rw2, e1, e2 with
    | [], e1, e2 =>
      have e1 : ev = .non := e1
      have e2 : ev' = .non := e2
      subst e1 e2
      exact EqV.flat rfl _
    | r0 :: _, e1, e2 =>
      obtain ⟨p, rfl, hp⟩ := e1
      obtain ⟨p', rfl, hp'⟩ := e2
      refine .inr ⟨p, p', _, _, rfl, rfl, hp, hp', rfl, fun j u v h1 h2 => ?_⟩
      match j, h1, h2 with
      | 0, h1, h2 => simp at h1 h2; subst h1 h2; exact EqV.flat rfl _
      | 1, h1, h2 => simp at h1 h2; subst h1 h2; exact EqV.flat rfl _
      | j + 2, h1, h2 => simp at h1
  | i + 2, h1, h2 => simp at h1
theorem cost {D : Nat} {rows : List Rw} {k : Int} (h1 : D ≤ 16) (h2 : rows.length ≤ 63) : wcP D rows k ≤ 2040 := by
  have z := wcP_le D rows k
  have : D * rows.length ≤ 16 * 63 := Nat.mul_le_mul h1 h2
  omega
theorem rest_ok {f0 : Addr} {cdv : Value} {A : Around} {outer : List Env} {s : Shared} {H : Hp} {Q : VK} {E : XK} (hr : Room 99 (A.deeper (PyProof.Rows.envOfC "law" (defScope sLaw) s.heap.objs.size f0 cdv))) (T : Txt K mg C)
    (Mw : MtP P w K mg base C 20 "way" ["self", "key"] (spTWay K mg C)) (Fw : FnP P w K mg base 20 "_law_way" ["_law_seal", "_law_rows", "_law_depth", "_law_key"] (spLWay K mg))
    (ml : mg "len" = none) (mli : mg "list" = none) (mt : mg "tuple" = none) (mi : mg "isinstance" = none) (q : ∀ H', Q (.bl true) H') :
    ∃ t, PSs (cxOf CX0 P w K mg base nL "law" (defScope sLaw) f0 cdv A outer s H E).nox ((defBody sLaw).drop 9) t ∧
      ∀ (S : Sl) (a f x d hd aK aR : Addr) (D : Nat) (kvs : List (Key × V)) (rows : List Rw) (ws : List V) (ks : List Int) (H6 : Hp) (o5 o7 o8 o9 o11 : Option V), Held2 K mg C S f x d aR D kvs rows ws 9000000 H6 → Rws D kvs → kvs.length ≤ 63 → SrtOf kvs rows → 1 ≤ D → D ≤ 16 →
        H6 aK = some (.lst (ks.map V.int)) → ks.length ≤ 200 → (∀ k ∈ ks, 0 ≤ k ∧ k < 2 ^ D) →
        t { nx := fun _ H' => Q .non H', rt := Q } [some (.ref a), some (.ref f), some (.int D), some (.ref x), some (.ref hd), o5, some (.ref aK), o7, o8, o9, some (.ref aR), o11] H6 := by
  have nd := scL.nd
  have hun := hr.un
  refine' ⟨_, pss_cons (ps_for PassesOwn.never rfl (pi_list (pe_op op_cat (pv 6) (pe_comp (ys := []) (js := []) ?ok (pi_list (pv 6)) (fun _ _ _ => pts_nil) (fun _ _ _ => pe_op op_xor (pv 0) pe_int)))) (pg_name (i := 9) nd rfl (Or.inl rfl)) <|
      pss_cons (ps_set (i := 11) nd rfl (Or.inl rfl) (pe_methN Mw (pv 3) T.cl (hr.mono (by omega)) (pa_cons (pv 9) pa_nil))) <|
      pss_cons (ps_if (PW.pt (pw_or (pt_not (pt_val (pe_callB call_isinst rfl mi PyProof.Rows.boot_isinstance (pa_cons (pv 11) (pa_cons (pe_ty rfl mt PyProof.Rows.boot_tuple) pa_nil)))))
        (pw_or (pt_cmpR op_ne (pe_callB call_len_seq rfl ml PySem.boot_len (pa_cons (pv 11) pa_nil)) pe_int (nomark _))
        (pw_or1 (pt_not (pt_val (pe_callB call_isinst rfl mi PyProof.Rows.boot_isinstance (pa_cons (pe_ix ix_tup (pv 11) pe_int (fun _ _ => rfl)) (pa_cons (pe_ty rfl mli PyProof.Rows.boot_list) pa_nil))))))))) (pss_one (ps_ret pe_bl)) pss_nil) <|
      pss_cons (ps_if (PW.pt (pw_or (pt_cmpR op_neW (pv 11) (pe_callN Fw (hr.mono (by omega)) rfl (pa_cons (pv 1) (pa_cons (pv 10) (pa_cons (pv 2) (pa_cons (pv 9) pa_nil))))) (nomark _))
        (pw_or1 (pt_cmpR op_gt (pe_callB call_len_seq rfl ml PySem.boot_len (pa_cons (pe_ix ix_tup (pv 11) pe_int (fun _ _ => rfl)) pa_nil)) (pv 2) (nomark _))))) (pss_one (ps_ret pe_bl)) pss_nil) <|
      pss_cons (ps_expr (pe_bm PySem.F.plainAttrs_list PySem.F.slot_list_append PySem.F.type_list_append mt_append (pe_ix ix_tup (pv 11) pe_int (fun _ _ => rfl)) (pa_cons pe_int pa_nil))) <|
      pss_one (ps_if (pt_cmpR op_neW (pe_methN Mw (pv 3) T.cl (hr.mono (by omega)) (pa_cons (pv 9) pa_nil)) (pe_callN Fw (hr.mono (by omega)) rfl (pa_cons (pv 1) (pa_cons (pv 10) (pa_cons (pv 2) (pa_cons (pv 9) pa_nil))))) (nomark _)) (pss_one (ps_ret pe_bl)) pss_nil)) <|
    pss_one (ps_ret pe_bl), ?rd⟩
  case ok =>
    exact ⟨rfl, rfl, rfl, by decide +kernel, by decide +kernel, rfl, by decide +kernel, fun _ _ h => (nomatch h), rfl, fun i y h => by simp at h, rfl⟩
  case rd =>
  intro S a f x d hd aK aR D kvs rows ws ks H6 o5 o7 o8 o9 o11 h hw hz hs D1 D16 hK hkl hkr
  have lrows := hs.len
  have okr := hs.okr hw
  -- the keys beside
  refine ⟨_, rfl, _, rfl, aK, rfl, ⟨_, SqL.of hK⟩, fun DD hDD => ⟨fun i m ys H' => m = ks.length - i ∧ i ≤ ks.length ∧ H' DD = some (.lst ys) ∧ Gr S 0 H6 H' ∧ ys = ((ks.take i).map fun k => Builtin.bitXor k 1).map V.int,
    ⟨ks.length, by simp, by omega, upd_same, Gr.new h.sl.told hDD, rfl⟩, ?_⟩⟩
  rintro i m ys H' ⟨rfl, hi, hD', g, rfl⟩
  have hK' := g.lst hK
  by_cases hlt : i < ks.length
  · refine .inr ⟨⟨_, V.int ks[i], SqL.of hK', by simp [hlt]⟩, fun y H2 ⟨e2, hx⟩ => ?_⟩
    subst e2
    have ex : y = V.int ks[i] := by
      have z := hx _ (SqL.of hK')
      simp [hlt] at z
      exact z.symm
    subst ex
    refine iteT ?_
    refine ⟨_, rfl, _, _, rfl, rfl, hD', by rw [sizeLine_eq]; simp; omega, ks.length - (i + 1), by omega, rfl, by omega, upd_same, g.own hDD, ?_⟩
    have et : ks.take (i + 1) = ks.take i ++ [ks[i]] := by rw [List.take_succ, List.getElem?_eq_getElem hlt]; rfl
    rw [et, List.map_append, List.map_append]
    rfl
  have e : i = ks.length := by omega
  subst e
  refine .inl ⟨⟨_, SqL.of hK', by simp⟩, ?_⟩
  rw [List.take_length] at hD'
  refine ⟨aK, DD, _, _, rfl, rfl, hK', hD', by rw [sizeLine_eq]; simp; omega, fun aI hI => ?_⟩
  rw [← List.map_append]
  generalize hall : ks ++ ks.map (fun k => Builtin.bitXor k 1) = all
  have g7 : Gr S 0 H' (upd H' aI (.lst (all.map V.int))) := .new g.gn.told2 hI
  have h7 := (h.go (b := 9000000) g (by omega)).go (b := 9000000) g7 (by omega)
  have lall : all.length ≤ 400 := by rw [← hall]; simp; omega
  have rall : ∀ k ∈ all, 0 ≤ k ∧ k < 2 ^ D := by
    rw [← hall]
    intro k hk
    rcases List.mem_append.mp hk with z | z
    · exact hkr k z
    · obtain ⟨k', hk', rfl⟩ := List.mem_map.mp z
      exact xor1 D1 (hkr k' hk').1 (hkr k' hk').2
  refine ⟨aI, rfl, ⟨_, SqL.of upd_same⟩, for_list (xs := all.map V.int) (fun i σ H' => H' aI = some (.lst (all.map V.int)) ∧ Held2 K mg C S f x d aR D kvs rows ws (9000000 - i * 8200) H' ∧ ∃ o9 o11, σ = [some (.ref a), some (.ref f), some (.int D), some (.ref x), some (.ref hd), o5, some (.ref aK), o7, o8, o9, some (.ref aR), o11])
    ⟨upd_same, by simpa using h7, o9, o11, rfl⟩ (fun i σ H' _ h => SqL.of h.1) ?_ ?_⟩
  · rintro i y σ H1 hy ⟨hI1, h1, p9, p11, rfl⟩
    have hi : i < all.length := by have := (List.getElem?_eq_some_iff.mp hy).1; simpa using this
    obtain ⟨k, rfl, hk⟩ : ∃ k, y = V.int k ∧ k ∈ all := by
      obtain ⟨k, hk, e⟩ := List.mem_map.mp (List.mem_of_getElem? hy)
      exact ⟨k, e.symm, hk⟩
    obtain ⟨k0, k1⟩ := rall k hk
    have ct := cost (k := k) D16 (show rows.length ≤ 63 by omega)
    have wd : ∀ t ∈ (wayP D rows k).1, t.dep ≤ 16 := fun t ht => Nat.le_trans (wayP_dep D rows k t ht) D16
    have wl := wayP_len D rows k
    obtain ⟨⟨dx, t1⟩, t2⟩ := id h1.tb
    refine ⟨_, rfl, x, dx, _, rfl, t1, rfl, _, rfl, S, x, d, f, D, kvs, rows, k, rfl, h1.tb, h1.sl, hw, by omega, hs, D16, k0, k1, h1.cap.dn (by omega), fun p r H2 g2 np nr W2 => ?_⟩
    obtain ⟨os, ev, ep, er, io, ie⟩ := W2
    have h2 := h1.go (b := 9000000 - i * 8200 - 2050) g2 (by omega)
    refine ⟨_, rfl, _, _, _, _, rfl, .tup ep, rfl, _, rfl, ?_⟩
    refine iteF ?_
    refine ⟨_, rfl, p, _, rfl, .inr (.inl (.inl ep)), rfl, _, rfl, ?_⟩
    refine iteF ?_
    refine ⟨_, rfl, p, _, 0, _, rfl, rfl, .inl (.inl ep), atI_nat (j := 0) rfl, _, _, _, _, rfl, .lst er, rfl, _, rfl, ?_⟩
    refine iteF ?_
    -- told, and the law's own
    refine ⟨_, rfl, _, rfl, _, rfl, _, rfl, _, rfl, S, f, aR, ws, D, rows, k, rfl, h2.sl, h2.rl, h2.ra, by omega, okr, D16, h2.cap.dn (by omega), fun p3 r3 H3 g3 np3 nr3 W3 => ?_⟩
    obtain ⟨os3, ev3, ep3, er3, io3, ie3⟩ := W3
    have h3 := h2.go (b := 9000000 - i * 8200 - 4100) g3 (by omega)
    have ep' := g3.gn.keep _ _ ep rfl
    have er' := g3.lst er
    have io' := isTs_up g3.gn io
    refine ⟨16, p, p3, _, _, rfl, rfl, ep', ep3, rfl, way_eq wd er' er3 io' io3 (ie.up g3.gn) ie3, ?_, _, rfl, ?_⟩
    · show (A.deeper (PyProof.Rows.envOfC "law" (defScope sLaw) s.heap.objs.size f0 cdv)).units + 16 + 2 < cLine
      omega
    refine iteF ?_
    have lo := pr_len io'
    refine ⟨_, rfl, p, _, 0, _, rfl, rfl, .inl (.inl ep'), atI_nat (j := 0) rfl, r, os, rfl, .inl (SqL.of er'), _, rfl, _, _, rfl, rfl, _, rfl, ?_⟩
    rw [decide_eq_false (by omega)]
    refine iteF ?_
    refine ⟨_, rfl, p, _, 0, _, rfl, rfl, .inl (.inl ep'), atI_nat (j := 0) rfl, .inl ⟨rfl, _, SqL.of er'⟩, r, os, _, rfl, rfl, er', by rw [sizeLine_eq]; omega, ?_⟩
    have g23 := g2.trans g3
    have g4 : Gr S _ H1 (upd H3 r (.lst (os ++ [V.int 0]))) := g23.own nr
    have h4 := h1.go (b := 9000000 - i * 8200 - 4100) g4 (by omega)
    obtain ⟨⟨dx4, t4⟩, t5⟩ := id h4.tb
    refine ⟨_, rfl, x, dx4, _, rfl, t4, rfl, _, rfl, S, x, d, f, D, kvs, rows, k, rfl, h4.tb, h4.sl, hw, by omega, hs, D16, k0, k1, h4.cap.dn (by omega), fun p5 r5 H5 g5 np5 nr5 W5 => ?_⟩
    obtain ⟨os5, ev5, ep5, er5, io5, ie5⟩ := W5
    have h5 := h4.go (b := 9000000 - i * 8200 - 6150) g5 (by omega)
    refine ⟨_, rfl, _, rfl, _, rfl, _, rfl, S, f, aR, ws, D, rows, k, rfl, h5.sl, h5.rl, h5.ra, by omega, okr, D16, h5.cap.dn (by omega), fun p6 r6 H8 g8 np6 nr6 W6 => ?_⟩
    obtain ⟨os6, ev6, ep6, er6, io6, ie6⟩ := W6
    have h8 := h5.go (b := 9000000 - (i + 1) * 8200) g8 (by omega)
    refine ⟨16, p5, p6, _, _, rfl, rfl, g8.gn.keep _ _ ep5 rfl, ep6, rfl, way_eq wd (g8.lst er5) er6 (isTs_up g8.gn io5) io6 (ie5.up g8.gn) ie6, ?_, _, rfl, ?_⟩
    · show (A.deeper (PyProof.Rows.envOfC "law" (defScope sLaw) s.heap.objs.size f0 cdv)).units + 16 + 2 < cLine
      omega
    refine iteF ?_
    exact ⟨((g4.trans g5).trans g8).lst hI1, h8, _, _, rfl⟩
  · rintro σ H1 ⟨hI1, h1, p9, p11, rfl⟩
    exact q H1
end
section
variable {P : Program} {w : World} {K : PySem.W.Frag} {mg : Str → Option Value} {base : Heap} {C : Addr}
theorem if_two {c : Bool} {i j : Int} {σ : St} {H : Hp} {Q : VK} (h : ∀ m : Int, Q (.int m) H) : if c = true then tC (.int i) σ H Q else tC (.int j) σ H Q := by
  cases c
  · exact h j
  · exact h i
theorem ok_law {Pt : Addr} (F : FunAt K mg "law" sLaw) (T : Txt K mg C) {fI : Addr} {fdI : FuncData} (M : Mk K C fI) (GI : FnOk P w K mg base CX0 1 fI fdI ["self", "seal", "depth"] (spTI C)) (bI : Binds K fdI ["self", "seal", "depth"] [])
    (Fsb : FnP P w K mg base 2 "_law_seal_by" ["_law_script"] (spSealBy K mg Pt)) (Fc : FnP P w K mg base 1 "_law_cell_at" ["_law_script", "_law_k"] (spCell K)) (Fd : FnP P w K mg base 1 "_law_draw" ["_law_cell", "_law_k", "_law_many"] spDraw)
    (Mp : MtP P w K mg base C 3 "put" ["self", "key", "value"] (spPut C)) (Mw : MtP P w K mg base C 20 "way" ["self", "key"] (spTWay K mg C)) (Fw : FnP P w K mg base 20 "_law_way" ["_law_seal", "_law_rows", "_law_depth", "_law_key"] (spLWay K mg))
    (ml : mg "len" = none) (mli : mg "list" = none) (mr : mg "range" = none) (mt : mg "tuple" = none) (mi : mg "isinstance" = none) (ms : mg "str" = none) (mso : mg "sorted" = none) : FnP P w K mg base 100 "law" ["_law_script"] (spLaw K mg Pt) := by
  refine F.ok scL (fun _ _ _ _ _ _ us hl => match us, hl with | [_], _ => rfl) (fun vs H Q E h => ?_) (fun f0 cdv A outer s H vs Q E hr h => ?_)
  · obtain ⟨a, ns, rfl, _⟩ := h; rfl
  obtain ⟨a, ns, rfl, hq, h63, hP, q⟩ := h
  have nd := scL.nd
  have hu := hu_of hr
  obtain ⟨tr, htr, hrest⟩ := rest_ok (P := P) (w := w) (base := base) (outer := outer) (H := H) (E := E) (C := C) hr T Mw Fw ml mli mt mi q
  obtain ⟨tb, htb, hbody⟩ := body_ok (P := P) (w := w) (base := base) (outer := outer) (H := H) (E := E) (C := C) hr T Fd Mp ml ms
  refine' ⟨_, pss_cons (ps_set (i := 1) nd rfl (Or.inl rfl) (pe_callN Fsb (hr.mono (by omega)) rfl (pa_cons (pv 0) pa_nil))) <|
    pss_cons (ps_set (i := 2) nd rfl (Or.inl rfl) (pe_op op_add pe_int (pe_op op_mod (pe_callN Fc (hr.mono (by omega)) rfl (pa_cons (pv 0) (pa_cons pe_int pa_nil))) pe_int))) <|
    pss_cons (ps_set (i := 3) nd rfl (Or.inl rfl) (pe_make M GI (hr.mono (by omega)) rfl T.mgC bI .nil pass0 (pa_cons (pv 1) (pa_cons (pv 2) pa_nil)))) <|
    pss_cons (ps_set (i := 4) nd rfl (Or.inr rfl) pe_dnewK) <|
    pss_cons (ps_set (i := 5) nd rfl (Or.inl rfl) (pe_ifExp (pt_cmpR op_eq (pe_op op_mod (pe_op op_fdiv (pe_callN Fc (hr.mono (by omega)) rfl (pa_cons (pv 0) (pa_cons pe_int pa_nil))) pe_int) pe_int) pe_int (nomark _)) pe_int pe_int)) <|
    pss_cons (ps_set (i := 6) nd rfl (Or.inl rfl) (pe_lst (pa_cons pe_int (pa_cons (pe_op op_sub (pe_op op_shl pe_int (pv 2)) pe_int) pa_nil)))) <|
    pss_cons (ps_for PassesOwn.never rfl (pi_range1 rfl mr (pa_cons (pe_callB call_len_seq rfl ml PySem.boot_len (pa_cons (pv 0) pa_nil)) pa_nil)) (pg_name (i := 7) nd rfl (Or.inl rfl)) <|
      pss_cons (ps_set (i := 8) nd rfl (Or.inl rfl) (pe_op op_add (pe_ix ix_list (pv 0) (pv 7) (fun _ _ => rfl)) (pe_op op_mul pe_int (pv 7)))) <|
      pss_cons (ps_set (i := 9) nd rfl (Or.inl rfl) (pe_ifExp (pt_cmpR op_gt (pe_callN Fd (hr.mono (by omega)) rfl (pa_cons (pv 8) (pa_cons pe_int (pa_cons pe_int pa_nil)))) pe_int (nomark _))
        (pe_callN Fd (hr.mono (by omega)) rfl (pa_cons (pv 8) (pa_cons pe_int (pa_cons (pe_op op_shl pe_int (pv 2)) pa_nil))))
        (pe_op op_xor (pe_ix ix_list (pv 6) (pe_callN Fd (hr.mono (by omega)) rfl (pa_cons (pv 8) (pa_cons pe_int (pa_cons (pe_callB call_len_seq rfl ml PySem.boot_len (pa_cons (pv 6) pa_nil)) pa_nil)))) (fun _ _ => rfl)) pe_int))) <|
      htb) <|
    pss_cons (ps_setComp (iz := 10) (ys := ["_law_held"]) (js := [4]) ?ok (pi_list (pe_callB (call_sortedD rfl) rfl mso PyProof.Rows.boot_sorted (pa_cons (pv 4) pa_nil))) (fun _ _ _ => pts_nil) ?he nd rfl (Or.inl rfl) (Or.inl rfl) rfl) <|
    pss_cons (ps_set (i := 6) nd rfl (Or.inl rfl) (pe_ifExp (pt_cmpR op_gt (pv 5) pe_int (nomark _))
      (pe_op op_cat (pe_slice sl_list (pv 6) po_none (po_some pe_int)) (pe_slice sl_list (pv 6) (po_some (pe_op op_sub (pe_callB call_len_seq rfl ml PySem.boot_len (pa_cons (pv 6) pa_nil)) pe_int)) po_none)) (pv 6))) <|
    htr, ?rd⟩
  case ok =>
    refine ⟨rfl, rfl, rfl, by decide +kernel, by decide +kernel, rfl, by decide +kernel, fun _ _ h => h, rfl, fun i y h => ?_, rfl⟩
    match i, h with
    | 0, h => simp at h; subst h; exact ⟨4, rfl, rfl, rfl, rfl⟩
    | i + 1, h => simp at h
  case he =>
    exact fun _ _ _ => pe_tup (pa_cons (pv 0) (pa_cons (pe_dget hu (pv 1) (pv 0) (fun _ _ => rfl)) pa_nil))
  case rd =>
  refine ⟨_, rfl, a, ns, rfl, hq.sq, hP, fun S f H1 hS hc hk1 => ?_⟩
  have hq1 : SqF K H1 a (ns.map V.int) := by
    rcases hq with ⟨o, h⟩ | h
    · exact .inl ⟨o, hk1 _ _ h (by rintro rfl; rw [hP] at h; cases h)⟩
    · exact .inr h
  refine ⟨_, rfl, a, ns, 0, rfl, hq1.sq, by omega, fun v0 => ⟨_, _, rfl, rfl, (by show (0 : Int) < 16; decide), _, _, rfl, rfl, ?_⟩⟩
  obtain ⟨D, eD, D1, D16⟩ : ∃ D : Nat, (1 : Int) + v0 % 16 = (D : Int) ∧ 1 ≤ D ∧ D ≤ 16 := ⟨(1 + v0 % 16).toNat, by omega, by omega, by omega⟩
  dsimp only
  rw [eD]
  -- the table
  refine ⟨_, rfl, _, rfl, fun x dx nx ndx nex => ⟨x, dx, f, D, rfl, upd_same, fun d H3 nd3 T3 k3 => ⟨rfl, ?_⟩⟩⟩
  have all3 : ∀ b o, H1 b = some o → H3 b = some o := fun b o h => k3 b o (by rw [upd_ne (ne_of_none h nx), upd_ne (ne_of_none h ndx)]; exact h) (ne_of_none h nx)
  have g3 : Gr S 0 H1 H3 := gr_ext hS.told all3
  -- held, most, keys
  intro hd hhd
  have g4 : Gr S 0 H3 (upd H3 hd (.dK [])) := .new g3.gn.told2 hhd
  have ned : hd ≠ d := Ne.symm (ne_of_none T3.2 hhd)
  have hq4 := (hq1.up g3.gn).up g4.gn
  refine ⟨_, rfl, a, ns, 0, rfl, hq4.sq, by omega, fun v1 => ⟨_, _, rfl, rfl, ⟨by decide, by decide⟩, _, _, rfl, rfl, (by show (0 : Int) < 5; decide), rfl, _, rfl, if_two fun most => ?_⟩⟩
  refine ⟨_, rfl, _, _, rfl, rfl, ⟨by omega, by omega, by decide⟩, _, _, rfl, rfl, (by show 2 ≤ sizeLine; decide), fun aK hK => ?_⟩
  have e1D : (1 : Int) * 2 ^ ((D : Nat) : Int).toNat = 2 ^ D := by rw [Int.one_mul]; rfl
  rw [e1D]
  have hpD := Nat.one_le_two_pow (n := D)
  have hpD' : (0 : Int) < 2 ^ D := by rw [PyProof.Rows.two_pow_cast]; omega
  have g5 : Gr S 0 _ (upd (upd H3 hd (.dK [])) aK (.lst [V.int 0, V.int (2 ^ D - 1)])) := .new g4.gn.told2 hK
  have h5 : Held K mg C S a f x d hd aK ns D [] [0, 2 ^ D - 1] 9900000 (upd (upd H3 hd (.dK [])) aK (.lst [V.int 0, V.int (2 ^ D - 1)])) := by
    have G := (g3.trans g4).trans g5
    refine ⟨hS.up G.gn, hc.go G.gn (by omega), (T3.up g4).up g5, g5.same upd_same (fun _ e => nomatch e), upd_same, hq1.up G.gn, .nil, fun k hk => ?_, ned⟩
    rcases List.mem_cons.mp hk with z | z
    · subst z; exact ⟨by omega, hpD'⟩
    · rw [List.mem_singleton.mp z]; constructor <;> omega
  -- the table is filled
  refine ⟨_, rfl, a, _, rfl, .inl h5.sc.sq, _, rfl, by omega, by rw [List.length_map]; omega, ?_⟩
  rw [show (((ns.map V.int).length : Nat) : Int).toNat = ns.length by simp]
  refine for_range (n := ns.length) (fun i σ H' => ∃ kvs ks, Held K mg C S a f x d hd aK ns D kvs ks 9900000 H' ∧ kvs.length ≤ i ∧ ks.length = i + 2 ∧ ∃ o7 o8 o9, σ = [some (.ref a), some (.ref f), some (.int D), some (.ref x), some (.ref hd), some (.int most), some (.ref aK), o7, o8, o9, none, none])
    ⟨[], _, h5, by simp, rfl, none, none, none, rfl⟩ ?_ ?_
  · rintro i σ H' hi ⟨kvs, ks, h, hkv, hkl, o7, o8, o9, rfl⟩
    have e0 : (0 : Int) + (i : Int) = (i : Int) := by omega
    have eat : atI (ns.map V.int) ((i : Nat) : Int) = some (.int ns[i]) := atI_nat (by rw [List.getElem?_map, List.getElem?_eq_getElem hi]; rfl)
    refine ⟨_, rfl, _, rfl, a, _, _, _, rfl, rfl, h.sc.sq, by rw [e0]; exact eat, _, rfl, _, _, rfl, rfl, .inl ⟨by decide, by decide⟩, _, _, rfl, rfl, ?_⟩
    dsimp only
    generalize ns[i] + 977 * (0 + (i : Int)) = cell
    have nxt : ∀ (DD : Ends) (kk : Int) (H2 : Hp), (∀ σ H8, (∃ kvs ks, Held K mg C S a f x d hd aK ns D kvs ks 9900000 H8 ∧ kvs.length ≤ i + 1 ∧ ks.length = i + 1 + 2 ∧ ∃ o7 o8 o9, σ = [some (.ref a), some (.ref f), some (.int D), some (.ref x), some (.ref hd), some (.int most), some (.ref aK), o7, o8, o9, none, none]) → DD.nx σ H8) →
        Gr S 0 H' H2 → 0 ≤ kk → kk < 2 ^ D → tb DD [some (.ref a), some (.ref f), some (.int D), some (.ref x), some (.ref hd), some (.int most), some (.ref aK), some (.int (0 + (i : Int))), some (.int cell), some (.int kk), none, none] H2 := fun DD kk H2 hD g k0 k1 =>
      hbody DD S a f x d hd aK ns D kvs ks 9900000 H2 most cell kk _ _ _ (h.go g (by omega)) (by omega) (by omega) k0 k1 fun H8 kvs' hl h8 => hD _ _ ⟨kvs', ks ++ [kk], h8, by omega, by simp; omega, _, _, _, rfl⟩
    refine ⟨_, rfl, cell, 1, 3, rfl, by decide, by decide, fun v2 H2 _ _ x2 => ⟨_, _, rfl, rfl, _, rfl, ?_⟩⟩
    have g2 : Gr S 0 H' H2 := gr_ext h.sl.told x2
    have h2 := h.go (b := 9900000) g2 (by omega)
    refine ite2 (fun _ => ?_) (fun _ => ?_)
    · refine ⟨_, rfl, _, rfl, _, _, rfl, rfl, ⟨by omega, by omega, by decide⟩, cell, 0, _, rfl, by omega, by rw [e1D]; exact hpD', fun v3 H3 l3 u3 x3 => ?_⟩
      rw [e1D] at u3
      exact nxt _ v3 H3 (fun _ _ h => h) ((g2.trans (gr_ext g2.gn.told2 x3)).up (by omega)) l3 u3
    · refine ⟨_, rfl, _, rfl, _, rfl, aK, _, rfl, .inl (SqL.of h2.ky), cell, 2, _, rfl, by omega, by rw [List.length_map]; omega, fun v3 H3 l3 u3 x3 => ?_⟩
      rw [List.length_map] at u3
      have g3 := gr_ext g2.gn.told2 x3
      have h3 := h2.go (b := 9900000) g3 (by omega)
      have hv : v3.toNat < ks.length := by omega
      have ek : atI (ks.map V.int) v3 = some (.int ks[v3.toNat]) := by
        have z : atI (ks.map V.int) ((v3.toNat : Nat) : Int) = some (.int ks[v3.toNat]) := atI_nat (by rw [List.getElem?_map, List.getElem?_eq_getElem hv]; rfl)
        rw [show ((v3.toNat : Nat) : Int) = v3 by omega] at z
        exact z
      obtain ⟨r0, r1⟩ := h3.kr _ (List.getElem_mem hv)
      obtain ⟨x0, x1⟩ := xor1 D1 r0 r1
      exact ⟨aK, _, v3, _, rfl, rfl, SqL.of h3.ky, ek, _, _, rfl, rfl, nxt _ _ H3 (fun _ _ h => h) ((g2.trans g3).up (by omega)) x0 x1⟩
  · rintro σ H' ⟨kvs, ks, h, hkv, hkl, o7, o8, o9, rfl⟩
    -- the rows of the law
    refine ⟨_, rfl, hd, kvs, rfl, h.hl, h.rw.ints, by omega, fun l lk nl pm pw => ⟨l, rfl, ⟨_, SqL.of upd_same⟩, fun DD hDD => ?_⟩⟩
    have srt := srt_of h.rw pm pw
    have g6 : Gr S 0 H' (upd H' l (.lst (lk.map V.int))) := .new h.sl.told nl
    have h6 := h.go (b := 9900000) g6 (by omega)
    have llk : lk.length = kvs.length := by have := pm.length_eq; simpa using this
    refine ⟨fun i m ys H2 => m = lk.length - i ∧ i ≤ lk.length ∧ H2 DD = some (.lst ys) ∧ Gr S 0 (upd H' l (.lst (lk.map V.int))) H2 ∧ RowsAt H2 ((lk.take i).map fun k => (k, sVal kvs k)) ys,
      ⟨lk.length, by simp, by omega, upd_same, Gr.new h6.sl.told hDD, .nil⟩, ?_⟩
    rintro i m ys H2 ⟨rfl, hi, hD2, g, ry⟩
    have hl2 := g.lst (show upd H' l (.lst (lk.map V.int)) l = some (.lst (lk.map V.int)) from upd_same)
    have ylen := pr_len ry
    rw [List.length_map, List.length_take] at ylen
    by_cases hlt : i < lk.length
    · refine .inr ⟨⟨_, V.int lk[i], SqL.of hl2, by simp [hlt]⟩, fun y H3 ⟨e3, hx⟩ => ?_⟩
      subst e3
      have ex : y = V.int lk[i] := by
        have z := hx _ (SqL.of hl2)
        simp [hlt] at z
        exact z.symm
      subst ex
      refine iteT ?_
      have hh := (h6.go (b := 9900000) g (by omega)).hl
      have ev := sVal_eq h.rw (key_mem h.rw pm (List.getElem_mem hlt))
      refine ⟨_, rfl, _, rfl, _, rfl, hd, .str (sVal kvs lk[i]), rfl, ?_, (by show 2 ≤ sizeLine; decide), fun p hp => ?_⟩
      · have z := DGet.k (H := H3) (a := hd) (k := .inl lk[i]) hh
        rw [ev] at z; exact z
      have g7 : Gr S 0 H3 (upd H3 p (.tup [.int lk[i], .str (sVal kvs lk[i])])) := .new g.gn.told2 hp
      have hD7 := g7.lst hD2
      have g8 : Gn S 0 _ (upd (upd H3 p (.tup [.int lk[i], .str (sVal kvs lk[i])])) DD (.lst (ys ++ [.ref p]))) := Gn.chg g7.gn.told2 hD7 rfl (fun _ e => nomatch e)
      refine ⟨hD7, by rw [sizeLine_eq]; omega, lk.length - (i + 1), by omega, rfl, by omega, upd_same, ((g.trans g7).up (by omega)).own hDD, ?_⟩
      rw [List.take_succ, List.getElem?_eq_getElem hlt, List.map_append]
      exact RowsAt.up (pr_snoc (RowsAt.up ry g7.gn) ⟨p, rfl, upd_same⟩) g8
    have e : i = lk.length := by omega
    subst e
    refine .inl ⟨⟨_, SqL.of hl2, by simp⟩, ?_⟩
    rw [List.take_length] at ry
    have h7 := h6.go (b := 9900000) g (by omega)
    have H2h : Held2 K mg C S f x d DD D kvs (lk.map fun k => (k, sVal kvs k)) ys 9000000 H2 := ⟨h7.sl, h7.cap.dn (by omega), h7.tb, hD2, ry⟩
    -- the keys that are asked for
    refine ⟨_, rfl, _, _, rfl, rfl, _, rfl, ?_⟩
    refine ite2 (fun _ => ?_) (fun _ => ?_)
    · refine ⟨_, rfl, _, rfl, aK, _, rfl, SqL.of h7.ky, fun p1 hp1 => ?_⟩
      have g8 : Gr S 0 H2 (upd H2 p1 (.lst (cutV (ks.map V.int) none (some 8)))) := .new h7.sl.told hp1
      have ky8 := g8.lst h7.ky
      refine ⟨_, rfl, _, rfl, aK, _, rfl, .inl (SqL.of ky8), _, _, rfl, rfl, _, rfl, aK, _, rfl, SqL.of ky8, fun p2 hp2 => ?_⟩
      have g9 : Gr S 0 _ (upd (upd H2 p1 (.lst (cutV (ks.map V.int) none (some 8)))) p2 (.lst (cutV (ks.map V.int) (some (((ks.map V.int).length : Int) - 8)) none))) := .new g8.gn.told2 hp2
      have c1 := cutV_length (ks.map V.int) none (some 8)
      have c2 := cutV_length (ks.map V.int) (some (((ks.map V.int).length : Int) - 8)) none
      have lm : (ks.map V.int).length = ks.length := List.length_map _
      refine ⟨p1, p2, _, _, rfl, rfl, g9.lst upd_same, upd_same, by rw [sizeLine_eq]; omega, fun p3 hp3 => ?_⟩
      have g10 : Gr S 0 _ (upd (upd (upd H2 p1 (.lst (cutV (ks.map V.int) none (some 8)))) p2 (.lst (cutV (ks.map V.int) (some (((ks.map V.int).length : Int) - 8)) none))) p3 (.lst (cutV (ks.map V.int) none (some 8) ++ cutV (ks.map V.int) (some (((ks.map V.int).length : Int) - 8)) none))) := .new g9.gn.told2 hp3
      obtain ⟨ks', ek, hks⟩ : ∃ ks' : List Int, cutV (ks.map V.int) none (some 8) ++ cutV (ks.map V.int) (some (((ks.map V.int).length : Int) - 8)) none = ks'.map V.int ∧ ∀ k ∈ ks', k ∈ ks := by
        have gen : ∀ L : List V, (∀ v ∈ L, v ∈ ks.map V.int) → ∃ ks' : List Int, L = ks'.map V.int ∧ ∀ k ∈ ks', k ∈ ks := by
          intro L
          induction L with
          | nil => intro _; exact ⟨[], rfl, by simp⟩
          | cons v r ih =>
            intro hL
            obtain ⟨k, hk, e⟩ := List.mem_map.mp (hL v (by simp))
            obtain ⟨ks', e2, h2⟩ := ih fun u hu => hL u (by simp [hu])
            refine ⟨k :: ks', by rw [e2, List.map_cons, e], fun j hj => ?_⟩
            rcases List.mem_cons.mp hj with z | z
            · rw [z]; exact hk
            · exact h2 j z
        refine gen _ fun v hv => ?_
        rcases List.mem_append.mp hv with z | z
        · exact cutV_mem z
        · exact cutV_mem z
      have lks : ks'.length ≤ 200 := by
        have z := congrArg List.length ek
        have lm2 : (ks'.map V.int).length = ks'.length := List.length_map _
        rw [List.length_append] at z
        omega
      refine hrest S a f x d hd p3 DD D kvs _ ys ks' _ _ _ _ _ _ (((H2h.go (b := 9000000) g8 (by omega)).go (b := 9000000) g9 (by omega)).go g10 (by omega)) h.rw (by omega) srt D1 D16 ?_ lks fun k hk => h.kr k (hks k hk)
      rw [upd_same, ek]
    · exact ⟨_, rfl, hrest S a f x d hd aK DD D kvs _ ys ks _ _ _ _ _ _ H2h h.rw (by omega) srt D1 D16 h7.ky (by omega) h.kr⟩
end
section
variable {P : Program} {w : World} {K : PySem.W.Frag} {mg : Str → Option Value} {base : Heap} {C : Addr}
theorem all_ok {c0 Pt : Addr} (kb : K.In base) (nb : base.Ns mainGlobals mg) (X0 : Ext0 K mg base c0 Pt)
    (F_none : FunAt K mg "none_seal" sNone) (F_ind : FunAt K mg "in_depth" sInD) (F_row : FunAt K mg "row_seal" sRow) (F_fork : FunAt K mg "fork_seal" sFork) (F_part : FunAt K mg "part_of" sPartOf) (F_top : FunAt K mg "top_of_part" sTopPart)
    (F_cell : FunAt K mg "_law_cell_at" sCell) (F_plain : FunAt K mg "_law_plain" sPlain) (F_turned : FunAt K mg "_law_turned" sTurned) (F_numbering : FunAt K mg "_law_numbering" sNumbering) (F_sealby : FunAt K mg "_law_seal_by" sSealBy)
    (F_draw : FunAt K mg "_law_draw" sDraw) (F_lpart : FunAt K mg "_law_part" sLpart) (F_lway : FunAt K mg "_law_way" sLway) (F_law : FunAt K mg "law" sLaw)
    (ml : mg "len" = none) (mli : mg "list" = none) (mr : mg "range" = none) (mt : mg "tuple" = none) (mi : mg "isinstance" = none) (ms : mg "str" = none) (mso : mg "sorted" = none)
    (T : Txt K mg C) (M : ∃ fI, Mk K C fI) (M_init : MethD K C "__init__" "Table.__init__" mInit [8]) (M_check : MethAt K C "check" "Table.check" mCheck) (M_put : MethAt K C "put" "Table.put" mPut) (M_way : MethAt K C "way" "Table.way" mWay) (M_rows : MethAt K C "rows" "Table.rows" mRows) : FnP P w K mg base 100 "law" ["_law_script"] (spLaw K mg Pt) := by
  have Sl := seal_ok (P := P) (w := w) (base := base) (ok_plain F_plain) (ok_turned F_turned) ml
  have Cl := ok_cell (P := P) (w := w) (base := base) F_cell ml
  have Pa := ok_part (P := P) (w := w) (base := base) F_part
  have Tp := ok_topP F_top (ok_none F_none Sl) (ok_row F_row Sl) (ok_fork F_fork Sl) Pa ml
  have TpA : FnP P w K mg base 19 "top_of_part" ["seal", "rows", "bits"] (spTopA K mg) := FnP.any fun b hb => (Tp b).mono (by omega)
  have LpA : FnP P w K mg base 19 "_law_part" ["_law_seal", "_law_rows", "_law_level"] (spTopA K mg) := FnP.any fun b hb => (ok_lpart F_lpart Sl ml b (by omega)).mono (by omega)
  have Ck := ok_chk M_check T (ok_ind (P := P) (w := w) (base := base) F_ind)
  have Rs := ok_rows (P := P) (w := w) (base := base) M_rows T mso
  obtain ⟨fI, M⟩ := M
  obtain ⟨fI', fdI, hm, FI⟩ := M_init
  have e := M.init.symm.trans hm.at_
  cases e
  exact ok_law F_law T M (ok_tinit FI T) (FI.binds fun _ _ _ _ _ _ _ _ us hl => match us, hl with | [_, _, _], _ => ⟨_, rfl, rfl⟩) (ok_sealby F_sealby Cl (ok_numbering F_numbering kb nb X0) F_plain F_turned) Cl (ok_draw F_draw) (ok_put M_put T Ck) (ok_tway M_way T Ck Rs TpA Pa ml) (ok_lway F_lway LpA ml) ml mli mr mt mi ms mso
end
theorem cls_mk {K : PySem.W.Frag} {mg : Str → Option Value} {h : Heap} {C fI : Addr} (X : K.In h) (G : h.Ns mainGlobals mg) (aC : PySem.W.nsIn K mainGlobals "Table" = some (some (.ref C)))
    (pg : PySem.W.plainGet K C Str.empty = true) (hd : PySem.W.hasDictIn K C = true) (po : PySem.W.plainOver K C = true) (sa : PySem.W.findIn K (.ref C) "__setattr__" = some (some (.builtin "object.__setattr__"))) (mk : PySem.W.makesIn K C = true) (kc : PySem.W.keepIn K (.ref C) = true)
    (nS : PySem.W.findIn K (.ref C) "seal" = some none) (nD : PySem.W.findIn K (.ref C) "depth" = some none) (nH : PySem.W.findIn K (.ref C) "held" = some none)
    (aI : PySem.W.findIn K (.ref C) "__init__" = some (some (.ref fI))) (iI : PySem.W.isFn K (.ref fI) = true)
    (M_init : MethD K C "__init__" "Table.__init__" mInit [8]) (M_check : MethAt K C "check" "Table.check" mCheck) (M_put : MethAt K C "put" "Table.put" mPut) (M_way : MethAt K C "way" "Table.way" mWay) (M_rows : MethAt K C "rows" "Table.rows" mRows) :
    ∃ C, Txt K mg C ∧ (∃ fI, Mk K C fI) ∧ MethD K C "__init__" "Table.__init__" mInit [8] ∧ MethAt K C "check" "Table.check" mCheck ∧ MethAt K C "put" "Table.put" mPut ∧ MethAt K C "way" "Table.way" mWay ∧ MethAt K C "rows" "Table.rows" mRows :=
  ⟨C, ⟨⟨pg, hd, po, sa⟩, nS, nD, nH, PySem.W.mg_of X G aC⟩, ⟨fI, mk, aI, iI, kc⟩, M_init, M_check, M_put, M_way, M_rows⟩
end My
open PySem PySem.W PyProof.Rows
set_option maxRecDepth 100000 in
set_option maxHeartbeats 0 in
theorem PySem.Challenge.cw_growbook_k08_ways_holds : PySem.Challenge.rw_growbook_k08_ways.Holds := by
  w_on; o_law; k_head; (case hw => w_witness2)
  k_fill
  refine' L2.walk_ofT (l := PySem.Challenge.rw_growbook_k08_ways) (n := 63) (k := 100) (x := "_law_script") (xn := "_law_numbering") (sp := My.spLaw) rfl (by decide) rfl ⟨rfl, by decide, by decide⟩ (fun w h Y => PySem.W.km_in_of Y) rfl ?ht ?hnt ?F ?S
  case ht =>
    intro w
    refine' L2.tabIn_mk ?a ?l ?c ?lc ?v
    (case a => k_is); (case l => k_is); (case c => exact rfl); (case lc => k_is); (case v => exact rfl)
  case hnt => intro w; kernel_rfl
  case F =>
    intro w mg fa h KX G hmg TB
    have F_none : L2.FunAt (L2.KOf KX) mg "none_seal" My.sNone := by
      dsimp only [L2.KOf]
      refine' L2.funAt_mk KX G ?a ?l ?c ?k
      (case a => k_is); (case l => k_is); (case c => k_is); (case k => k_is)
    have F_ind : L2.FunAt (L2.KOf KX) mg "in_depth" My.sInD := by
      dsimp only [L2.KOf]
      refine' L2.funAt_mk KX G ?a ?l ?c ?k
      (case a => k_is); (case l => k_is); (case c => k_is); (case k => k_is)
    have F_row : L2.FunAt (L2.KOf KX) mg "row_seal" My.sRow := by
      dsimp only [L2.KOf]
      refine' L2.funAt_mk KX G ?a ?l ?c ?k
      (case a => k_is); (case l => k_is); (case c => k_is); (case k => k_is)
    have F_fork : L2.FunAt (L2.KOf KX) mg "fork_seal" My.sFork := by
      dsimp only [L2.KOf]
      refine' L2.funAt_mk KX G ?a ?l ?c ?k
      (case a => k_is); (case l => k_is); (case c => k_is); (case k => k_is)
    have F_part : L2.FunAt (L2.KOf KX) mg "part_of" My.sPartOf := by
      dsimp only [L2.KOf]
      refine' L2.funAt_mk KX G ?a ?l ?c ?k
      (case a => k_is); (case l => k_is); (case c => k_is); (case k => k_is)
    have F_top : L2.FunAt (L2.KOf KX) mg "top_of_part" My.sTopPart := by
      dsimp only [L2.KOf]
      refine' L2.funAt_mk KX G ?a ?l ?c ?k
      (case a => k_is); (case l => k_is); (case c => k_is); (case k => k_is)
    have F_cell : L2.FunAt (L2.KOf KX) mg "_law_cell_at" My.sCell := by
      dsimp only [L2.KOf]
      refine' L2.funAt_mk KX G ?a ?l ?c ?k
      (case a => k_is); (case l => k_is); (case c => k_is); (case k => k_is)
    have F_plain : L2.FunAt (L2.KOf KX) mg "_law_plain" My.sPlain := by
      dsimp only [L2.KOf]
      refine' L2.funAt_mk KX G ?a ?l ?c ?k
      (case a => k_is); (case l => k_is); (case c => k_is); (case k => k_is)
    have F_turned : L2.FunAt (L2.KOf KX) mg "_law_turned" My.sTurned := by
      dsimp only [L2.KOf]
      refine' L2.funAt_mk KX G ?a ?l ?c ?k
      (case a => k_is); (case l => k_is); (case c => k_is); (case k => k_is)
    have F_numbering : L2.FunAt (L2.KOf KX) mg "_law_numbering" My.sNumbering := by
      dsimp only [L2.KOf]
      refine' L2.funAt_mk KX G ?a ?l ?c ?k
      (case a => k_is); (case l => k_is); (case c => k_is); (case k => k_is)
    have F_sealby : L2.FunAt (L2.KOf KX) mg "_law_seal_by" My.sSealBy := by
      dsimp only [L2.KOf]
      refine' L2.funAt_mk KX G ?a ?l ?c ?k
      (case a => k_is); (case l => k_is); (case c => k_is); (case k => k_is)
    have F_draw : L2.FunAt (L2.KOf KX) mg "_law_draw" My.sDraw := by
      dsimp only [L2.KOf]
      refine' L2.funAt_mk KX G ?a ?l ?c ?k
      (case a => k_is); (case l => k_is); (case c => k_is); (case k => k_is)
    have F_lpart : L2.FunAt (L2.KOf KX) mg "_law_part" My.sLpart := by
      dsimp only [L2.KOf]
      refine' L2.funAt_mk KX G ?a ?l ?c ?k
      (case a => k_is); (case l => k_is); (case c => k_is); (case k => k_is)
    have F_lway : L2.FunAt (L2.KOf KX) mg "_law_way" My.sLway := by
      dsimp only [L2.KOf]
      refine' L2.funAt_mk KX G ?a ?l ?c ?k
      (case a => k_is); (case l => k_is); (case c => k_is); (case k => k_is)
    have F_law : L2.FunAt (L2.KOf KX) mg "law" My.sLaw := by
      dsimp only [L2.KOf]
      refine' L2.funAt_mk KX G ?a ?l ?c ?k
      (case a => k_is); (case l => k_is); (case c => k_is); (case k => k_is)
    have z0 : mg "len" = none := by
      refine' PySem.W.mg_none_of KX G ?z
      (case z => k_is)
    have z1 : mg "list" = none := by
      refine' PySem.W.mg_none_of KX G ?z
      (case z => k_is)
    have z2 : mg "range" = none := by
      refine' PySem.W.mg_none_of KX G ?z
      (case z => k_is)
    have z3 : mg "tuple" = none := by
      refine' PySem.W.mg_none_of KX G ?z
      (case z => k_is)
    have z4 : mg "isinstance" = none := by
      refine' PySem.W.mg_none_of KX G ?z
      (case z => k_is)
    have z5 : mg "str" = none := by
      refine' PySem.W.mg_none_of KX G ?z
      (case z => k_is)
    have z6 : mg "sorted" = none := by
      refine' PySem.W.mg_none_of KX G ?z
      (case z => k_is)
    obtain ⟨C, TX, MK, M_init, M_check, M_put, M_way, M_rows⟩ : ∃ C, My.Txt (L2.KOf KX) mg C ∧ (∃ fI, L2.Mk (L2.KOf KX) C fI) ∧ L2.MethD (L2.KOf KX) C "__init__" "Table.__init__" My.mInit [8] ∧ L2.MethAt (L2.KOf KX) C "check" "Table.check" My.mCheck ∧ L2.MethAt (L2.KOf KX) C "put" "Table.put" My.mPut ∧ L2.MethAt (L2.KOf KX) C "way" "Table.way" My.mWay ∧ L2.MethAt (L2.KOf KX) C "rows" "Table.rows" My.mRows := by
      dsimp only [L2.KOf]
      refine' My.cls_mk KX G ?aC ?pg ?hd ?po ?sa ?mk ?kc ?n0 ?n1 ?n2 ?aI ?iI ?m0 ?m1 ?m2 ?m3 ?m4
      (case aC => k_is); (case pg => k_is); (case hd => k_is); (case po => k_is); (case sa => k_is); (case mk => k_is); (case kc => k_is); (case n0 => k_is); (case n1 => k_is); (case n2 => k_is); (case aI => k_is); (case iI => k_is)
      case m0 =>
        refine' L2.methD_mk ?a ?i ?l ?c ?k ?t
        (case a => k_is); (case i => k_is); (case l => k_is); (case c => k_is); (case k => k_is); (case t => k_is)
      case m1 =>
        refine' L2.methAt_mk ?a ?i ?l ?c ?k
        (case a => k_is); (case i => k_is); (case l => k_is); (case c => k_is); (case k => k_is)
      case m2 =>
        refine' L2.methAt_mk ?a ?i ?l ?c ?k
        (case a => k_is); (case i => k_is); (case l => k_is); (case c => k_is); (case k => k_is)
      case m3 =>
        refine' L2.methAt_mk ?a ?i ?l ?c ?k
        (case a => k_is); (case i => k_is); (case l => k_is); (case c => k_is); (case k => k_is)
      case m4 =>
        refine' L2.methAt_mk ?a ?i ?l ?c ?k
        (case a => k_is); (case i => k_is); (case l => k_is); (case c => k_is); (case k => k_is)
    obtain ⟨fd, hb, hF⟩ := L2.law_fn (x := "_law_script") (ps := ["_law_script"]) hmg F_law (fun base kb nb hC hB => My.all_ok (P := PySem.Challenge.rw_growbook_k08_ways.prog) (w := w) (base := base) kb nb ⟨hC, hB, TB⟩ F_none F_ind F_row F_fork F_part F_top F_cell F_plain F_turned F_numbering F_sealby F_draw F_lpart F_lway F_law z0 z1 z2 z3 z4 z5 z6 TX MK M_init M_check M_put M_way M_rows)
    exact ⟨fd, hb, hF⟩
  case S =>
    intro K mg Pt H a ns hl hS hScr hP
    exact ⟨a, ns, rfl, My.sqF_of hS hScr, hl, hP, fun _ => rfl⟩
#print axioms PySem.Challenge.cw_growbook_k08_ways_holds
