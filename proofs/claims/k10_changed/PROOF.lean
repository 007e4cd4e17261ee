import PyProof.Rows.All
import Wide.All
import OpenK.AllK
import Wide.FinOn
import Lean
import PyProof.EqAt
import PyProof.EqKinds
import PyProof.TupleCall
import PySem.Challenge.RW_growbook_k10_changed
set_option Elab.async false
set_option linter.all false
set_option maxRecDepth 100000
set_option maxHeartbeats 4000000
namespace L2
open PySem PySem.Spec PyProof.Rows
abbrev Key := Sum Int Str
def keyIs : Key → Value → Bool
  | .inl k, v => Value.isInt k v
  | .inr x, v => Value.isStrOf x v
def keyH (w : World) : Key → Int
  | .inl k => hashInt k
  | .inr x => hashStr w x
theorem keyIs_shape : ∀ {k : Key} {v : Value}, keyIs k v = true → (∃ i t, k = Sum.inl i ∧ v = Value.int i t) ∨ (∃ x t, k = Sum.inr x ∧ v = Value.str x t)
  | .inl i, v, h => by
    obtain ⟨t, e⟩ := Value.isInt_shape (k := i) (v := v) h
    exact .inl ⟨i, t, rfl, e⟩
  | .inr x, v, h => by
    obtain ⟨t, e⟩ := Value.isStrOf_shape (x := x) (v := v) h
    exact .inr ⟨x, t, rfl, e⟩
theorem keyIs_int (i : Int) (t : Tok) : keyIs (.inl i) (.int i t) = true := by simp [keyIs, Value.isInt]
theorem keyIs_str (x : Str) (t : Tok) : keyIs (.inr x) (.str x t) = true := by simp [keyIs, Value.isStrOf]
theorem key_ll (a b : Int) : decide ((Sum.inl a : Key) = Sum.inl b) = (a == b) := by
  by_cases e : a = b
  · subst e; simp
  · have h : ¬ (Sum.inl a : Key) = Sum.inl b := fun q => e (Sum.inl.inj q)
    rw [decide_eq_false h]
    exact (beq_eq_false_iff_ne.mpr e).symm
theorem key_rr (a b : Str) : decide ((Sum.inr a : Key) = Sum.inr b) = decide (a = b) := by
  by_cases e : a = b
  · subst e; simp
  · have h : ¬ (Sum.inr a : Key) = Sum.inr b := fun q => e (Sum.inr.inj q)
    rw [decide_eq_false h, decide_eq_false e]
theorem key_lr (a : Int) (b : Str) : decide ((Sum.inl a : Key) = Sum.inr b) = false := decide_eq_false (fun q => nomatch q)
theorem key_rl (a : Str) (b : Int) : decide ((Sum.inr a : Key) = Sum.inl b) = false := decide_eq_false (fun q => nomatch q)
def mixKind (prog : Program) (w : World) : PySem.KeyKind prog w Key where
  is := keyIs
  hash := keyH w
  inj := fun v a b ha hb => by
    rcases keyIs_shape ha with ⟨i, t, rfl, rfl⟩ | ⟨x, t, rfl, rfl⟩
    · rcases keyIs_shape hb with ⟨j, u, rfl, e⟩ | ⟨y, u, rfl, e⟩
      · injection e with e1 _; rw [e1]
      · exact nomatch e
    · rcases keyIs_shape hb with ⟨j, u, rfl, e⟩ | ⟨y, u, rfl, e⟩
      · exact nomatch e
      · injection e with e1 _; rw [e1]
  byValue := fun k v h => by
    rcases keyIs_shape h with ⟨i, t, rfl, rfl⟩ | ⟨x, t, rfl, rfl⟩ <;> rfl
  pyHash := fun hv h => by
    rcases keyIs_shape hv with ⟨i, t, rfl, rfl⟩ | ⟨x, t, rfl, rfl⟩
    · exact wpAny_pyHash_int h
    · exact wpAny_pyHash_str h
  eqBool := fun hu hv h => by
    rcases keyIs_shape hu with ⟨i, t, rfl, rfl⟩ | ⟨x, t, rfl, rfl⟩
    · rcases keyIs_shape hv with ⟨j, u, rfl, rfl⟩ | ⟨y, u, rfl, rfl⟩
      · rw [key_ll] at h; exact wpAny_eqBool_int h
      · rw [key_lr] at h; exact SeqAt.EqAt.int_str i t y u _ _ _ _ h
    · rcases keyIs_shape hv with ⟨j, u, rfl, rfl⟩ | ⟨y, u, rfl, rfl⟩
      · rw [key_rl] at h; exact SeqAt.EqAt.str_int x t j u _ _ _ _ h
      · rw [key_rr] at h; exact wpAny_eqBool_str h
  «strs» := fun k x t v h => by
    rcases keyIs_shape h with ⟨i, u, rfl, e⟩ | ⟨y, u, rfl, e⟩
    · exact nomatch e
    · injection e with e1 _
      subst e1
      cases v <;> rfl
theorem mixKind_is (prog : Program) (w : World) (k : Key) (v : Value) : (mixKind prog w).is k v = keyIs k v := rfl
theorem mixKind_int (prog : Program) (w : World) (i : Int) (t : Tok) : (mixKind prog w).is (.inl i) (.int i t) = true := keyIs_int i t
theorem mixKind_str (prog : Program) (w : World) (x : Str) (t : Tok) : (mixKind prog w).is (.inr x) (.str x t) = true := keyIs_str x t
end L2
namespace L2
open PySem PySem.Spec PyProof.Rows
inductive V where
  | non | bl (b : Bool) | int (i : Int) | str (x : Str) | byt (b : Array UInt8) | flt (b : UInt64) | ref (a : Addr) | ty (n : String)
  deriving DecidableEq
def RelV : V → Value → Prop
  | .non, u => u = Value.none
  | .bl b, u => u = Value.bool b
  | .int i, u => ∃ t, u = Value.int i t
  | .str x, u => ∃ t, u = Value.str x t
  | .byt b, u => ∃ t, u = Value.bytes b t
  | .flt b, u => ∃ t, u = Value.float b t
  | .ref a, u => u = Value.ref a
  | .ty n, u => u = Value.type n
abbrev Vals : List V → List Value → Prop := Paired RelV
theorem Vals.length {xs : List V} {us : List Value} (r : Vals xs us) : xs.length = us.length := Paired.length r
theorem Vals.get : ∀ {xs : List V} {us : List Value} {i : Nat} {x : V}, Vals xs us → xs[i]? = some x → ∃ u, us[i]? = some u ∧ RelV x u
  | _, _, _, _, .nil, e => by simp at e
  | _, _, 0, _, .cons r _, e => by simp at e; subst e; exact ⟨_, rfl, r⟩
  | _, _, i + 1, x, .cons _ t, e => by
    obtain ⟨u, h1, h2⟩ := Vals.get (i := i) (x := x) t (by simpa using e)
    exact ⟨u, by simpa using h1, h2⟩
theorem Vals.set {x : V} {u : Value} (r : RelV x u) : ∀ {xs : List V} {us : List Value} (i : Nat), Vals xs us → Vals (xs.set i x) (us.set i u)
  | _, _, _, .nil => .nil
  | _, _, 0, .cons _ t => .cons r t
  | _, _, i + 1, .cons q t => .cons q (Vals.set r i t)
theorem Vals.append : ∀ {xs ys : List V} {us ws : List Value}, Vals xs us → Vals ys ws → Vals (xs ++ ys) (us ++ ws)
  | _, _, _, _, .nil, s => s
  | _, _, _, _, .cons r t, s => .cons r (Vals.append t s)
theorem Vals.take : ∀ {xs : List V} {us : List Value} (n : Nat), Vals xs us → Vals (xs.take n) (us.take n)
  | _, _, 0, _ => .nil
  | _, _, _ + 1, .nil => .nil
  | _, _, n + 1, .cons r t => .cons r (Vals.take n t)
theorem Vals.drop : ∀ {xs : List V} {us : List Value} (n : Nat), Vals xs us → Vals (xs.drop n) (us.drop n)
  | _, _, 0, r => r
  | _, _, _ + 1, .nil => .nil
  | _, _, n + 1, .cons _ t => Vals.drop n t
def RelO : Option V → Option Value → Prop
  | some v, some u => RelV v u
  | none, none => True
  | _, _ => False
def KV {κ : Type} : List (κ × V) → List (κ × Value) → Prop := Paired fun (p : κ × V) (q : κ × Value) => p.1 = q.1 ∧ RelV p.2 q.2
def kV : Key → V
  | .inl i => .int i
  | .inr x => .str x
inductive HO where
    | lst (xs : List V)
    | tup (xs : List V)
    | dK (kvs : List (Key × V)) | dT (kvs : List (List Key × V))
    | set (S : Int → Bool) (n : Nat)
    | ins (C dx : Addr) (fs : List (Str × V))
    | own (x : Addr)
    | xd (fs : List (Str × V))
    | met (f x : Addr)
    | rng (lo hi : Int)
    | frz (o : Obj) (u : HO)
    | tbl (ps : Array Value)
    | ext (φ : Heap → Prop)
abbrev Hp := Addr → Option HO
def upd (H : Hp) (a : Addr) (o : HO) : Hp := fun b => if b = a then some o else H b
theorem upd_same {H : Hp} {a : Addr} {o : HO} : upd H a o a = some o := by unfold upd; rw [if_pos rfl]
theorem upd_ne {H : Hp} {a b : Addr} {o : HO} (h : b ≠ a) : upd H a o b = H b := by unfold upd; rw [if_neg h]
theorem ne_of {H : Hp} {a b : Addr} {o u : HO} (h : H a = some o) (h' : H b = some u) (d : o ≠ u) : a ≠ b := by
  intro e; subst e; rw [h] at h'; exact d (Option.some.inj h')
theorem ne_of_none {H : Hp} {a b : Addr} {o : HO} (h : H a = some o) (h' : H b = none) : a ≠ b := by
  intro e; subst e; rw [h] at h'; cases h'
section
variable (P : Program) (w : World)
def ObjOk (H : Hp) (h : Heap) (a : Addr) : HO → Prop
  | .lst xs => xs.length ≤ sizeLine ∧ ∃ (its : List Value) (n : Nat), Vals xs its ∧ h.get? a = some { cls := .type "list", data := .seq its.toArray n }
  | .tup xs => xs.length ≤ sizeLine ∧ ∃ its : List Value, Vals xs its ∧ IsTup h a its.toArray
  | .dK kvs => kvs.length ≤ sizeLine ∧ (a == sysModules) = false ∧ ∃ vs, KV kvs vs ∧ h.DictOf (mixKind P w) a vs
  | .dT kvs => kvs.length ≤ sizeLine ∧ (a == sysModules) = false ∧ ∃ xs : List (List Key × Addr × Value),
      Paired (fun (p : List Key × V) (q : List Key × Addr × Value) => p.1 = q.1 ∧ H q.2.1 = some (.tup (p.1.map kV)) ∧ RelV p.2 q.2.2) kvs xs ∧
      ∃ o es ep, h.get? a = some o ∧ o.ExactDict ∧ o.data = .dict es ep ∧ es.toList = xs.map (entryOfKey (tupleKind (mixKind P w))) ∧ (xs.map (·.1)).Nodup
  | .set S n => h.SetOf (intKind P w) a S n
  | .ins C dx fs => H dx = some (.own a) ∧ fs.length ≤ 1000 ∧ dx ≠ a ∧ h.get? a = some (PySem.W.instObj C dx) ∧
      ∃ mA, h.Ns1 dx mA ∧ (∀ f, RelO (fs.lookup f) (mA f)) ∧ PySem.Within mA (fs.map (·.1))
  | .own _ => ∃ o, h.get? a = some o
  | .xd fs => ∃ mA, h.Ns1 a mA ∧ ∀ f, RelO (fs.lookup f) (mA f)
  | .rng lo hi => ∃ t u v, h.get? a = some { cls := .type "range", data := .fields #[.int lo t, .int hi u, .int 1 v] }
  | .frz o u => h.get? a = some o ∧ ObjOk H h a u
  | .tbl ps => h.get? a = some { cls := .none, data := .fields ps }
  | .met f x => h.get? a = some (PySem.W.methodObj (.ref f) (.ref x))
  | .ext φ => φ h ∧ (∃ o, h.get? a = some o) ∧ ∀ h1 h2 : Heap, φ h1 → (∀ o, h1.get? a = some o → h2.get? a = some o) → φ h2
def HOk (H : Hp) (h : Heap) : Prop := ∀ a o, H a = some o → ObjOk P w H h a o
end
section
variable {P : Program} {w : World} {H H' : Hp} {h h' : Heap} {a : Addr} {o : HO}
theorem ObjOk.lt (x : ObjOk P w H h a o) : a < h.objs.size := by
  cases o with
  | lst xs => obtain ⟨_, _, _, _, e⟩ := x; exact Heap.lt_size e
  | tup xs => obtain ⟨_, _, _, p⟩ := x; exact p.lt
  | dK kvs => obtain ⟨_, _, _, _, o, _, _, e, _⟩ := x; exact Heap.lt_size e
  | dT kvs => obtain ⟨_, _, _, _, o, _, _, e, _⟩ := x; exact Heap.lt_size e
  | set S n => obtain ⟨o, _, _, _, e, _⟩ := x; exact Heap.lt_size e
  | ins C dx fs => obtain ⟨_, _, _, e, _⟩ := x; exact Heap.lt_size e
  | own y => obtain ⟨_, e⟩ := x; exact Heap.lt_size e
  | xd fs => obtain ⟨_, ⟨_, _, _, e, _⟩, _⟩ := x; exact Heap.lt_size e
  | rng lo hi => obtain ⟨_, _, _, e⟩ := x; exact Heap.lt_size e
  | frz ob u => obtain ⟨e, _⟩ := x; exact Heap.lt_size e
  | tbl ps => exact Heap.lt_size (show h.get? a = some _ from x)
  | met f y => exact Heap.lt_size (show h.get? a = some _ from x)
  | ext φ => obtain ⟨_, ⟨_, e⟩, _⟩ := x; exact Heap.lt_size e
theorem Paired.mapP {α β : Type} {F G : α → β → Prop} : ∀ {l₁ : List α} {l₂ : List β}, Paired F l₁ l₂ → (∀ a b, F a b → G a b) → Paired G l₁ l₂
  | _, _, .nil, _ => .nil
  | _, _, .cons r t, f => .cons (f _ _ r) (Paired.mapP t f)
theorem ObjOk.stay (x : ObjOk P w H h a o) (k : ∀ b u, (b = a ∨ H b = some (.own a)) → h.get? b = some u → h'.get? b = some u)
    (ho : ∀ b, H b = some (.own a) → H' b = some (.own a)) (ht : ∀ b xs, H b = some (.tup xs) → H' b = some (.tup xs)) : ObjOk P w H' h' a o := by
  induction o with
  | lst xs => obtain ⟨z, its, n, r, e⟩ := x; exact ⟨z, its, n, r, k _ _ (.inl rfl) e⟩
  | tup xs => obtain ⟨z, its, r, ob, e, c⟩ := x; exact ⟨z, its, r, ob, k _ _ (.inl rfl) e, c⟩
  | dK kvs => obtain ⟨z, y, vs, r, ob, es, ep, e, c⟩ := x; exact ⟨z, y, vs, r, ob, es, ep, k _ _ (.inl rfl) e, c⟩
  | dT kvs =>
    obtain ⟨z, y, xs, r, ob, es, ep, e, c⟩ := x
    exact ⟨z, y, xs, Paired.mapP r fun p q z => ⟨z.1, ht _ _ z.2.1, z.2.2⟩, ob, es, ep, k _ _ (.inl rfl) e, c⟩
  | set S n => obtain ⟨ob, es, ep, t, e, c⟩ := x; exact ⟨ob, es, ep, t, k _ _ (.inl rfl) e, c⟩
  | ins C dx fs =>
    obtain ⟨d, z, ne, e, mA, ⟨od, es, ep, e2, c⟩, r⟩ := x
    exact ⟨ho _ d, z, ne, k _ _ (.inl rfl) e, mA, ⟨od, es, ep, k _ _ (.inr d) e2, c⟩, r⟩
  | own y => obtain ⟨ob, e⟩ := x; exact ⟨ob, k _ _ (.inl rfl) e⟩
  | xd fs => obtain ⟨mA, ⟨od, es, ep, e, c⟩, r⟩ := x; exact ⟨mA, ⟨od, es, ep, k _ _ (.inl rfl) e, c⟩, r⟩
  | rng lo hi => obtain ⟨t, u, v, e⟩ := x; exact ⟨t, u, v, k _ _ (.inl rfl) e⟩
  | frz ob u ih => obtain ⟨e, q⟩ := x; exact ⟨k _ _ (.inl rfl) e, ih q⟩
  | tbl ps =>
    have e : h.get? a = some { cls := .none, data := .fields ps } := x
    show h'.get? a = some { cls := .none, data := .fields ps }
    exact k a _ (.inl rfl) e
  | met f y =>
    have e : h.get? a = some (PySem.W.methodObj (.ref f) (.ref y)) := x
    show h'.get? a = some (PySem.W.methodObj (.ref f) (.ref y))
    exact k a _ (.inl rfl) e
  | ext φ => obtain ⟨p, ⟨o, e⟩, st⟩ := x; exact ⟨st _ _ p fun o q => k _ _ (.inl rfl) q, ⟨o, k _ _ (.inl rfl) e⟩, st⟩
theorem HOk.lt (x : HOk P w H h) (e : H a = some o) : a < h.objs.size := (x a o e).lt
theorem HOk.fresh (x : HOk P w H h) (e : h.objs.size ≤ a) : H a = none := by
  cases q : H a with
  | none => rfl
  | some u => exact absurd (Nat.lt_of_lt_of_le (x.lt q) e) (Nat.lt_irrefl _)
theorem HOk.kept (x : HOk P w H h) (k : ∀ b u, h.get? b = some u → h'.get? b = some u) : HOk P w H h' := fun a o e =>
  (x a o e).stay (fun b u _ q => k b u q) (fun _ q => q) fun _ _ q => q
theorem HOk.laid (x : HOk P w H h) (k : ∀ b u, h.get? b = some u → h'.get? b = some u) (hp : h.objs.size ≤ a) (new : ObjOk P w (upd H a o) h' a o) : HOk P w (upd H a o) h' := fun b u e => by
  have hn := x.fresh hp
  by_cases hb : b = a
  · subst hb; rw [upd_same] at e; cases e; exact new
  · rw [upd_ne hb] at e
    exact (x b u e).stay (fun c v _ q => k c v q) (fun c q => by rw [upd_ne (ne_of_none q hn)]; exact q) fun c xs q => by rw [upd_ne (ne_of_none q hn)]; exact q
end
def Rd (H : Hp) (a : Addr) (u : HO) : Prop := H a = some u ∨ ∃ o, H a = some (.frz o u)
theorem Rd.ok {P : Program} {w : World} {H : Hp} {h : Heap} {a : Addr} {u : HO} (r : Rd H a u) (x : HOk P w H h) : ObjOk P w H h a u := by
  rcases r with r | ⟨o, r⟩
  · exact x a u r
  · obtain ⟨_, q⟩ := x a _ r
    exact q
def Mut : Option HO → Prop
  | some (.lst _) => True
  | some (.dK _) => True
  | some (.dT _) => True
  | some (.set _ _) => True
  | some (.ins _ _ _) => True
  | some (.ext _) => True
  | _ => False
section
variable {P : Program} {w : World} {H : Hp} {h h' : Heap} {x e : Addr} {o' : HO}
theorem HOk.write (ok : HOk P w H h) (mu : Mut (H x)) (he : e = x ∨ H e = some (.own x)) (k : ∀ b u, b ≠ e → h.get? b = some u → h'.get? b = some u) (heo : ∃ u, h'.get? e = some u)
    (new : ObjOk P w (upd H x o') h' x o') : HOk P w (upd H x o') h' := fun b u q => by
  have nown : ∀ c y, H c = some (.own y) → c ≠ x := fun c y r z => by subst z; rw [r] at mu; exact mu
  have ntup : ∀ c xs, H c = some (.tup xs) → c ≠ x := fun c xs r z => by subst z; rw [r] at mu; exact mu
  by_cases hb : b = x
  · subst hb; rw [upd_same] at q; cases q; exact new
  · rw [upd_ne hb] at q
    by_cases hbe : b = e
    · have q' : H b = some (.own x) := by
        rcases he with z | z
        · exact absurd (hbe.trans z) hb
        · rw [hbe]; exact z
      rw [q] at q'; cases q'
      obtain ⟨v, hv⟩ := heo
      exact ⟨v, by rw [hbe]; exact hv⟩
    · refine (ok b u q).stay (fun c v hc r => k c v ?_ r) (fun c r => by rw [upd_ne (nown c b r)]; exact r) fun c xs r => by rw [upd_ne (ntup c xs r)]; exact r
      rcases hc with rfl | hc
      · exact hbe
      · rintro rfl
        rcases he with z | z
        · exact nown c b hc z
        · rw [hc] at z; cases z; exact hb rfl
end
structure Un (fs ex : List Addr) (H H' : Hp) (h h' : Heap) : Prop where
  keep : ∀ b o, h.get? b = some o → H b = none → b ∉ fs → b ∉ ex → h'.get? b = some o
  slot : ∀ b o, h.get? b = some o → H b = none → b ∈ fs → b ∉ ex → ∃ sl, h'.get? b = some { o with slots := sl }
  free : ∀ b o, h.get? b = some o → H b = none → b ∉ ex → H' b = none
  there : ∀ b o, h.get? b = some o → b ∉ ex → ∃ o', h'.get? b = some o'
  tups : ∀ b xs, H b = some (.tup xs) → H' b = some (.tup xs)
  frzs : ∀ b o u, H b = some (.frz o u) → H' b = some (.frz o u)
  tbls : ∀ b ps, H b = some (.tbl ps) → ∃ more, H' b = some (.tbl (ps ++ more))
section
variable {fs fs' ex ex' : List Addr} {H H1 H2 : Hp} {h h1 h2 h' : Heap} {a x e : Addr} {o : HO}
theorem Un.any (u : Un fs ex H H1 h h1) {b : Addr} {ob : Obj} (q : h.get? b = some ob) (n : H b = none) (hx : b ∉ ex) : ∃ sl, h1.get? b = some { ob with slots := sl } := by
  by_cases hb : b ∈ fs
  · exact u.slot b ob q n hb hx
  · exact ⟨ob.slots, u.keep b ob q n hb hx⟩
theorem Un.kept (k : ∀ b u, h.get? b = some u → h'.get? b = some u) : Un fs ex H H h h' :=
  ⟨fun b ob q _ _ _ => k b ob q, fun b ob q _ _ _ => ⟨ob.slots, k b ob q⟩, fun _ _ _ n _ => n, fun b ob q _ => ⟨ob, k b ob q⟩, fun _ _ q => q, fun _ _ _ q => q, fun _ ps q => ⟨#[], by rw [q]; simp⟩⟩
theorem Un.refl : Un fs ex H H h h := Un.kept fun _ _ q => q
theorem Un.laid (k : ∀ b u, h.get? b = some u → h'.get? b = some u) (hp : h.objs.size ≤ a) (hn : H a = none) : Un fs ex H (upd H a o) h h' where
  keep := fun b u q _ _ _ => k b u q
  slot := fun b u q _ _ _ => ⟨u.slots, k b u q⟩
  free := fun b u q n _ => by rw [upd_ne (Nat.ne_of_lt (Nat.lt_of_lt_of_le (Heap.lt_size q) hp))]; exact n
  there := fun b u q _ => ⟨u, k b u q⟩
  tups := fun b xs q => by rw [upd_ne (ne_of_none q hn)]; exact q
  frzs := fun b u xs q => by rw [upd_ne (ne_of_none q hn)]; exact q
  tbls := fun b ps q => ⟨#[], by rw [upd_ne (ne_of_none q hn), q]; simp⟩
theorem Un.write (mu : Mut (H x)) (he : e = x ∨ H e = some (.own x)) (k : ∀ b u, b ≠ e → h.get? b = some u → h'.get? b = some u) (heo : ∃ u, h'.get? e = some u) : Un fs ex H (upd H x o) h h' := by
  have hx : ∀ b, H b = none → b ≠ x := fun b n z => by subst z; rw [n] at mu; exact mu
  have hb : ∀ b, H b = none → b ≠ e := fun b n z => by
    subst z
    rcases he with r | r
    · exact hx b n r
    · rw [n] at r; cases r
  have hm : ∀ b u, H b = some u → ¬ Mut (some u) → b ≠ x := fun b u q nm z => by subst z; rw [q] at mu; exact nm mu
  refine ⟨fun b u q n _ _ => k b u (hb b n) q, fun b u q n _ _ => ⟨u.slots, k b u (hb b n) q⟩, fun b u q n _ => by rw [upd_ne (hx b n)]; exact n, fun b u q _ => ?_,
    fun b xs q => by rw [upd_ne (hm b _ q fun z => z)]; exact q, fun b u xs q => by rw [upd_ne (hm b _ q fun z => z)]; exact q, fun b ps q => ⟨#[], by rw [upd_ne (hm b _ q fun z => z), q]; simp⟩⟩
  by_cases hbe : b = e
  · subst hbe; exact heo
  · exact ⟨u, k b u hbe q⟩
end
def trk (h : Heap) (H : Hp) : List Addr := (List.range h.objs.size).filter fun a => (H a).isSome
def hidT (h : Heap) (H : Hp) : Heap := PySem.W.hideAll h (trk h H)
theorem hidT_size (h : Heap) (H : Hp) : (hidT h H).objs.size = h.objs.size := PySem.W.hideAll_size _ _
theorem hidT_get {h : Heap} {H : Hp} {b : Addr} {o : Obj} (e : h.get? b = some o) (n : H b = none) : (hidT h H).get? b = some o :=
  PySem.W.hideAll_get _ e fun hm => by
    have q : (H b).isSome = true := (List.mem_filter.mp hm).2
    rw [n] at q; simp at q
theorem of_hidT {h : Heap} {H : Hp} {b : Addr} {o : Obj} (e : (hidT h H).get? b = some o) : h.get? b = some o ∧ H b = none := by
  have e' : h.get? b = some o := PySem.W.of_hideAll (trk h H) e
  refine ⟨e', ?_⟩
  cases q : H b with
  | none => rfl
  | some x =>
    have hm : b ∈ trk h H := List.mem_filter.mpr ⟨List.mem_range.mpr (Heap.lt_size e'), by simp [q]⟩
    have z : (hidT h H).get? b = none := PySem.W.hideAll_none (trk h H) hm
    rw [z] at e; cases e
def allNews (g h : Heap) (L : Addr) : List (Addr × Obj) := (List.range h.objs.size).filterMap fun a => if a = L ∨ (g.get? a).isSome = true then none else (h.get? a).map fun o => (a, o)
def rest (g h : Heap) (L d : Addr) : List (Addr × Obj) := (allNews g h L).filter fun p => decide (p.1 ≠ d)
end L2
namespace L2
open PySem PySem.Spec PyProof.Rows
structure Mod (K : PySem.W.Frag) (mg : Str → Option Value) (base : Heap) : Prop where
  kin : K.In base
  glob : base.Ns mainGlobals mg
  blt : ∃ mb, base.Ns builtinsNs mb ∧ ∀ x : Str, x ≠ "__name__" → mb x = bootBuiltins x
  nolimit : base.NoLimit
structure Cx where
  prog : Program
  w : World
  K : PySem.W.Frag
  mg : Str → Option Value
  base : Heap
  A : Around
  N : List Str
  s₀ : Shared
  H₀ : Hp
  env : Env
  outer : List Env
  stack : List Env
  ex : List Addr
  fn : Str → Bool
  calm : Bool
  pn : List (Addr × Obj)
  xe : Value → Shared → Prop
def frs (l : List Env) : List Addr := l.filterMap (·.frame)
abbrev Cx.fs (X : Cx) : List Addr := frs X.outer
def Vis (sc : Scope) (x : Str) : Prop := sc.names.lookup x = some .local ∨ sc.names.lookup x = some .cell ∨ sc.names.lookup x = some .free
def Loc (sc : Scope) (x : Str) : Prop := sc.names.lookup x = some .local ∨ sc.names.lookup x = some .cell
def Look (env : Env) (h : Heap) (m : Str → Option Value) (x : Str) (u : Value) : Prop :=
  (env.kindOf x = some .local ∧ m x = some u) ∨ ((env.kindOf x = some .cell ∨ env.kindOf x = some .free) ∧ ∃ c, env.cells.lookup x = some c ∧ h.IsCell c (some u))
structure Cx.Ok (X : Cx) : Prop where
  mod : Mod X.K X.mg X.base
  kind : X.env.scope.kind = .function
  glob : X.env.globals = mainGlobals
  blt : X.env.builtins = builtinsNs
  above : X.s₀.heap.objs.size ≤ X.env.locals
  inj : ∀ x y c, X.env.cells.lookup x = some c → X.env.cells.lookup y = some c → x = y
  has : ∀ x, (X.env.kindOf x = some .cell ∨ X.env.kindOf x = some .free) → ∃ c, X.env.cells.lookup x = some c
  cab : ∀ x c, X.fn x = true → X.env.cells.lookup x = some c → X.s₀.heap.objs.size ≤ c
  hd : X.calm = true → X.A.handled = none
  frames : X.A.frames = some X.stack
  stk : X.stack = X.outer ∨ (X.stack = X.env :: X.outer ∧ X.env.frame = some X.env.locals)
  exf : ∀ b ∈ X.ex, b ≠ X.env.locals ∧ ∀ x c, X.env.cells.lookup x = some c → c ≠ b
  bs : ∀ b o, X.base.get? b = some o → X.s₀.heap.get? b = some o ∧ X.H₀ b = none
  bsz : X.base.objs.size ≤ X.s₀.heap.objs.size
  noex : ∀ b o, X.base.get? b = some o → b ∉ X.ex
  exfs : ∀ b ∈ X.ex, b ∉ X.fs
  funs : X.s₀.heap.FunFrames X.base X.outer
  frf : ∀ b ∈ X.fs, X.H₀ b = none
structure Inv (X : Cx) (pins : List (Addr × Obj)) (σ : List (Option V)) (H : Hp) (s : Shared) : Prop where
  ok : X.Ok
  os : s.os = X.s₀.os
  bare : AllBare s.gens
  base : Un X.fs X.ex X.H₀ H X.s₀.heap s.heap
  loc : ∃ m, s.heap.Ns X.env.locals m ∧ ∀ (i : Nat) (x : Str) (v : V), X.N[i]? = some x → σ[i]? = some (some v) → Vis X.env.scope x → ∃ u, RelV v u ∧ Look X.env s.heap m x u
  cell : ∀ x c, X.env.cells.lookup x = some c → ∃ v, s.heap.IsCell c v
  free : H X.env.locals = none
  freeC : ∀ x c, X.env.cells.lookup x = some c → H c = none ∨ (X.fn x = false ∧ ∃ o, H c = some (.frz o (.own 0)))
  pin : ∀ p ∈ X.pn ++ pins, s.heap.get? p.1 = some p.2 ∧ H p.1 = none ∧ p.1 ≠ X.env.locals ∧ p.1 ∉ X.fs ∧ ∀ v, p.2.data ≠ .cell v
  hok : HOk X.prog X.w H s.heap
  len : σ.length = X.N.length
section
variable {X : Cx} {pins : List (Addr × Obj)} {σ : List (Option V)} {H H' : Hp} {s : Shared} {h' : Heap}
theorem Cx.Ok.nofr (ok : X.Ok) {b : Addr} {o : Obj} (e : X.base.get? b = some o) : b ∉ X.fs := fun hb => by
  have := (ok.funs.mem hb).1
  rw [e] at this; cases this
theorem Inv.bs (I : Inv X pins σ H s) : ∀ b o, X.base.get? b = some o → s.heap.get? b = some o ∧ H b = none := fun b o e =>
  ⟨I.base.keep b o (I.ok.bs b o e).1 (I.ok.bs b o e).2 (I.ok.nofr e) (I.ok.noex b o e), I.base.free b o (I.ok.bs b o e).1 (I.ok.bs b o e).2 (I.ok.noex b o e)⟩
theorem Inv.bk (I : Inv X pins σ H s) : ∀ b o, X.base.get? b = some o → s.heap.get? b = some o := fun b o e => (I.bs b o e).1
theorem Inv.mod (I : Inv X pins σ H s) : Mod X.K X.mg X.base := I.ok.mod
theorem Inv.kIn (I : Inv X pins σ H s) : X.K.In s.heap := I.ok.mod.kin.keeps I.bk
theorem Inv.lt (I : Inv X pins σ H s) : X.env.locals < s.heap.objs.size := let ⟨_, hn, _⟩ := I.loc; hn.lt
theorem Inv.sz (I : Inv X pins σ H s) : X.s₀.heap.objs.size ≤ s.heap.objs.size := Nat.le_trans I.ok.above (Nat.le_of_lt I.lt)
theorem Inv.nofs (I : Inv X pins σ H s) {a : Addr} (h : s.heap.objs.size ≤ a) : a ∉ X.fs := fun hb => by
  obtain ⟨_, o, ho, _⟩ := I.ok.funs.mem hb
  exact absurd (Nat.lt_of_lt_of_le (Heap.lt_size ho) (Nat.le_trans I.sz h)) (Nat.lt_irrefl _)
theorem Inv.cne (I : Inv X pins σ H s) : ∀ x c, X.env.cells.lookup x = some c → c ≠ X.env.locals := fun x c e z => by
  obtain ⟨v, o, ho, hd⟩ := I.cell x c e
  obtain ⟨m, ⟨o', es, ep, ho', hd', _⟩, _⟩ := I.loc
  rw [z, ho'] at ho; cases ho; rw [hd'] at hd; cases hd
theorem Inv.funs (I : Inv X pins σ H s) : s.heap.FunFrames X.base X.outer := by
  have all : ∀ (l : List Env), (∀ b ∈ frs l, b ∈ X.fs) → X.s₀.heap.FunFrames X.base l → s.heap.FunFrames X.base l := by
    intro l
    induction l with
    | nil => intro _ _; trivial
    | cons env r ih =>
      intro hs hl
      obtain ⟨hk, ⟨L, o, hf, hn, ho, hd⟩, hr⟩ := hl
      have hL : L ∈ X.fs := hs L (by unfold frs; rw [List.filterMap_cons, hf]; exact List.mem_cons_self)
      obtain ⟨sl, e⟩ := I.base.slot L o ho (I.ok.frf L hL) hL fun z => I.ok.exfs L z hL
      exact ⟨hk, ⟨L, _, hf, hn, e, hd⟩, ih (fun b hb => hs b (by unfold frs; rw [List.filterMap_cons, hf]; exact List.mem_cons_of_mem _ hb)) hr⟩
  exact all X.outer (fun _ hb => hb) I.ok.funs
theorem Inv.stack (I : Inv X pins σ H s) : s.heap.FunFrames X.base X.stack := by
  rcases I.ok.stk with e | ⟨e, hf⟩
  · rw [e]; exact I.funs
  · rw [e]
    obtain ⟨m, hn, _⟩ := I.loc
    refine .cons (by rw [I.ok.kind]; decide) hf hn ?_ I.funs
    exact Heap.get?_none_of_le (Nat.le_trans I.ok.bsz I.ok.above)
theorem Inv.stkSub (I : Inv X pins σ H s) : ∀ b ∈ frs X.stack, b ∈ X.env.locals :: X.fs := fun b hb => by
  rcases I.ok.stk with e | ⟨e, hf⟩
  · rw [e] at hb; exact List.mem_cons_of_mem _ hb
  · rw [e] at hb
    unfold frs at hb
    rw [List.filterMap_cons, hf] at hb
    exact hb
theorem Inv.stkFree (I : Inv X pins σ H s) : ∀ b ∈ frs X.stack, H b = none := fun b hb => by
  rcases List.mem_cons.mp (I.stkSub b hb) with e | hb
  · rw [e]; exact I.free
  · obtain ⟨_, o, ho, _⟩ := I.ok.funs.mem hb
    exact I.base.free b o ho (I.ok.frf b hb) fun z => I.ok.exfs b z hb
theorem Inv.step {g' : Array GenState} {t' : Nat} {d' : Drawn} {ch : List Addr} (I : Inv X pins σ H s)
    (hch : ∀ b ∈ ch, (b ∈ X.ex ∨ X.s₀.heap.objs.size ≤ b) ∧ b ≠ X.env.locals ∧ (∀ x c, X.env.cells.lookup x = some c → c ≠ b) ∧ ∀ p ∈ X.pn ++ pins, p.1 ≠ b)
    (keep : ∀ b o, b ≠ X.env.locals → b ∉ X.fs → b ∉ ch → s.heap.get? b = some o → H b = none → h'.get? b = some o)
    (slot : ∀ b o, b ≠ X.env.locals → b ∈ X.fs → b ∉ ch → s.heap.get? b = some o → H b = none → ∃ sl, h'.get? b = some { o with slots := sl }) (free : ∀ b o, b ∉ ch → s.heap.get? b = some o → H b = none → H' b = none)
    (there : ∀ b o, b ∉ ch → s.heap.get? b = some o → ∃ o', h'.get? b = some o')
    (tups : ∀ b xs, H b = some (.tup xs) → H' b = some (.tup xs)) (frzs : ∀ b o u, H b = some (.frz o u) → H' b = some (.frz o u)) (tbls : ∀ b ps, H b = some (.tbl ps) → ∃ more, H' b = some (.tbl (ps ++ more)))
    (ns : ∀ m, s.heap.Ns X.env.locals m → h'.Ns X.env.locals m) (hok : HOk X.prog X.w H' h') (hg : AllBare g') :
    Inv X pins σ H' { s with heap := h', gens := g', drawn := d', toks := t' } := by
  have neL : ∀ b o, X.s₀.heap.get? b = some o → b ≠ X.env.locals := fun b o e => Nat.ne_of_lt (Nat.lt_of_lt_of_le (Heap.lt_size e) I.ok.above)
  have neC : ∀ b o, X.s₀.heap.get? b = some o → b ∉ X.ex → b ∉ ch := fun b o e hx hb => by
    rcases (hch b hb).1 with z | z
    · exact hx z
    · exact absurd (Nat.lt_of_lt_of_le (Heap.lt_size e) z) (Nat.lt_irrefl _)
  have cellK : ∀ x c, X.env.cells.lookup x = some c → ∀ v, s.heap.IsCell c v → h'.IsCell c v := fun x c e v ⟨o, ho, hd⟩ => by
    have nch : c ∉ ch := fun z => (hch c z).2.2.1 x c e rfl
    rcases I.freeC x c e with fc | ⟨_, of, hf⟩
    · by_cases hc : c ∈ X.fs
      · obtain ⟨sl, q⟩ := slot c o (I.cne x c e) hc nch ho fc
        exact ⟨_, q, hd⟩
      · exact ⟨o, keep c o (I.cne x c e) hc nch ho fc, hd⟩
    · obtain ⟨e1, _⟩ := I.hok c _ hf
      obtain ⟨e2, _⟩ := hok c _ (frzs c _ _ hf)
      rw [ho] at e1; cases e1
      exact ⟨o, e2, hd⟩
  refine ⟨I.ok, I.os, hg, ⟨fun b o e n hb hx => ?_, fun b o e n hb hx => ?_, fun b o e n hx => ?_, fun b o e hx => ?_, fun b xs e => tups b xs (I.base.tups b xs e), fun b o xs e => frzs b o xs (I.base.frzs b o xs e), fun b ps e => ?_⟩, ?_, fun x c e => ?_, ?_, fun x c e => ?_, fun p hp => ?_, hok, I.len⟩
  · exact keep b o (neL b o e) hb (neC b o e hx) (I.base.keep b o e n hb hx) (I.base.free b o e n hx)
  · obtain ⟨sl, e1⟩ := I.base.slot b o e n hb hx
    obtain ⟨sl', e2⟩ := slot b _ (neL b o e) hb (neC b o e hx) e1 (I.base.free b o e n hx)
    exact ⟨sl', e2⟩
  · obtain ⟨o', e1⟩ := I.base.there b o e hx
    exact free b o' (neC b o e hx) e1 (I.base.free b o e n hx)
  · obtain ⟨o', e1⟩ := I.base.there b o e hx
    exact there b o' (neC b o e hx) e1
  · obtain ⟨m1, e1⟩ := I.base.tbls b ps e
    obtain ⟨m2, e2⟩ := tbls b _ e1
    exact ⟨m1 ++ m2, by rw [e2, Array.append_assoc]⟩
  · obtain ⟨m, hn, hl⟩ := I.loc
    refine ⟨m, ns m hn, fun i x v e1 e2 e3 => ?_⟩
    obtain ⟨u, r, l⟩ := hl i x v e1 e2 e3
    refine ⟨u, r, ?_⟩
    rcases l with l | ⟨k, c, e, z⟩
    · exact .inl l
    · exact .inr ⟨k, c, e, cellK x c e _ z⟩
  · obtain ⟨v, z⟩ := I.cell x c e
    exact ⟨v, cellK x c e v z⟩
  · obtain ⟨m, ⟨o, _, _, ho, _⟩, _⟩ := I.loc
    exact free _ o (fun z => (hch _ z).2.1 rfl) ho I.free
  · obtain ⟨v, o, ho, hd⟩ := I.cell x c e
    rcases I.freeC x c e with fc | ⟨fn0, of, hf⟩
    · exact .inl (free c o (fun z => (hch c z).2.2.1 x c e rfl) ho fc)
    · exact .inr ⟨fn0, of, frzs c _ _ hf⟩
  · obtain ⟨e, n, ne, nf, d⟩ := I.pin p hp
    have nch : p.1 ∉ ch := fun z => (hch p.1 z).2.2.2 p hp rfl
    exact ⟨keep p.1 p.2 ne nf nch e n, free p.1 p.2 nch e n, ne, nf, d⟩
theorem Inv.un {t' : Nat} (I : Inv X pins σ H s) (u : Un X.fs [] H H' s.heap h') (hok : HOk X.prog X.w H' h') : Inv X pins σ H' { s with heap := h', toks := t' } := by
  obtain ⟨m, ⟨o, es, ep, ho, r⟩, _⟩ := id I.loc
  obtain ⟨sl, hL⟩ := u.any ho I.free (by simp)
  exact I.step (g' := s.gens) (d' := s.drawn) (ch := []) (fun _ z => nomatch z) (fun b o _ hb _ e n => u.keep b o e n hb (by simp)) (fun b o _ hb _ e n => u.slot b o e n hb (by simp)) (fun b o _ e n => u.free b o e n (by simp)) (fun b o _ e => u.there b o e (by simp)) u.tups u.frzs u.tbls (fun m' hm => by
    obtain ⟨o', es', ep', ho', r'⟩ := hm
    rw [ho] at ho'; cases ho'
    exact ⟨_, es', ep', hL, r'⟩) hok I.bare
theorem Inv.call {g' : Array GenState} {t' : Nat} {d' : Drawn} {ch : List Addr} (I : Inv X pins σ H s) (u : Un (frs X.stack) ch H H' s.heap h') (hok : HOk X.prog X.w H' h') (hg : AllBare g')
    (hch : ∀ b ∈ ch, (b ∈ X.ex ∨ X.s₀.heap.objs.size ≤ b) ∧ b ≠ X.env.locals ∧ (∀ x c, X.env.cells.lookup x = some c → c ≠ b) ∧ ∀ p ∈ X.pn ++ pins, p.1 ≠ b) :
    Inv X pins σ H' { s with heap := h', gens := g', drawn := d', toks := t' } := by
  obtain ⟨m, ⟨o, es, ep, ho, r⟩, _⟩ := id I.loc
  obtain ⟨sl, hL⟩ := u.any ho I.free fun z => (hch _ z).2.1 rfl
  exact I.step (ch := ch) hch (fun b o hL hb hc e n => u.keep b o e n (fun z => (List.mem_cons.mp (I.stkSub b z)).elim hL hb) hc) (fun b o _ _ hc e n => u.any e n hc) (fun b o hc e n => u.free b o e n hc) (fun b o hc e => u.there b o e hc) u.tups u.frzs u.tbls (fun m' hm => by
    obtain ⟨o', es', ep', ho', r'⟩ := hm
    rw [ho] at ho'; cases ho'
    exact ⟨_, es', ep', hL, r'⟩) hok hg
theorem Inv.turned {t' : Nat} {it : Addr} (I : Inv X pins σ H s) (k : ∀ b o, b ≠ it → s.heap.get? b = some o → h'.get? b = some o) (hn : H it = none) (hL : it ≠ X.env.locals)
    (h1 : it ∈ X.ex ∨ X.s₀.heap.objs.size ≤ it) (h2 : ∀ x c, X.env.cells.lookup x = some c → c ≠ it) (h3 : ∀ p ∈ X.pn ++ pins, p.1 ≠ it) : Inv X pins σ H { s with heap := h', toks := t' } := by
  have nit : ∀ b u, H b = some u → b ≠ it := fun b u e z => by rw [z, hn] at e; cases e
  refine I.step (g' := s.gens) (d' := s.drawn) (ch := [it]) (fun b hb => ?_) (fun b o _ _ hc e _ => k b o (fun z => hc (by simp [z])) e) (fun b o _ _ hc e _ => ⟨o.slots, k b o (fun z => hc (by simp [z])) e⟩) (fun _ _ _ _ n => n)
    (fun b o hc e => ⟨o, k b o (fun z => hc (by simp [z])) e⟩) (fun _ _ e => e) (fun _ _ _ e => e) (fun b ps e => ⟨#[], by rw [e]; simp⟩) (fun m hm => ?_) (fun b u e => ?_) I.bare
  · have e : b = it := by simpa using hb
    subst e
    exact ⟨h1, hL, h2, h3⟩
  · obtain ⟨o, es, ep, ho, r⟩ := hm
    exact ⟨o, es, ep, k _ o (Ne.symm hL) ho, r⟩
  · refine (I.hok b u e).stay (fun c v hc q => k c v ?_ q) (fun _ q => q) fun _ _ q => q
    rcases hc with z | z
    · rw [z]; exact nit b u e
    · exact nit c _ z
theorem Inv.tok (I : Inv X pins σ H s) (t : Nat) : Inv X pins σ H { s with toks := t } := I.un (h' := s.heap) (t' := t) Un.refl I.hok
theorem Inv.kept {t' : Nat} (I : Inv X pins σ H s) (k : ∀ b u, s.heap.get? b = some u → h'.get? b = some u) : Inv X pins σ H { s with heap := h', toks := t' } := I.un (Un.kept k) (I.hok.kept k)
theorem Inv.laid {a : Addr} {o : HO} {t' : Nat} (I : Inv X pins σ H s) (k : ∀ b u, s.heap.get? b = some u → h'.get? b = some u) (hp : s.heap.objs.size ≤ a) (new : ObjOk X.prog X.w (upd H a o) h' a o) :
    Inv X pins σ (upd H a o) { s with heap := h', toks := t' } := I.un (Un.laid k hp (I.hok.fresh hp)) (I.hok.laid k hp new)
theorem Inv.write {x e : Addr} {o : HO} {t' : Nat} (I : Inv X pins σ H s) (mu : Mut (H x)) (he : e = x ∨ H e = some (.own x)) (k : ∀ b u, b ≠ e → s.heap.get? b = some u → h'.get? b = some u) (heo : ∃ u, h'.get? e = some u)
    (new : ObjOk X.prog X.w (upd H x o) h' x o) : Inv X pins σ (upd H x o) { s with heap := h', toks := t' } := I.un (Un.write mu he k heo) (I.hok.write mu he k heo new)
theorem Inv.pins_of {pins' : List (Addr × Obj)} (I : Inv X pins σ H s) (h : ∀ p ∈ pins', s.heap.get? p.1 = some p.2 ∧ H p.1 = none ∧ p.1 ≠ X.env.locals ∧ p.1 ∉ X.fs ∧ ∀ v, p.2.data ≠ .cell v) : Inv X pins' σ H s :=
  ⟨I.ok, I.os, I.bare, I.base, I.loc, I.cell, I.free, I.freeC, fun p hp => (List.mem_append.mp hp).elim (fun z => I.pin p (List.mem_append_left _ z)) (h p), I.hok, I.len⟩
theorem nodup_ix {N : List Str} (hN : N.Nodup) {i j : Nat} {x : Str} (a : N[i]? = some x) (b : N[j]? = some x) : i = j := by
  obtain ⟨h1, e1⟩ := List.getElem?_eq_some_iff.mp a
  obtain ⟨h2, e2⟩ := List.getElem?_eq_some_iff.mp b
  exact (List.getElem_inj hN).mp (e1.trans e2.symm)
theorem store_ok2 {M : Model} {A : Around} {E : Value → Shared → Prop} {i : Nat} {x : Str} {v : V} {u : Value} {Q : Unit → Shared → Prop} (I : Inv X pins σ H s) (hN : X.N.Nodup) (hi : X.N[i]? = some x) (hx : Loc X.env.scope x) (r : RelV v u)
    (h : ∀ s', Inv X pins (σ.set i (some v)) H s' → (∃ a, Heap.SameBut a s.heap s'.heap ∧ (a = X.env.locals ∨ X.env.cells.lookup x = some a)) → Q () s') (hf : X.fn x = true ∨ X.env.scope.names.lookup x = some .local := by first | exact .inl rfl | exact .inr rfl | assumption) : wpAny M A (storeName X.env x u) Q E s := by
  obtain ⟨m, hn, hl⟩ := id I.loc
  have hcls : (X.env.scope.kind == .class || (X.env.scope.kind == .module && X.env.locals != X.env.globals)) = false := by rw [I.ok.kind]; rfl
  have hiσ : i < σ.length := by rw [I.len]; exact (List.getElem?_eq_some_iff.mp hi).1
  have cne := I.cne
  have tracked : ∀ {a : Addr} {h' : Heap}, (∃ o, s.heap.get? a = some o ∧ H a = none) → Heap.SameBut a s.heap h' → HOk X.prog X.w H h' := fun {a h'} ha hs b ob e => by
    obtain ⟨_, _, hfree⟩ := ha
    refine (I.hok b ob e).stay (fun c w' hc q => (hs.2 c ?_).trans q) (fun _ q => q) fun _ _ q => q
    rintro rfl
    rcases hc with rfl | hc
    · rw [hfree] at e; cases e
    · rw [hfree] at hc; cases hc
  rcases hx with hk | hk
  · refine wpAny_storeName_local hk hn (fun h' hn' hs => ?_) hcls
    obtain ⟨oL, _, _, hoL, _⟩ := id hn
    refine h _ ⟨I.ok, I.os, I.bare, ⟨fun b o e n hb hx => ?_, fun b o e n hb hx => ?_, I.base.free, fun b o e hx => ?_, I.base.tups, I.base.frzs, I.base.tbls⟩, ⟨_, hn', fun j y v' e1 e2 e3 => ?_⟩, fun y c e => ?_, I.free, I.freeC, fun p hp => ?_, tracked ⟨oL, hoL, I.free⟩ hs, by simpa using I.len⟩ ⟨_, hs, .inl rfl⟩
    · exact (hs.2 b (Nat.ne_of_lt (Nat.lt_of_lt_of_le (Heap.lt_size e) I.ok.above))).trans (I.base.keep b o e n hb hx)
    · obtain ⟨sl, e1⟩ := I.base.slot b o e n hb hx
      exact ⟨sl, (hs.2 b (Nat.ne_of_lt (Nat.lt_of_lt_of_le (Heap.lt_size e) I.ok.above))).trans e1⟩
    · obtain ⟨o', e1⟩ := I.base.there b o e hx
      exact ⟨o', (hs.2 b (Nat.ne_of_lt (Nat.lt_of_lt_of_le (Heap.lt_size e) I.ok.above))).trans e1⟩
    · by_cases hj : j = i
      · subst hj
        rw [hi] at e1; cases e1
        rw [List.getElem?_set_self hiσ] at e2
        cases e2
        exact ⟨u, r, .inl ⟨hk, by simp⟩⟩
      · rw [List.getElem?_set_ne (Ne.symm hj)] at e2
        obtain ⟨u', r', q⟩ := hl j y v' e1 e2 e3
        refine ⟨u', r', ?_⟩
        rcases q with ⟨k, e⟩ | ⟨k, c, e, z⟩
        · refine .inl ⟨k, ?_⟩
          have : y ≠ x := fun e => hj (nodup_ix hN e1 (e ▸ hi))
          simp [this, e]
        · exact .inr ⟨k, c, e, z.sameBut hs (cne y c e)⟩
    · obtain ⟨w', z⟩ := I.cell y c e
      exact ⟨w', z.sameBut hs (cne y c e)⟩
    · obtain ⟨e, n, ne, nf, d⟩ := I.pin p hp
      exact ⟨(hs.2 p.1 ne).trans e, n, ne, nf, d⟩
  · have hfn : X.fn x = true := by
      rcases hf with z | z
      · exact z
      · rw [z] at hk; cases hk
    obtain ⟨c, hc⟩ := I.ok.has x (.inl hk)
    obtain ⟨w', z⟩ := I.cell x c hc
    refine wpAny_storeName_cell I.ok.kind hk hc z (fun h' hc' hs => ?_)
    obtain ⟨oc, hoc, hocd⟩ := id z
    refine h { s with heap := h' } ⟨I.ok, I.os, I.bare, ⟨fun b o e n hb hx => ?_, fun b o e n hb hx => ?_, I.base.free, fun b o e hx => ?_, I.base.tups, I.base.frzs, I.base.tbls⟩, ⟨m, hn.sameBut hs (Ne.symm (cne x c hc)), fun j y v' e1 e2 e3 => ?_⟩, fun y c' e => ?_, I.free, I.freeC, fun p hp => ?_, tracked ⟨oc, hoc, (I.freeC x c hc).resolve_right fun z => by rw [hfn] at z; cases z.1⟩ hs, by simpa using I.len⟩ ⟨c, hs, .inr hc⟩
    · exact (hs.2 b (Nat.ne_of_lt (Nat.lt_of_lt_of_le (Heap.lt_size e) (I.ok.cab x c hfn hc)))).trans (I.base.keep b o e n hb hx)
    · obtain ⟨sl, e1⟩ := I.base.slot b o e n hb hx
      exact ⟨sl, (hs.2 b (Nat.ne_of_lt (Nat.lt_of_lt_of_le (Heap.lt_size e) (I.ok.cab x c hfn hc)))).trans e1⟩
    · obtain ⟨o', e1⟩ := I.base.there b o e hx
      exact ⟨o', (hs.2 b (Nat.ne_of_lt (Nat.lt_of_lt_of_le (Heap.lt_size e) (I.ok.cab x c hfn hc)))).trans e1⟩
    · by_cases hj : j = i
      · subst hj
        rw [hi] at e1; cases e1
        rw [List.getElem?_set_self hiσ] at e2
        cases e2
        exact ⟨u, r, .inr ⟨.inl hk, c, hc, hc'⟩⟩
      · rw [List.getElem?_set_ne (Ne.symm hj)] at e2
        obtain ⟨u', r', q⟩ := hl j y v' e1 e2 e3
        refine ⟨u', r', ?_⟩
        rcases q with q | ⟨k, c', e, z'⟩
        · exact .inl q
        · refine .inr ⟨k, c', e, z'.sameBut hs ?_⟩
          rintro rfl
          exact hj (nodup_ix hN e1 (I.ok.inj _ _ _ e hc ▸ hi))
    · by_cases hcc : c' = c
      · subst hcc; exact ⟨_, hc'⟩
      · obtain ⟨w2, z2⟩ := I.cell y c' e
        exact ⟨w2, z2.sameBut hs hcc⟩
    · obtain ⟨e, n, ne, nf, d⟩ := I.pin p hp
      refine ⟨(hs.2 p.1 ?_).trans e, n, ne, nf, d⟩
      intro q
      rw [q, hoc] at e
      have q' : oc = p.2 := Option.some.inj e
      exact d w' (by rw [← q']; exact hocd)
theorem store_ok {M : Model} {A : Around} {E : Value → Shared → Prop} {i : Nat} {x : Str} {v : V} {u : Value} {Q : Unit → Shared → Prop} (I : Inv X pins σ H s) (hN : X.N.Nodup) (hi : X.N[i]? = some x) (hx : Loc X.env.scope x) (r : RelV v u)
    (h : ∀ s', Inv X pins (σ.set i (some v)) H s' → Q () s') (hf : X.fn x = true ∨ X.env.scope.names.lookup x = some .local := by first | exact .inl rfl | exact .inr rfl | assumption) : wpAny M A (storeName X.env x u) Q E s :=
  store_ok2 I hN hi hx r (fun s' I' _ => h s' I') hf
theorem Inv.call' {s' : Shared} {ch : List Addr} (I : Inv X pins σ H s) (ho : s'.os = s.os) (u : Un (frs X.stack) ch H H' s.heap s'.heap) (hok : HOk X.prog X.w H' s'.heap) (hg : AllBare s'.gens)
    (hch : ∀ b ∈ ch, (b ∈ X.ex ∨ X.s₀.heap.objs.size ≤ b) ∧ b ≠ X.env.locals ∧ (∀ x c, X.env.cells.lookup x = some c → c ≠ b) ∧ ∀ p ∈ X.pn ++ pins, p.1 ≠ b) : Inv X pins σ H' s' := by
  obtain ⟨h', g', d', t', o'⟩ := s'
  have e : o' = s.os := ho
  subst e
  exact I.call (g' := g') (t' := t') (d' := d') u hok hg hch
end
abbrev XK := Value → Option Addr → Hp → Prop
abbrev St := List (Option V)
abbrev VK := V → Hp → Prop
abbrev TE := St → Hp → VK → Prop
abbrev TT := St → Hp → (Bool → Hp → Prop) → Prop
abbrev TA := St → Hp → (List V → Hp → Prop) → Prop
structure Ends where
  nx : St → Hp → Prop
  rt : VK
  bk : St → Hp → Prop := fun _ _ => False
  ct : St → Hp → Prop := fun _ _ => False
abbrev TS := Ends → St → Hp → Prop
def EP (X : Cx) (pins : List (Addr × Obj)) (σ : St) (Q : VK) (u : Value) (s' : Shared) : Prop := ∃ v H', Inv X pins σ H' s' ∧ RelV v u ∧ Q v H'
def TP (X : Cx) (pins : List (Addr × Obj)) (σ : St) (Q : Bool → Hp → Prop) (b : Bool) (s' : Shared) : Prop := ∃ H', Inv X pins σ H' s' ∧ Q b H'
def AP (X : Cx) (pins : List (Addr × Obj)) (σ : St) (Q : List V → Hp → Prop) (us : List Value) (s' : Shared) : Prop := ∃ vs H', Inv X pins σ H' s' ∧ Vals vs us ∧ Q vs H'
def SP (X : Cx) (pins : List (Addr × Obj)) (D : Ends) (f : Flow) (s' : Shared) : Prop :=
  match f with
  | .next => ∃ σ' H', Inv X pins σ' H' s' ∧ D.nx σ' H'
  | .brk => ∃ σ' H', Inv X pins σ' H' s' ∧ D.bk σ' H'
  | .cont => ∃ σ' H', Inv X pins σ' H' s' ∧ D.ct σ' H'
  | .ret u => ∃ v σ' H', Inv X pins σ' H' s' ∧ RelV v u ∧ D.rt v H'
def PE (X : Cx) (e : Expr) (t : TE) : Prop :=
  ∀ (pins : List (Addr × Obj)) (s : Shared) (σ : St) (H : Hp) (Q : VK), Inv X pins σ H s → t σ H Q → wpAny (model X.prog X.w) X.A (eval e X.env) (EP X pins σ Q) X.xe s
def PT (X : Cx) (e : Expr) (t : TT) : Prop :=
  ∀ (pins : List (Addr × Obj)) (s : Shared) (σ : St) (H : Hp) (Q : Bool → Hp → Prop), Inv X pins σ H s → t σ H Q → wpAny (model X.prog X.w) X.A (isTrue e X.env (eval e X.env)) (TP X pins σ Q) X.xe s
def PW (X : Cx) (e : Expr) (t : TT) : Prop :=
  ∀ (whole : Sem Value) (pins : List (Addr × Obj)) (s : Shared) (σ : St) (H : Hp) (Q : Bool → Hp → Prop), Inv X pins σ H s → t σ H Q → wpAny (model X.prog X.w) X.A (isTrue e X.env whole) (TP X pins σ Q) X.xe s
theorem PW.pt {X : Cx} {e : Expr} {t : TT} (h : PW X e t) : PT X e t := h _
def PA (X : Cx) (es : List Expr) (t : TA) : Prop :=
  ∀ (pos : Pos) (pins : List (Addr × Obj)) (s : Shared) (σ : St) (H : Hp) (Q : List V → Hp → Prop), Inv X pins σ H s → t σ H Q → wpAny (model X.prog X.w) X.A (spliced (backTo pos (starEach es X.env))) (AP X pins σ Q) X.xe s
def PS (X : Cx) (st : Stmt) (t : TS) : Prop :=
  ∀ (pins : List (Addr × Obj)) (s : Shared) (σ : St) (H : Hp) (D : Ends), Inv X pins σ H s → t D σ H → wpAny (model X.prog X.w) X.A (exec st X.env) (SP X pins D) X.xe s
def PSs (X : Cx) (st : List Stmt) (t : TS) : Prop :=
  ∀ (pins : List (Addr × Obj)) (s : Shared) (σ : St) (H : Hp) (D : Ends), Inv X pins σ H s → t D σ H → wpAny (model X.prog X.w) X.A (execs st X.env) (SP X pins D) X.xe s
theorem thn {α : Type} {t : Sem α} {Q Q' : α → Shared → Prop} {M : Model} {A : Around} {E : Value → Shared → Prop} {s : Shared} (h : wpAny M A t Q E s) (hQ : ∀ a s, Q a s → Q' a s) : wpAny M A t Q' E s := wpAny_mono h hQ fun _ _ x => x
end L2
namespace L2
open PySem PySem.Spec PyProof.Rows
section
variable {X : Cx}
def tVar (i : Nat) : TE := fun σ H Q => ∃ v, σ[i]? = some (some v) ∧ Q v H
def tC (v : V) : TE := fun _ H Q => Q v H
theorem pe_var {i : Nat} {x : Str} {pos : Pos} (hN : X.N[i]? = some x) (hv : Vis X.env.scope x) (hd : (x == ("__debug__" : Str)) = false := by decide) (hcd : (x == ("__classdict__" : Str)) = false := by decide) : PE X (.Name x pos) (tVar i) := by
  intro pins s σ H Q I h
  obtain ⟨v, e, h⟩ := h
  obtain ⟨m, hn, hl⟩ := I.loc
  obtain ⟨u, r, l⟩ := hl i x v hN e hv
  have fin : EP X pins σ Q u s := ⟨v, H, I, r, h⟩
  rcases l with ⟨hk, hm⟩ | ⟨hk, c, hc, hcell⟩
  · exact wpAny_Name (wpAny_loadName_local I.ok.kind hk hn hm fin) hd
  · rcases hk with hk | hk
    · exact wpAny_Name (wpAny_loadName_cell I.ok.kind hk hc hcell fin) hd
    · exact wpAny_Name (wpAny_loadName_free I.ok.kind hk hc hcell fin hcd) hd
theorem pe_int {i j pos} : PE X (.Constant (.int i) j pos) (tC (.int i)) := fun _ _ _ H _ I h => wpAny_Constant_int ⟨.int i, H, I.tok _, ⟨_, rfl⟩, h⟩
theorem pe_bl {b j pos} : PE X (.Constant (.bool b) j pos) (tC (.bl b)) := fun _ _ _ H _ I h => Constant_bool ⟨.bl b, H, I, rfl, h⟩
theorem pe_non {j pos} : PE X (.Constant .none j pos) (tC .non) := fun _ _ _ H _ I h => Constant_none ⟨.non, H, I, rfl, h⟩
theorem pe_str {x j pos} : PE X (.Constant (.str x) j pos) (tC (.str x)) := fun _ _ _ H _ I h => Calls.Constant_str ⟨.str x, H, I.tok _, ⟨_, rfl⟩, h⟩
def Gl (X : Cx) (x : Str) : Prop := X.env.kindOf x = some .globalImplicit
theorem ld_glob {E : Value → Shared → Prop} {pins : List (Addr × Obj)} {s : Shared} {σ : St} {H : Hp} {x : Str} {u : Value} {pos : Pos} {Q : Value → Shared → Prop} (I : Inv X pins σ H s) (hg : Gl X x) (hm : X.mg x = some u) (h : Q u s)
    (hd : (x == ("__debug__" : Str)) = false := by decide) : wpAny (model X.prog X.w) X.A (eval (.Name x pos) X.env) Q E s :=
  Calls.Name_function_global I.ok.kind hg (Calls.loadGlobal_global (by rw [I.ok.glob]; exact I.mod.glob.keeps I.bk) hm h) hd
theorem ld_blt {E : Value → Shared → Prop} {pins : List (Addr × Obj)} {s : Shared} {σ : St} {H : Hp} {x : Str} {u : Value} {pos : Pos} {Q : Value → Shared → Prop} (I : Inv X pins σ H s) (hg : Gl X x) (hm : X.mg x = none) (hv : bootBuiltins x = some u) (h : Q u s)
    (hn : x ≠ "__name__" := by decide) (hd : (x == ("__debug__" : Str)) = false := by decide) : wpAny (model X.prog X.w) X.A (eval (.Name x pos) X.env) Q E s := by
  obtain ⟨mb, h1, h2⟩ := I.mod.blt
  exact Calls.Name_function_global I.ok.kind hg (Calls.loadGlobal_builtin (by rw [I.ok.glob]; exact I.mod.glob.keeps I.bk) hm (by rw [I.ok.blt]; exact h1.keeps I.bk) ((h2 x hn).trans hv) h) hd
theorem pe_glob {x : Str} {v : V} {u : Value} {pos : Pos} (hg : Gl X x) (hm : X.mg x = some u) (r : RelV v u) (hd : (x == ("__debug__" : Str)) = false := by decide) : PE X (.Name x pos) (tC v) :=
  fun _ _ _ H _ I h => ld_glob I hg hm ⟨v, H, I, r, h⟩ hd
theorem pe_bltn {x : Str} {v : V} {u : Value} {pos : Pos} (hg : Gl X x) (hm : X.mg x = none) (hv : bootBuiltins x = some u) (r : RelV v u) (hn : x ≠ "__name__" := by decide) (hd : (x == ("__debug__" : Str)) = false := by decide) : PE X (.Name x pos) (tC v) :=
  fun _ _ _ H _ I h => ld_blt I hg hm hv ⟨v, H, I, r, h⟩ hn hd
variable {a b : Expr} {ta tb : TE} {pos : Pos}
def PC (X : Cx) (op : CmpOp) (a b : Expr) (t : TE) : Prop :=
  ∀ (pins : List (Addr × Obj)) (s : Shared) (σ : St) (H : Hp) (Q : VK), Inv X pins σ H s → t σ H Q →
    wpAny (model X.prog X.w) X.A (eval a X.env) (fun v s₁ => wpAny (model X.prog X.w) X.A (eval b X.env) (fun u s₂ => wpAny (model X.prog X.w) X.A (compareOp op v u) (EP X pins σ Q) X.xe s₂) X.xe s₁) X.xe s
def tB (t : TE) : TT := fun σ H Q => t σ H fun x H1 => ∃ c, x = .bl c ∧ Q c H1
theorem pt_cmp {op : CmpOp} {t : TE} (h : PC X op a b t) (h1 : behindInMarks op b = false := by first | exact nobehind _ (by decide) (by decide) | rfl) : PT X (.Compare a [op] [b] pos) (tB t) := by
  intro pins s σ H Q I hw
  refine wpAny_isTrue_Compare1 (thn (h pins s σ H _ I hw) fun v s1 h1 => thn h1 fun u s2 h2 => thn h2 fun c s3 ⟨x, H1, I1, r1, q1⟩ => ?_) h1
  obtain ⟨d, rfl, q⟩ := q1
  cases r1
  exact wpAny_truthy_bool ⟨H1, I1, q⟩
theorem pt_val {e : Expr} {t : TE} (h : PE X e t) (he : ∀ whole, isTrue e X.env whole = (do let v ← whole; standAt e.pos; holding [v] (truthy v)) := by intro _; rfl) : PT X e (tB t) := by
  intro pins s σ H Q I hw
  refine isTrue_plain (thn (h pins s σ H _ I hw) fun v s1 ⟨x, H1, I1, r1, q1⟩ => ?_) (he _)
  obtain ⟨d, rfl, q⟩ := q1
  cases r1
  exact wpAny_truthy_bool ⟨H1, I1, q⟩
variable {tA tB' : TT} {rest : List Expr}
def tAnd (t u : TT) : TT := fun σ H Q => t σ H fun c H1 => if c = true then u σ H1 Q else Q false H1
def tOr (t u : TT) : TT := fun σ H Q => t σ H fun c H1 => if c = true then Q true H1 else u σ H1 Q
def tNot (t : TT) : TT := fun σ H Q => t σ H fun c H1 => Q (!c) H1
theorem pw_and1 (ha : PT X a tA) : PW X (.BoolOp .And [a] pos) tA := by
  intro wh pins s σ H Q I h
  refine isTrue_and (thn (ha pins s σ H Q I h) fun c s1 e => ?_)
  cases c with
  | true => exact isTrue_and_nil e
  | false => exact e
theorem pw_or1 (ha : PT X a tA) : PW X (.BoolOp .Or [a] pos) tA := by
  intro wh pins s σ H Q I h
  refine isTrue_or (thn (ha pins s σ H Q I h) fun c s1 e => ?_)
  cases c with
  | false => exact isTrue_or_nil e
  | true => exact e
theorem pw_and (ha : PT X a tA) (hb : PW X (.BoolOp .And (b :: rest) pos) tB') : PW X (.BoolOp .And (a :: b :: rest) pos) (tAnd tA tB') := by
  intro wh pins s σ H Q I h
  refine isTrue_and (thn (ha pins s σ H _ I h) fun c s1 ⟨H1, I1, q1⟩ => ?_)
  cases c with
  | true => exact hb wh pins s1 σ H1 Q I1 q1
  | false => exact ⟨H1, I1, q1⟩
theorem pw_or (ha : PT X a tA) (hb : PW X (.BoolOp .Or (b :: rest) pos) tB') : PW X (.BoolOp .Or (a :: b :: rest) pos) (tOr tA tB') := by
  intro wh pins s σ H Q I h
  refine isTrue_or (thn (ha pins s σ H _ I h) fun c s1 ⟨H1, I1, q1⟩ => ?_)
  cases c with
  | true => exact ⟨H1, I1, q1⟩
  | false => exact hb wh pins s1 σ H1 Q I1 q1
theorem pt_not (ha : PT X a tA) : PT X (.UnaryOp .Not a pos) (tNot tA) := by
  intro pins s σ H Q I h
  exact isTrue_not (ha pins s σ H (fun c H1 => Q (!c) H1) I h)
def tAndV (ta tb : TE) : TE := fun σ H Q => ta σ H fun x H1 => ∃ c, x = .bl c ∧ if c = true then tb σ H1 Q else Q (.bl false) H1
theorem pe_one {op} {t : TE} (h : PE X a t) : PE X (.BoolOp op [a] pos) t := fun pins s σ H Q I hw => BoolOp_one (h pins s σ H Q I hw)
theorem pe_and (ha : PE X a ta) (hb : PE X (.BoolOp .And (b :: rest) pos) tb) : PE X (.BoolOp .And (a :: b :: rest) pos) (tAndV ta tb) := by
  intro pins s σ H Q I h
  refine BoolOp_and (thn (ha pins s σ H _ I h) fun v s1 ⟨x, H1, I1, r1, q1⟩ => ?_)
  obtain ⟨c, rfl, q1⟩ := q1
  cases r1
  refine wpAny_truthy_bool ?_
  cases c with
  | true => exact hb pins s1 σ H1 Q I1 q1
  | false => exact ⟨.bl false, H1, I1, rfl, q1⟩
end
end L2
namespace L2
open PySem PySem.Spec PyProof.Rows
def SqL (K : PySem.W.Frag) (H : Hp) (a : Addr) (xs : List V) : Prop :=
  Rd H a (.lst xs) ∨
    ∃ (o : Obj) (its : Array Value) (n : Nat), K.lookup a = some o ∧ o.cls = .type "list" ∧ o.dict = none ∧ o.data = .seq its n ∧ its.size ≤ sizeLine ∧ Vals xs its.toList
def SqT (K : PySem.W.Frag) (H : Hp) (a : Addr) (xs : List V) : Prop :=
  Rd H a (.tup xs) ∨
    ∃ (o : Obj) (its : Array Value) (n : Nat), K.lookup a = some o ∧ o.cls = .type "tuple" ∧ o.data = .seq its n ∧ its.size ≤ sizeLine ∧ Vals xs its.toList
def absV : Value → Option V
  | .none => some .non
  | .bool b => some (.bl b)
  | .int i _ => some (.int i)
  | .str x _ => some (.str x)
  | .bytes b _ => some (.byt b)
  | .float b _ => some (.flt b)
  | .ref a => some (.ref a)
  | .type n => some (.ty n)
  | _ => none
theorem RelV.abs {x : V} {u : Value} (r : RelV x u) : absV u = some x := by
  cases x with
  | non => cases r; rfl
  | bl _ => cases r; rfl
  | int _ => obtain ⟨t, rfl⟩ := r; rfl
  | str _ => obtain ⟨t, rfl⟩ := r; rfl
  | byt _ => obtain ⟨t, rfl⟩ := r; rfl
  | flt _ => obtain ⟨t, rfl⟩ := r; rfl
  | ref _ => cases r; rfl
  | ty _ => cases r; rfl
theorem RelV.inj {x y : V} {u : Value} (r : RelV x u) (q : RelV y u) : x = y := Option.some.inj (r.abs.symm.trans q.abs)
theorem Vals.inj : ∀ {xs ys : List V} {us : List Value}, Vals xs us → Vals ys us → xs = ys
  | _, _, _, .nil, .nil => rfl
  | _, _, _, .cons r t, .cons r' t' => by rw [r.inj r', Vals.inj t t']
section
variable {X : Cx} {pins : List (Addr × Obj)} {σ : St} {H : Hp} {s : Shared} {a : Addr} {xs ys : List V}
theorem SqL.of {K : PySem.W.Frag} (h : H a = some (.lst xs)) : SqL K H a xs := .inl (.inl h)
theorem Inv.list (I : Inv X pins σ H s) (h : SqL X.K H a xs) : ∃ its : List Value, Vals xs its ∧ PlainL s.heap a its.toArray ∧ xs.length ≤ sizeLine := by
  rcases h with h | ⟨o, its, n, hk, hc, hd, hs, hz, r⟩
  · obtain ⟨z, its, n, r, e⟩ := h.ok I.hok
    exact ⟨its, r, ⟨_, n, e, rfl, rfl, rfl⟩, z⟩
  · refine ⟨its.toList, r, ⟨o, n, I.kIn a o hk, hc, hd, by simpa using hs⟩, ?_⟩
    have e := r.length
    simp only [Array.length_toList] at e
    omega
theorem Inv.tuple (I : Inv X pins σ H s) (h : SqT X.K H a xs) : ∃ its : List Value, Vals xs its ∧ IsTup s.heap a its.toArray ∧ xs.length ≤ sizeLine := by
  rcases h with h | ⟨o, its, n, hk, hc, hs, hz, r⟩
  · obtain ⟨z, its, r, p⟩ := h.ok I.hok
    exact ⟨its, r, p, z⟩
  · refine ⟨its.toList, r, ⟨o, I.kIn a o hk, hc, n, by simpa using hs⟩, ?_⟩
    have e := r.length
    simp only [Array.length_toList] at e
    omega
theorem Inv.list_inj (I : Inv X pins σ H s) (h : SqL X.K H a xs) (h' : SqL X.K H a ys) : xs = ys := by
  obtain ⟨its, r, ⟨o, n, e, _, _, d⟩, _⟩ := I.list h
  obtain ⟨its', r', ⟨o', n', e', _, _, d'⟩, _⟩ := I.list h'
  rw [e] at e'; cases e'
  rw [d] at d'
  injection d' with d1 _
  have : its = its' := by simpa using congrArg Array.toList d1
  subst this
  exact r.inj r'
end
abbrev Cx.wish (X : Cx) (E : Value → Shared → Prop) : Cx := { X with xe := E }
abbrev Cx.nox (X : Cx) : Cx := X.wish fun _ _ => False
theorem Cx.Ok.wish {X : Cx} (ok : X.Ok) (E : Value → Shared → Prop) : (X.wish E).Ok :=
  ⟨ok.mod, ok.kind, ok.glob, ok.blt, ok.above, ok.inj, ok.has, ok.cab, ok.hd, ok.frames, ok.stk, ok.exf, ok.bs, ok.bsz, ok.noex, ok.exfs, ok.funs, ok.frf⟩
theorem Cx.Ok.unwish {X : Cx} {E : Value → Shared → Prop} (ok : (X.wish E).Ok) : X.Ok :=
  ⟨ok.mod, ok.kind, ok.glob, ok.blt, ok.above, ok.inj, ok.has, ok.cab, ok.hd, ok.frames, ok.stk, ok.exf, ok.bs, ok.bsz, ok.noex, ok.exfs, ok.funs, ok.frf⟩
section
variable {X : Cx} {pins : List (Addr × Obj)} {σ : St} {H : Hp} {s : Shared} {E : Value → Shared → Prop}
theorem Inv.wish (I : Inv X pins σ H s) (E : Value → Shared → Prop) : Inv (X.wish E) pins σ H s := ⟨I.ok.wish E, I.os, I.bare, I.base, I.loc, I.cell, I.free, I.freeC, I.pin, I.hok, I.len⟩
theorem Inv.unwish (I : Inv (X.wish E) pins σ H s) : Inv X pins σ H s := ⟨I.ok.unwish, I.os, I.bare, I.base, I.loc, I.cell, I.free, I.freeC, I.pin, I.hok, I.len⟩
theorem SP.unwish {D : Ends} {f : Flow} {s' : Shared} (h : SP (X.wish E) pins D f s') : SP X pins D f s' := by
  cases f with
  | next => obtain ⟨σ', H', I, q⟩ := h; exact ⟨σ', H', I.unwish, q⟩
  | brk => obtain ⟨σ', H', I, q⟩ := h; exact ⟨σ', H', I.unwish, q⟩
  | cont => obtain ⟨σ', H', I, q⟩ := h; exact ⟨σ', H', I.unwish, q⟩
  | ret u => obtain ⟨v, σ', H', I, r, q⟩ := h; exact ⟨v, σ', H', I.unwish, r, q⟩
theorem PSs.nox {st : List Stmt} {t : TS} (h : PSs X.nox st t) : PSs X st t := fun pins s σ H D I hw =>
  wpAny_mono (h pins s σ H D (I.wish _) hw) (fun _ _ q => q.unwish) fun _ _ z => False.elim z
end
section
variable {X : Cx} {st : Stmt} {rest : List Stmt} {t u : TS} {e : Expr} {te : TE} {pos : Pos}
def tNext : TS := fun D σ H => D.nx σ H
def tSeq (t u : TS) : TS := fun D σ H => t { D with nx := u D } σ H
theorem pss_nil : PSs X [] tNext := fun _ _ σ H _ I h => wpAny_execs_nil ⟨σ, H, I, h⟩
theorem pss_cons (h1 : PS X st t) (h2 : PSs X rest u) : PSs X (st :: rest) (tSeq t u) := by
  intro pins s σ H D I h
  refine wpAny_execs_cons (thn (h1 pins s σ H { D with nx := u D } I h) fun f s1 q => ?_)
  cases f with
  | next =>
    obtain ⟨σ', H', I', q⟩ := q
    exact h2 pins s1 σ' H' D I' q
  | ret v => exact q
  | brk => exact q
  | cont => exact q
theorem pss_one (h1 : PS X st t) : PSs X [st] t := by
  intro pins s σ H D I h
  refine wpAny_execs_cons (thn (h1 pins s σ H D I h) fun f s1 q => ?_)
  cases f with
  | next => exact wpAny_execs_nil q
  | ret v => exact q
  | brk => exact q
  | cont => exact q
theorem Inv.quiet {pins : List (Addr × Obj)} {σ : St} {H : Hp} {s : Shared} (I : Inv X pins σ H s) : interactive X.env = false := by simp [interactive, I.ok.kind]
def tDrop (te : TE) : TS := fun D σ H => te σ H fun _ H1 => D.nx σ H1
theorem ps_expr (he : PE X e te) (hs : swapsWith e none pos.line X.env = pure false := by rfl) : PS X (.Expr e pos) (tDrop te) := by
  intro pins s σ H D I h
  exact wpAny_Expr_any (thn (he pins s σ H _ I h) fun v s1 ⟨x, H1, I1, r1, q1⟩ => ⟨σ, H1, I1, q1⟩) I.quiet hs
def tRet (te : TE) : TS := fun D σ H => te σ H D.rt
theorem ps_ret (he : PE X e te) : PS X (.Return (some e) pos) (tRet te) := by
  intro pins s σ H D I h
  exact wpAny_Return_some (thn (he pins s σ H _ I h) fun v s1 ⟨x, H1, I1, r1, q1⟩ => ⟨x, σ, H1, I1, r1, q1⟩)
def tIfS (c : TT) (t u : TS) : TS := fun D σ H => c σ H fun b H1 => if b = true then t D σ H1 else u D σ H1
theorem ps_if {c : Expr} {a b : List Stmt} {tc : TT} (hc : PT X c tc) (ha : PSs X a t) (hb : PSs X b u) : PS X (.If c a b pos) (tIfS tc t u) := by
  intro pins s σ H D I h
  refine wpAny_If (thn (hc pins s σ H _ I h) fun d s1 ⟨H1, I1, q1⟩ => ?_)
  cases d with
  | true => exact ha pins s1 σ H1 D I1 q1
  | false => exact hb pins s1 σ H1 D I1 q1
def tNever : TS := fun _ _ _ => False
theorem pss_never {sts : List Stmt} : PSs X sts tNever := fun _ _ _ _ _ _ h => h.elim
end
abbrev TG := V → St → Hp → (St → Hp → Prop) → Prop
abbrev TGs := List V → St → Hp → (St → Hp → Prop) → Prop
def PG (X : Cx) (target : Expr) (t : TG) : Prop :=
  ∀ (pins : List (Addr × Obj)) (s : Shared) (σ : St) (H : Hp) (v : V) (u : Value) (Q : St → Hp → Prop), Inv X pins σ H s → RelV v u → t v σ H Q →
    wpAny (model X.prog X.w) X.A (assign target X.env u) (fun _ s' => ∃ σ' H', Inv X pins σ' H' s' ∧ Q σ' H') X.xe s
def PGs (X : Cx) (ts : List Expr) (t : TGs) : Prop :=
  ∀ (pins : List (Addr × Obj)) (s : Shared) (σ : St) (H : Hp) (vs : List V) (us : List Value) (Q : St → Hp → Prop), Inv X pins σ H s → Vals vs us → t vs σ H Q →
    wpAny (model X.prog X.w) X.A (assignInOrder ((assignEach ts X.env).map (·.2)) us) (fun _ s' => ∃ σ' H', Inv X pins σ' H' s' ∧ Q σ' H') X.xe s
abbrev TSet := V → V → V → Hp → (Hp → Prop) → Prop
def PSet (X : Cx) (t : TSet) : Prop :=
  ∀ (pins : List (Addr × Obj)) (s : Shared) (σ : St) (H : Hp) (o i v : V) (ov iv u : Value) (Q : Hp → Prop), Inv X pins σ H s → RelV o ov → RelV i iv → RelV v u → t o i v H Q →
    wpAny (model X.prog X.w) X.A (setItem ov iv u) (fun _ s' => ∃ H', Inv X pins σ H' s' ∧ Q H') X.xe s
section
variable {X : Cx} {pos : Pos}
def gName (i : Nat) : TG := fun v σ H Q => Q (σ.set i (some v)) H
theorem pg_name {i : Nat} {x : Str} (hN : X.N.Nodup) (hi : X.N[i]? = some x) (hx : Loc X.env.scope x) (hf : X.fn x = true ∨ X.env.scope.names.lookup x = some .local := by first | exact .inl rfl | exact .inr rfl | assumption) : PG X (.Name x pos) (gName i) := by
  intro pins s σ H v u Q I r h
  exact wpAny_assign_Name (store_ok I hN hi hx r (fun s' I' => ⟨_, H, I', h⟩) hf)
def gNil : TGs := fun vs σ H Q => vs = [] ∧ Q σ H
def gCons (t : TG) (u : TGs) : TGs := fun vs σ H Q => ∃ v r, vs = v :: r ∧ t v σ H fun σ' H' => u r σ' H' Q
theorem pgs_nil : PGs X [] gNil := by
  intro pins s σ H vs us Q I r h
  obtain ⟨e, h⟩ := h
  subst e
  cases r
  exact assignInOrder_nil ⟨σ, H, I, h⟩
theorem pgs_cons {e : Expr} {es : List Expr} {t : TG} {u : TGs} (h1 : PG X e t) (h2 : PGs X es u)
    (hs : (assignEach (e :: es) X.env).map (·.2) = assign e X.env :: (assignEach es X.env).map (·.2) := by rfl) : PGs X (e :: es) (gCons t u) := by
  intro pins s σ H vs us Q I r h
  obtain ⟨v, vr, e1, h⟩ := h
  subst e1
  cases r with
  | cons r rr =>
    rw [hs]
    refine assignInOrder_cons (thn (h1 pins s σ H _ _ _ I r h) fun _ s1 ⟨σ1, H1, I1, q1⟩ => ?_)
    exact h2 pins s1 σ1 H1 _ _ Q I1 rr q1
def gTup (K : PySem.W.Frag) (n : Nat) (t : TGs) : TG := fun v σ H Q => ∃ a xs, v = .ref a ∧ SqT K H a xs ∧ xs.length = n ∧ t xs σ H Q
theorem pg_tup {es : List Expr} {k : Nat} {t : TGs} {n : Nat} (hc : X.calm = true) (h : PGs X es t)
    (hn : (assignEach es X.env).length = n := by rfl) (hst : (assignEach es X.env).findIdx? (·.1) = none := by rfl) : PG X (.Tuple es k pos) (gTup X.K n t) := by
  intro pins s σ H v u Q I r hw
  obtain ⟨a, xs, e1, hq, hl, hw⟩ := hw
  subst e1
  cases r
  obtain ⟨its, rv, ht, hz⟩ := I.tuple hq
  refine assign_Tuple_tuple (I.ok.hd hc) ht (by simp [hn, ← hl, rv.length]) hst fun h' hx => ?_
  have I1 : Inv X pins σ H { s with heap := h' } := I.kept (t' := s.toks) fun b o e => hx b o (Nat.ne_of_lt (Heap.lt_size e)) e
  exact h pins _ σ H xs _ Q I1 (by simpa using rv) hw
def gSub (to ti : TE) (t : TSet) : TG := fun v σ H Q => to σ H fun o H1 => ti σ H1 fun i H2 => t o i v H2 fun H3 => Q σ H3
theorem pg_sub {o i : Expr} {to ti : TE} {t : TSet} (ho : PE X o to) (hi : PE X i ti) (hs : PSet X t)
    (ha : ∀ v, assign (.Subscript o i pos) X.env v = (do
      let ov ← holding [v] (eval o X.env)
      let iv ← holding [v, ov] (eval i X.env)
      standAt pos
      holding [v, ov, iv] (setItem ov iv v)
      release [v, ov, iv] []) := by intro _; rfl) : PG X (.Subscript o i pos) (gSub to ti t) := by
  intro pins s σ H v u Q I r h
  rw [ha]
  refine wpAny_bind (wpAny_holding (thn (ho pins s σ H _ I h) fun ov s1 ⟨x, H1, I1, r1, q1⟩ => ?_))
  refine wpAny_bind (wpAny_holding (thn (hi pins s1 σ H1 _ I1 q1) fun iv s2 ⟨y, H2, I2, r2, q2⟩ => ?_))
  refine wpAny_bind (wpAny_standAt (wpAny_bind (wpAny_holding (thn (hs pins s2 σ H2 x y v ov iv u _ I2 r1 r2 r q2) fun _ s3 ⟨H3, I3, q3⟩ => ?_))))
  exact wpAny_release ⟨σ, H3, I3, q3⟩
def tAsg (te : TE) (g : TG) : TS := fun D σ H => te σ H fun x H1 => g x σ H1 D.nx
theorem ps_asg {tg e : Expr} {te : TE} {g : TG} (he : PE X e te) (hg : PG X tg g) (hs : swapsWithSole [tg] e pos.line X.env = pure false := by rfl) (hw : swappedStores [tg] e X.env = pure none := by rfl)
    (h1 : (assignEach [tg] X.env).map (·.2) = [assign tg X.env] := by rfl) : PS X (.Assign [tg] e pos) (tAsg te g) := by
  intro pins s σ H D I h
  refine wpAny_Assign_stores (thn (he pins s σ H _ I h) fun v s1 ⟨x, H1, I1, r1, q1⟩ => ?_) hs hw
  rw [h1]
  exact thn (hg pins s1 σ H1 x v _ I1 r1 q1) fun _ s2 q => q
theorem ps_set {i : Nat} {x : Str} {e : Expr} {te : TE} {pos' : Pos} (hN : X.N.Nodup) (hi : X.N[i]? = some x) (hx : Loc X.env.scope x) (he : PE X e te) (hs : swapsWith e (some (.Name x pos')) pos.line X.env = pure false := by rfl) (hf : X.fn x = true ∨ X.env.scope.names.lookup x = some .local := by first | exact .inl rfl | exact .inr rfl | assumption) :
    PS X (.Assign [.Name x pos'] e pos) (tAsg te (gName i)) := by
  intro pins s σ H D I h
  refine wpAny_Assign_Name (thn (he pins s σ H _ I h) fun v s1 ⟨y, H1, I1, r1, q1⟩ => ?_) hs
  exact store_ok I1 hN hi hx r1 (fun s2 I2 => ⟨_, H1, I2, q1⟩) hf
end
section
variable {X : Cx} {pos : Pos}
end
structure It where
  go : Nat → Hp → Prop
  yld : Nat → Hp → V → Hp → Prop
  stop : Nat → Hp → Prop
def FpOk (X : Cx) (pins : List (Addr × Obj)) (H : Hp) (b : Addr) : Prop :=
  H b = none ∧ b ≠ X.env.locals ∧ b ∉ X.fs ∧ (b ∈ X.ex ∨ X.s₀.heap.objs.size ≤ b) ∧ (∀ x c, X.env.cells.lookup x = some c → c ≠ b) ∧ ∀ p ∈ X.pn ++ pins, p.1 ≠ b
theorem Inv.fpOk {X : Cx} {pins : List (Addr × Obj)} {σ : St} {H H' : Hp} {s : Shared} {b : Addr} (I : Inv X pins σ H s) (hb : s.heap.objs.size ≤ b) (hn : H' b = none) : FpOk X pins H' b := by
  refine ⟨hn, Nat.ne_of_gt (Nat.lt_of_lt_of_le I.lt hb), I.nofs hb, .inr (Nat.le_trans I.sz hb), fun x c e z => ?_, fun p hp z => ?_⟩
  · obtain ⟨v, q⟩ := I.cell x c e
    exact absurd (Nat.lt_of_lt_of_le q.lt (by rw [z]; exact hb)) (Nat.lt_irrefl _)
  · exact absurd (Nat.lt_of_lt_of_le (Heap.lt_size (I.pin p hp).1) (by rw [z]; exact hb)) (Nat.lt_irrefl _)
structure Turn (P : Program) (w : World) (K : PySem.W.Frag) (tg : Expr) (J : It) (fp : List Addr) (it : Addr) (tn : Nat → Heap → Prop) : Prop where
  mem : it ∈ fp
  obj : ∀ i h, tn i h → ∀ b ∈ fp, ∃ o, h.get? b = some o ∧ ∀ v, o.data ≠ .cell v
  keep : ∀ i h h', tn i h → (∀ b ∈ fp, ∀ o, h.get? b = some o → h'.get? b = some o) → tn i h'
  item : ∀ (X : Cx), X.prog = P → X.w = w → X.K = K → X.calm = true → ∀ (i : Nat) (pins : List (Addr × Obj)) (s : Shared) (σ : St) (H : Hp) (E : Value → Shared → Prop), Inv X pins σ H s → (∀ b ∈ fp, FpOk X pins H b) → tn i s.heap → J.go i H →
    wpAny (model P w) X.A (pyNext (.ref it)) (fun r s1 => ∃ u, r = some u ∧
      wpAny (model P w) X.A (letOwnedTupleGo tg (.ref it) u) (fun _ s2 => ∃ x H', Inv X pins σ H' s2 ∧ RelV x u ∧ J.yld i H x H' ∧ tn (i + 1) s2.heap ∧ ∀ b ∈ fp, H' b = none) E s1) E s
  done : ∀ (X : Cx), X.prog = P → X.w = w → X.K = K → X.calm = true → ∀ (i : Nat) (pins : List (Addr × Obj)) (s : Shared) (σ : St) (H : Hp) (E : Value → Shared → Prop), Inv X pins σ H s → (∀ b ∈ fp, FpOk X pins H b) → tn i s.heap → J.stop i H →
    wpAny (model P w) X.A (pyNext (.ref it)) (fun r s1 => r = none ∧ Inv X pins σ H s1) E s
  self : ∀ (A : Around) (i : Nat) (s : Shared) (Q : Value → Shared → Prop) (E : Value → Shared → Prop), tn i s.heap → Q (.ref it) s → wpAny (model P w) A (pyIter (.ref it)) Q E s
abbrev TI := St → Hp → (It → Hp → Prop) → Prop
def PIE (X : Cx) (pins : List (Addr × Obj)) (σ : St) (tg : Expr) (R : It → Hp → Prop) (itv : Value) (s2 : Shared) : Prop :=
  ∃ (it : Addr) (fp : List Addr) (tn : Nat → Heap → Prop) (J : It) (H' : Hp), itv = .ref it ∧ Inv X pins σ H' s2 ∧ Turn X.prog X.w X.K tg J fp it tn ∧ tn 0 s2.heap ∧ (∀ b ∈ fp, FpOk X pins H' b) ∧ R J H'
def PI (X : Cx) (tg iter : Expr) (wi : TI) : Prop :=
  ∀ (pins : List (Addr × Obj)) (s : Shared) (σ : St) (H : Hp) (R : It → Hp → Prop), Inv X pins σ H s → wi σ H R →
    wpAny (model X.prog X.w) X.A (eval iter X.env) (fun v s1 => wpAny (model X.prog X.w) X.A (pyIter v) (PIE X pins σ tg R) X.xe s1) X.xe s
theorem go_of {M : Model} {A : Around} {E : Value → Shared → Prop} {s : Shared} {tg : Expr} {it : Addr} {u : Value} {o : Obj} {n : String} {vs : Array Value} {Q : Unit → Shared → Prop} (ho : s.heap.get? it = some o) (hc : o.cls = .type n) (hd : o.data = .fields vs)
    (hn : ["enumerate", "zip", "dict_itemiterator", "dict_reverseitemiterator", "odict_iterator", "itertools.zip_longest", "itertools.pairwise"].contains n = false) (hQ : Q () s) : wpAny M A (letOwnedTupleGo tg (.ref it) u) Q E s := by
  unfold letOwnedTupleGo
  cases tg <;> first
    | exact wpAny_pure hQ
    | (cases u <;> first
        | exact wpAny_pure hQ
        | (refine wpAny_bind (wpAny_load ho ?_)
           rw [hc, hd]
           show wpAny M A (if (["enumerate", "zip", "dict_itemiterator", "dict_reverseitemiterator", "odict_iterator", "itertools.zip_longest", "itertools.pairwise"].contains n && vs[0]? == some (rawInt _)) = true then _ else _) Q E s
           rw [if_neg (by intro h; rw [hn, Bool.false_and] at h; cases h)]
           exact wpAny_pure hQ))
def Itl (K : PySem.W.Frag) (a : Addr) : It :=
  ⟨fun i H => ∃ xs x, SqL K H a xs ∧ xs[i]? = some x, fun i H x H' => H' = H ∧ ∀ xs, SqL K H a xs → xs[i]? = some x, fun i H => ∃ xs, SqL K H a xs ∧ xs.length ≤ i⟩
def Itr (lo : Int) (n : Nat) : It := ⟨fun i _ => i < n, fun i H x H' => H' = H ∧ x = .int (lo + i), fun i _ => n ≤ i⟩
theorem turn_list {P : Program} {w : World} {K : PySem.W.Frag} {tg : Expr} (a it : Addr) : Turn P w K tg (Itl K a) [it] it (fun i h => h.IsListIter it a i) where
  mem := by simp
  obj := fun i h st b hb => by
    have e : b = it := by simpa using hb
    subst e
    obtain ⟨o, e, c, d⟩ := st
    exact ⟨o, e, fun v z => by rw [d] at z; cases z⟩
  keep := fun i h h' st k => st.at fun o e => k it (by simp) o e
  item := by
    intro X hP hw hK hc i pins s σ H E I hf st hg
    subst hP hw hK
    obtain ⟨xs, x, hq, hx⟩ := hg
    obtain ⟨its, rv, p, hz⟩ := I.list hq
    obtain ⟨u, hu, ru⟩ := rv.get hx
    obtain ⟨f0, f1, f2, f3, f4, f5⟩ := hf it (by simp)
    refine wpAny_pyNext_list_item st p.isList (x := u) (by simpa using hu) fun h' st' sb => ?_
    have I1 : Inv X pins σ H { s with heap := h' } := I.turned (t' := s.toks) (fun b o hb e => (sb.2 b hb).trans e) f0 f1 f3 f4 f5
    obtain ⟨o, e, c, d⟩ := id st'
    exact ⟨u, rfl, go_of (s := { s with heap := h' }) e c d (by decide) ⟨x, H, I1, ru, ⟨rfl, fun ys hy => by rw [I.list_inj hy hq]; exact hx⟩, st', fun b hb => (hf b hb).1⟩⟩
  done := by
    intro X hP hw hK hc i pins s σ H E I hf st hg
    subst hP hw hK
    obtain ⟨xs, hq, hx⟩ := hg
    obtain ⟨its, rv, p, hz⟩ := I.list hq
    obtain ⟨f0, f1, f2, f3, f4, f5⟩ := hf it (by simp)
    have hl := rv.length
    exact wpAny_pyNext_list_end (I.ok.hd hc) st p.isList (by simp; omega) fun h' eb => ⟨rfl, I.turned (t' := s.toks) (fun b o hb e => eb b o hb e) f0 f1 f3 f4 f5⟩
  self := fun _ _ _ _ _ st h => wpAny_pyIter_listiter st h
theorem turn_range {P : Program} {w : World} {K : PySem.W.Frag} {tg : Expr} (it : Addr) (lo : Int) (n : Nat) : Turn P w K tg (Itr lo n) [it] it (fun i h => IsRangeIter h it (lo + (i : Nat) * 1) ((n : Int) - (i : Nat)) 1) where
  mem := by simp
  obj := fun i h st b hb => by
    have e : b = it := by simpa using hb
    subst e
    exact ⟨_, st, fun v z => by
      have z' : Data.fields _ = Data.cell v := z
      cases z'⟩
  keep := fun i h h' st k => k it (by simp) _ st
  item := by
    intro X hP hw hK hc i pins s σ H E I hf st hg
    subst hP hw hK
    obtain ⟨f0, f1, f2, f3, f4, f5⟩ := hf it (by simp)
    have W := Walks.range (prog := X.prog) (w := X.w) (I.ok.hd hc) it lo 1 n
    refine W.item i s _ _ hg st fun v h' tk hv st' kk => ?_
    obtain ⟨t, rfl⟩ := hv
    have I1 : Inv X pins σ H { s with heap := h', toks := tk } := I.turned (fun b o hb e => kk b o (by simpa using hb) e) f0 f1 f3 f4 f5
    refine ⟨_, rfl, go_of (s := { s with heap := h', toks := tk }) (n := "range_iterator") st' rfl rfl (by decide) ⟨.int (lo + i), H, I1, ⟨t, ?_⟩, ⟨rfl, rfl⟩, st', fun b hb => (hf b hb).1⟩⟩
    rw [Int.mul_one]
  done := by
    intro X hP hw hK hc i pins s σ H E I hf st hg
    subst hP hw hK
    obtain ⟨f0, f1, f2, f3, f4, f5⟩ := hf it (by simp)
    exact wpAny_pyNext_range_end (I.ok.hd hc) st (by have : n ≤ i := hg; omega) fun h' eb => ⟨rfl, I.turned (t' := s.toks) (fun b o hb e => eb b o hb e) f0 f1 f3 f4 f5⟩
  self := fun _ _ _ _ _ st h => wpAny_pyIter_rangeiter st h
end L2
namespace L2
open PySem PySem.Spec PyProof.Rows
section
variable {X : Cx} {tg : Expr}
def iList (K : PySem.W.Frag) (tl : TE) : TI := fun σ H R => tl σ H fun x H1 => ∃ a, x = .ref a ∧ (∃ xs, SqL K H1 a xs) ∧ R (Itl K a) H1
theorem pi_list {l : Expr} {tl : TE} (hl : PE X l tl) : PI X tg l (iList X.K tl) := by
  intro pins s σ H R I h
  refine thn (hl pins s σ H _ I h) fun v s1 ⟨x, H1, I1, r1, q1⟩ => ?_
  obtain ⟨a, e, ⟨xs, hq⟩, q⟩ := q1
  subst e
  cases r1
  obtain ⟨its, rv, p, hz⟩ := I1.list hq
  refine wpAny_pyIter_list p.isList ?_
  refine ⟨s1.heap.objs.size, [s1.heap.objs.size], _, _, H1, rfl, I1.kept (t' := s1.toks) fun b o e => Heap.get?_push_of_some _ e, turn_list a _, ⟨_, Heap.get?_push_size _ rfl, rfl, rfl⟩, fun b hb => ?_, q⟩
  have e : b = s1.heap.objs.size := by simpa using hb
  subst e
  exact I1.fpOk (Nat.le_refl _) (I1.hok.fresh (Nat.le_refl _))
theorem range_it {pins : List (Addr × Obj)} {σ : St} {H : Hp} {s : Shared} {R : It → Hp → Prop} {E : Value → Shared → Prop} {lo hi : Int} {t u v : Tok} {tk : Nat} (I : Inv X pins σ H s) (h1 : -(2 ^ 62) ≤ lo) (h2 : lo < 2 ^ 62) (h3 : -(2 ^ 62) ≤ hi) (h4 : hi < 2 ^ 62)
    (q : R (Itr lo (hi - lo).toNat) H) : wpAny (model X.prog X.w) X.A (pyIter (.ref s.heap.objs.size)) (PIE X pins σ tg R) E { s with heap := s.heap.push { cls := .type "range", data := .fields #[.int lo t, .int hi u, .int 1 v] }, toks := tk } := by
  refine wpAny_pyIter_range (IsRange.new ..) (small_one h1 h2 h3 h4) ?_
  have I1 : Inv X pins σ H { s with heap := s.heap.push { cls := .type "range", data := .fields #[.int lo t, .int hi u, .int 1 v] }, toks := tk } := I.kept fun b o e => Heap.get?_push_of_some _ e
  refine ⟨(s.heap.push { cls := .type "range", data := .fields #[.int lo t, .int hi u, .int 1 v] }).objs.size, [(s.heap.push { cls := .type "range", data := .fields #[.int lo t, .int hi u, .int 1 v] }).objs.size], _, _, H, rfl,
    I1.kept (t' := tk) fun b o e => Heap.get?_push_of_some _ e, turn_range _ lo (hi - lo).toNat, ?_, fun b hb => ?_, q⟩
  · have e1 : lo + ((0 : Nat) : Int) * 1 = lo := by simp
    have e2 : (((hi - lo).toNat : Nat) : Int) - ((0 : Nat) : Int) = Builtin.Range.rangeSize lo hi 1 := by rw [rangeSize_one]; split <;> omega
    show IsRangeIter _ _ (lo + ((0 : Nat) : Int) * 1) ((((hi - lo).toNat : Nat) : Int) - ((0 : Nat) : Int)) 1
    rw [e1, e2]
    exact Heap.get?_push_size _ rfl
  · have e : b = (s.heap.push { cls := .type "range", data := .fields #[.int lo t, .int hi u, .int 1 v] }).objs.size := by simpa using hb
    subst e
    exact I1.fpOk (Nat.le_refl _) (I1.hok.fresh (Nat.le_refl _))
def iRng1 (ta : TA) : TI := fun σ H R => ta σ H fun vs H1 => ∃ j : Int, vs = [.int j] ∧ -(2 ^ 62) ≤ j ∧ j < 2 ^ 62 ∧ R (Itr 0 j.toNat) H1
theorem pi_range1 {a : Expr} {ta : TA} {p pos : Pos} (hg : Gl X "range") (hm : X.mg "range" = none) (ha : PA X [a] ta) (hs : starEach [a] X.env = [(false, eval a X.env)] := by rfl) : PI X tg (.Call (.Name "range" p) [a] [] pos) (iRng1 ta) := by
  intro pins s σ H R I h
  refine Call_ (ld_blt I hg hm boot_range (PyProof.Rows.callWith_type1 (thn (ha pos pins s σ H _ I h) fun us s1 ⟨vs, H1, I1, r1, q1⟩ => ?_) hs rfl))
  obtain ⟨j, e, q1, q2, q⟩ := q1
  subst e
  cases r1 with
  | cons r rr =>
    cases rr
    obtain ⟨t, rfl⟩ := r
    exact call_range_1 (range_it I1 (by omega) (by omega) q1 q2 (by simpa using q))
def tFor (wi : TI) (g : TG) (tb : TS) : TS := fun D σ H => wi σ H fun J H1 => ∃ W : Nat → Nat → St → Hp → Prop, (∃ m, W 0 m σ H1) ∧ ∀ i m σ H, W i m σ H →
  (J.stop i H ∧ D.nx σ H) ∨ (J.go i H ∧ ∃ N : St → Hp → Prop, (∀ σ' H', N σ' H' → ∃ m', m' < m ∧ W (i + 1) m' σ' H') ∧ ∀ x H', J.yld i H x H' → g x σ H' fun σ2 H2 => tb { D with nx := N, ct := N, bk := D.nx } σ2 H2)
def pinsAt (fp : List Addr) (h : Heap) : List (Addr × Obj) := fp.filterMap fun b => (h.get? b).map fun o => (b, o)
theorem mem_pinsAt {fp : List Addr} {h : Heap} {b : Addr} {o : Obj} (hb : b ∈ fp) (e : h.get? b = some o) : (b, o) ∈ pinsAt fp h := List.mem_filterMap.mpr ⟨b, hb, by rw [e]; rfl⟩
theorem of_pinsAt {fp : List Addr} {h : Heap} {p : Addr × Obj} (hp : p ∈ pinsAt fp h) : p.1 ∈ fp ∧ h.get? p.1 = some p.2 := by
  obtain ⟨b, hb, e⟩ := List.mem_filterMap.mp hp
  cases q : h.get? b with
  | none => rw [q] at e; cases e
  | some o =>
    rw [q] at e
    have e' : (b, o) = p := Option.some.inj e
    subst e'
    exact ⟨hb, q⟩
theorem Inv.pinned {pins : List (Addr × Obj)} {σ : St} {H : Hp} {s : Shared} {fp : List Addr} (I : Inv X pins σ H s) (hf : ∀ b ∈ fp, FpOk X pins H b) (ho : ∀ b ∈ fp, ∃ o, s.heap.get? b = some o ∧ ∀ v, o.data ≠ .cell v) : Inv X (pins ++ pinsAt fp s.heap) σ H s :=
  I.pins_of fun p hp => (List.mem_append.mp hp).elim (fun z => I.pin p (List.mem_append_right _ z)) fun z => by
    obtain ⟨hb, e⟩ := of_pinsAt z
    obtain ⟨f0, f1, f2, _⟩ := hf p.1 hb
    obtain ⟨o, e', d⟩ := ho p.1 hb
    rw [e] at e'; cases e'
    exact ⟨e, f0, f1, f2, d⟩
theorem Inv.unpinned {pins pl : List (Addr × Obj)} {σ : St} {H : Hp} {s : Shared} (I : Inv X (pins ++ pl) σ H s) : Inv X pins σ H s := I.pins_of fun p hp => I.pin p (List.mem_append_right _ (List.mem_append_left _ hp))
theorem ps_for {iter : Expr} {body : List Stmt} {wi : TI} {g : TG} {tb : TS} {pos : Pos} (hp : PassesOwn (model X.prog X.w) X.A X.env X.xe) (hc : X.calm = true) (hi : PI X tg iter wi) (hg : PG X tg g) (hb : PSs X body tb)
    (hs : ∀ x, foldedSetIterable iter X.env x = pure x := by intro _; rfl) : PS X (.For tg iter body [] pos) (tFor wi g tb) := by
  intro pins s σ H D I h
  refine wpAny_For (thn (hi pins s σ H _ I h) fun v s1 h1 => thn h1 fun itv s2 h2 => ?_) hs
  obtain ⟨it, fp, tn, J, H2, e, I2, T, st2, f2, W, ⟨m0, w0⟩, turn⟩ := h2
  subst e
  -- what stays true of the iterator's objects through the loop
  have stat : ∀ {H' : Hp}, (∀ b ∈ fp, H' b = none) → ∀ b ∈ fp, FpOk X pins H' b := fun hn b hb => ⟨hn b hb, (f2 b hb).2⟩
  refine codeAny_forLoop_any (fun n s' => ∃ i σ' H', Inv X pins σ' H' s' ∧ tn i s'.heap ∧ (∀ b ∈ fp, H' b = none) ∧ W i n σ' H') ?_ m0 ⟨0, σ, H2, I2, st2, fun b hb => (f2 b hb).1, w0⟩
  rintro n s3 ⟨i, σ3, H3, I3, st3, fr3, w3⟩
  rcases turn i n σ3 H3 w3 with ⟨stop, qn⟩ | ⟨go, N, hN, step⟩
  · refine wpAny_passesOwn hp (thn (T.done X rfl rfl rfl hc i pins s3 σ3 H3 X.xe I3 (stat fr3) st3 stop) fun r s4 ⟨hr, I4⟩ => ?_)
    subst hr
    exact wpAny_execs_nil ⟨σ3, H3, I4, qn⟩
  · refine wpAny_passesOwn hp (thn (T.item X rfl rfl rfl hc i pins s3 σ3 H3 X.xe I3 (stat fr3) st3 go) fun r s4 ⟨u, hr, h4⟩ => ?_)
    subst hr
    refine wpAny_passesOwn hp (thn h4 fun _ s5 ⟨x, H5, I5, r5, y5, st5, fr5⟩ => ?_)
    have I5' := I5.pinned (stat fr5) (T.obj _ _ st5)
    refine wpAny_passesOwn hp (thn (hg _ s5 σ3 H5 x u _ I5' r5 (step x H5 y5)) fun _ s6 ⟨σ6, H6, I6, q6⟩ => ?_)
    refine wpAny_passesOwn hp (thn (hb _ s6 σ6 H6 _ I6 q6) fun f s7 q7 => ?_)
    have again : ∀ {σ7 : St} {H7 : Hp}, Inv X (pins ++ pinsAt fp s5.heap) σ7 H7 s7 → N σ7 H7 → ∃ m, m < n ∧ ∃ i σ' H', Inv X pins σ' H' s7 ∧ tn i s7.heap ∧ (∀ b ∈ fp, H' b = none) ∧ W i m σ' H' := fun {σ7 H7} I7 n7 => by
      obtain ⟨m', hm, w7⟩ := hN σ7 H7 n7
      refine ⟨m', hm, i + 1, σ7, H7, I7.unpinned, T.keep _ _ _ st5 fun b hb o e => (I7.pin (b, o) (List.mem_append_right _ (List.mem_append_right _ (mem_pinsAt hb e)))).1, fun b hb => ?_, w7⟩
      obtain ⟨o, e, d⟩ := T.obj _ _ st5 b hb
      exact (I7.pin (b, o) (List.mem_append_right _ (List.mem_append_right _ (mem_pinsAt hb e)))).2.1
    cases f with
    | next => obtain ⟨σ7, H7, I7, n7⟩ := q7; exact again I7 n7
    | cont => obtain ⟨σ7, H7, I7, n7⟩ := q7; exact again I7 n7
    | brk => obtain ⟨σ7, H7, I7, q7⟩ := q7; exact ⟨σ7, H7, I7.unpinned, q7⟩
    | ret v => obtain ⟨x7, σ7, H7, I7, r7, q7⟩ := q7; exact ⟨x7, σ7, H7, I7.unpinned, r7, q7⟩
end
theorem for_list {K : PySem.W.Frag} {a : Addr} {xs : List V} {g : TG} {tb : TS} {D : Ends} {σ : St} {H : Hp} (Pv : Nat → St → Hp → Prop) (h0 : Pv 0 σ H) (hl : ∀ i σ H, i ≤ xs.length → Pv i σ H → SqL K H a xs)
    (hs : ∀ i x σ H, xs[i]? = some x → Pv i σ H → g x σ H fun σ2 H2 => tb { D with nx := Pv (i + 1), ct := Pv (i + 1), bk := D.nx } σ2 H2) (hd : ∀ σ H, Pv xs.length σ H → D.nx σ H) :
    ∃ W : Nat → Nat → St → Hp → Prop, (∃ m, W 0 m σ H) ∧ ∀ i m σ H, W i m σ H →
      ((Itl K a).stop i H ∧ D.nx σ H) ∨ ((Itl K a).go i H ∧ ∃ N : St → Hp → Prop, (∀ σ' H', N σ' H' → ∃ m', m' < m ∧ W (i + 1) m' σ' H') ∧ ∀ x H', (Itl K a).yld i H x H' → g x σ H' fun σ2 H2 => tb { D with nx := N, ct := N, bk := D.nx } σ2 H2) := by
  refine ⟨fun i m σ H => m = xs.length - i ∧ i ≤ xs.length ∧ Pv i σ H, ⟨xs.length, by simp, Nat.zero_le _, h0⟩, ?_⟩
  rintro i m σ H ⟨rfl, hi, p⟩
  have q := hl i σ H hi p
  by_cases hlt : i < xs.length
  · refine .inr ⟨⟨xs, xs[i], q, by simp [hlt]⟩, Pv (i + 1), fun σ' H' p' => ⟨xs.length - (i + 1), by omega, rfl, hlt, p'⟩, fun x H' y => ?_⟩
    obtain ⟨e, y⟩ := y
    subst e
    exact hs i x σ _ (y xs q) p
  · have e : i = xs.length := by omega
    subst e
    exact .inl ⟨⟨xs, q, Nat.le_refl _⟩, hd σ H p⟩
theorem for_range {lo : Int} {n : Nat} {g : TG} {tb : TS} {D : Ends} {σ : St} {H : Hp} (Pv : Nat → St → Hp → Prop) (h0 : Pv 0 σ H)
    (hs : ∀ i σ H, i < n → Pv i σ H → g (.int (lo + i)) σ H fun σ2 H2 => tb { D with nx := Pv (i + 1), ct := Pv (i + 1), bk := D.nx } σ2 H2) (hd : ∀ σ H, Pv n σ H → D.nx σ H) :
    ∃ W : Nat → Nat → St → Hp → Prop, (∃ m, W 0 m σ H) ∧ ∀ i m σ H, W i m σ H →
      ((Itr lo n).stop i H ∧ D.nx σ H) ∨ ((Itr lo n).go i H ∧ ∃ N : St → Hp → Prop, (∀ σ' H', N σ' H' → ∃ m', m' < m ∧ W (i + 1) m' σ' H') ∧ ∀ x H', (Itr lo n).yld i H x H' → g x σ H' fun σ2 H2 => tb { D with nx := N, ct := N, bk := D.nx } σ2 H2) := by
  refine ⟨fun i m σ H => m = n - i ∧ i ≤ n ∧ Pv i σ H, ⟨n, by simp, Nat.zero_le _, h0⟩, ?_⟩
  rintro i m σ H ⟨rfl, hi, p⟩
  by_cases hlt : i < n
  · refine .inr ⟨hlt, Pv (i + 1), fun σ' H' p' => ⟨n - (i + 1), by omega, rfl, hlt, p'⟩, fun x H' y => ?_⟩
    obtain ⟨e, y⟩ := y
    subst e y
    exact hs i σ _ hlt p
  · have e : i = n := by omega
    subst e
    exact .inl ⟨Nat.le_refl _, hd σ H p⟩
end L2
namespace L2
open PySem PySem.Spec PyProof.Rows
abbrev R2 := V → V → Hp → VK → Prop
def OpR (X : Cx) (f : Value → Value → Sem Value) (r : R2) : Prop :=
  ∀ (pins : List (Addr × Obj)) (s : Shared) (σ : St) (H : Hp) (x y : V) (v u : Value) (Q : VK), Inv X pins σ H s → RelV x v → RelV y u → r x y H Q →
    wpAny (model X.prog X.w) X.A (f v u) (EP X pins σ Q) X.xe s
def CallR (X : Cx) (f : Value) (r : List V → Hp → VK → Prop) : Prop :=
  ∀ (pins : List (Addr × Obj)) (s : Shared) (σ : St) (H : Hp) (xs : List V) (us : List Value) (Q : VK), Inv X pins σ H s → Vals xs us → r xs H Q →
    wpAny (model X.prog X.w) X.A (call f us) (EP X pins σ Q) X.xe s
def tOp (r : R2) (ta tb : TE) : TE := fun σ H Q => ta σ H fun x H1 => tb σ H1 fun y H2 => r x y H2 Q
def rI (C : Int → Int → Prop) (g : Int → Int → V) : R2 := fun x y H Q => ∃ i j, x = .int i ∧ y = .int j ∧ C i j ∧ Q (g i j) H
def rI0 (g : Int → Int → V) : R2 := fun x y H Q => ∃ i j, x = .int i ∧ y = .int j ∧ Q (g i j) H
section
variable {X : Cx} {a b c : Expr} {ta tb tc : TE} {pos : Pos}
theorem binT (ha : PE X a ta) (hb : PE X b tb) {pins : List (Addr × Obj)} {s : Shared} {σ : St} {H : Hp} {R : V → V → Hp → Prop} (I : Inv X pins σ H s)
    (h : ta σ H fun x H1 => tb σ H1 fun y H2 => R x y H2) {Q : Value → Shared → Prop} {f : Value → Value → Sem Value}
    (hf : ∀ v u s2 x y H2, Inv X pins σ H2 s2 → RelV x v → RelV y u → R x y H2 → wpAny (model X.prog X.w) X.A (f v u) Q X.xe s2) :
    wpAny (model X.prog X.w) X.A (eval a X.env) (fun v s₁ => wpAny (model X.prog X.w) X.A (eval b X.env) (fun u s₂ => wpAny (model X.prog X.w) X.A (f v u) Q X.xe s₂) X.xe s₁) X.xe s := by
  refine thn (ha pins s σ H _ I h) fun v s1 ⟨x, H1, I1, r1, q1⟩ => ?_
  refine thn (hb pins s1 σ H1 _ I1 q1) fun u s2 ⟨y, H2, I2, r2, q2⟩ => ?_
  exact hf v u s2 x y H2 I2 r1 r2 q2
theorem pe_op {op : Operator} {r : R2} (ho : OpR X (binaryOp op) r) (ha : PE X a ta) (hb : PE X b tb) : PE X (.BinOp a op b pos) (tOp r ta tb) := by
  intro pins s σ H Q I h
  exact wpAny_BinOp (binT ha hb I h fun v u s2 x y H2 I2 rx ry q => ho pins s2 σ H2 x y v u Q I2 rx ry q)
theorem opI {f : Value → Value → Sem Value} {C : Int → Int → Prop} {g : Int → Int → Int}
    (rule : ∀ (i j : Int) (t u : Tok) (s : Shared) (Q : Value → Shared → Prop) (E : Value → Shared → Prop), C i j → Q (.int (g i j) s.toks) { s with toks := s.toks + 1 } → wpAny (model X.prog X.w) X.A (f (.int i t) (.int j u)) Q E s) :
    OpR X f (rI C fun i j => .int (g i j)) := by
  intro pins s σ H x y v u Q I rx ry h
  obtain ⟨i, j, rfl, rfl, hc, q⟩ := h
  obtain ⟨t, rfl⟩ := rx
  obtain ⟨t', rfl⟩ := ry
  exact rule i j t t' s _ _ hc ⟨.int (g i j), H, I.tok _, ⟨_, rfl⟩, q⟩
theorem opI0 {f : Value → Value → Sem Value} {g : Int → Int → Int}
    (rule : ∀ (i j : Int) (t u : Tok) (s : Shared) (Q : Value → Shared → Prop) (E : Value → Shared → Prop), Q (.int (g i j) s.toks) { s with toks := s.toks + 1 } → wpAny (model X.prog X.w) X.A (f (.int i t) (.int j u)) Q E s) :
    OpR X f (rI0 fun i j => .int (g i j)) := by
  intro pins s σ H x y v u Q I rx ry h
  obtain ⟨i, j, rfl, rfl, q⟩ := h
  obtain ⟨t, rfl⟩ := rx
  obtain ⟨t', rfl⟩ := ry
  exact rule i j t t' s _ _ ⟨.int (g i j), H, I.tok _, ⟨_, rfl⟩, q⟩
theorem opB0 {f : Value → Value → Sem Value} {g : Int → Int → Bool}
    (rule : ∀ (i j : Int) (t u : Tok) (s : Shared) (Q : Value → Shared → Prop) (E : Value → Shared → Prop), Q (.bool (g i j)) s → wpAny (model X.prog X.w) X.A (f (.int i t) (.int j u)) Q E s) :
    OpR X f (rI0 fun i j => .bl (g i j)) := by
  intro pins s σ H x y v u Q I rx ry h
  obtain ⟨i, j, rfl, rfl, q⟩ := h
  obtain ⟨t, rfl⟩ := rx
  obtain ⟨t', rfl⟩ := ry
  exact rule i j t t' s _ _ ⟨.bl (g i j), H, I, rfl, q⟩
def CDiv (i j : Int) : Prop := 0 < j ∧ j < 1073741824
def CPow (i j : Int) : Prop := 0 ≤ j ∧ j ≤ 1000000 ∧ i.natAbs < 2 ^ 64
def CMul (i j : Int) : Prop := (-(2 ^ 64) < i ∧ i < 2 ^ 64) ∨ (-(2 ^ 64) < j ∧ j < 2 ^ 64)
theorem CMul.ok {i j : Int} (h : CMul i j) : IntMulOk i j := by
  rcases h with ⟨h1, h2⟩ | ⟨h1, h2⟩
  · exact .of_left (intBits_le_64 h1 h2)
  · exact .of_right (intBits_le_64 h1 h2)
theorem two_pow_nn (k : Nat) : (0 : Int) ≤ 2 ^ k := by
  rw [two_pow_cast]
  exact Int.natCast_nonneg _
theorem op_add : OpR X (binaryOp .Add) (rI0 fun i j => .int (i + j)) := opI0 fun _ _ _ _ _ _ _ q => add_int q
theorem op_sub : OpR X (binaryOp .Sub) (rI0 fun i j => .int (i - j)) := opI0 fun _ _ _ _ _ _ _ q => sub_int q
theorem op_mul : OpR X (binaryOp .Mult) (rI CMul fun i j => .int (i * j)) := opI fun _ _ _ _ _ _ _ hc q => mul_int q hc.ok
theorem op_fdiv : OpR X (binaryOp .FloorDiv) (rI CDiv fun i j => .int (i / j)) := opI fun i j _ _ _ _ _ hc q => by
  have h1 : (0 : Int) < j := hc.1
  have h2 : j < 1073741824 := hc.2
  exact floordiv_int (by omega) (by rw [Int.fdiv_eq_ediv_of_nonneg i (by omega)]; exact q) (.inl (PyProof.noPylong_small (by omega)))
theorem op_mod : OpR X (binaryOp .Mod) (rI (fun _ j => 0 < j) fun i j => .int (i % j)) := opI fun i j _ _ _ _ _ hc q => by
  have h1 : (0 : Int) < j := hc
  exact mod_int' (by omega) (by rw [Int.fmod_eq_emod_of_nonneg i (by omega)]; exact q)
theorem op_shl : OpR X (binaryOp .LShift) (rI CPow fun i j => .int (i * 2 ^ j.toNat)) := opI fun _ _ _ _ _ _ _ hc q => lshift_int_small hc.1 hc.2.1 hc.2.2 q
theorem op_shr : OpR X (binaryOp .RShift) (rI (fun _ j => 0 ≤ j) fun i j => .int (i / 2 ^ j.toNat)) := opI fun i j _ _ _ _ _ hc q =>
  rshift_int hc (by rw [Int.fdiv_eq_ediv_of_nonneg i (two_pow_nn _)]; exact q)
theorem op_and : OpR X (binaryOp .BitAnd) (rI0 fun i j => .int (Builtin.bitAnd i j)) := opI0 fun _ _ _ _ _ _ _ q => and_int q
theorem op_xor : OpR X (binaryOp .BitXor) (rI0 fun i j => .int (Builtin.bitXor i j)) := opI0 fun _ _ _ _ _ _ _ q => xor_int q
end
def scal : V → V → Bool
  | .non, .non => true | .non, .int _ => true | .int _, .non => true | .non, .bl _ => true | .bl _, .non => true | .non, .str _ => true | .str _, .non => true
  | .int _, .int _ => true | .bl _, .bl _ => true | .str _, .str _ => true | .byt _, .byt _ => true
  | .int _, .str _ => true | .str _, .int _ => true | .bl _, .str _ => true | .str _, .bl _ => true
  | _, _ => false
def rEq : R2 := fun x y H Q => scal x y = true ∧ Q (.bl (decide (x = y))) H
def rNe : R2 := fun x y H Q => scal x y = true ∧ Q (.bl (!decide (x = y))) H
theorem dec_int {i j : Int} : decide (V.int i = V.int j) = (i == j) := by
  rw [Bool.eq_iff_iff]
  simp
theorem dec_bl {i j : Bool} : decide (V.bl i = V.bl j) = (i == j) := by
  rw [Bool.eq_iff_iff]
  simp
theorem dec_str {i j : Str} : decide (V.str i = V.str j) = (i == j) := by
  rw [Bool.eq_iff_iff]
  simp
theorem dec_byt {i j : Array UInt8} : decide (V.byt i = V.byt j) = (i.toList == j.toList) := by
  rw [Bool.eq_iff_iff]
  cases i
  cases j
  simp
section
variable {X : Cx} {a b c : Expr} {ta tb tc : TE} {pos : Pos}
theorem fin_bl {pins : List (Addr × Obj)} {σ : St} {H : Hp} {s : Shared} {Q : VK} {k k' : Bool} (I : Inv X pins σ H s) (q : Q (.bl k) H) (e : k = k') : EP X pins σ Q (.bool k') s := by
  subst e
  exact ⟨.bl k, H, I, rfl, q⟩
theorem op_eq : OpR X (compareOp .Eq) rEq := by
  intro pins s σ H x y v u Q I rx ry h
  obtain ⟨hs, q⟩ := h
  cases x with
  | non =>
    cases rx
    cases y with
    | non => cases ry; exact PySem.EqNone.eq_none_none (fin_bl I q (by simp))
    | bl j => cases ry; exact PySem.EqNone.eq_none_bool (fin_bl I q (by simp))
    | int j => obtain ⟨t', rfl⟩ := ry; exact PySem.EqNone.eq_none_int (fin_bl I q (by simp))
    | str j => obtain ⟨t', rfl⟩ := ry; exact PySem.EqNone.eq_none_str (fin_bl I q (by simp))
    | _ => exact absurd (show false = true from hs) Bool.false_ne_true
  | bl i =>
    cases rx
    cases y with
    | non => cases ry; exact PySem.EqNone.eq_bool_none (fin_bl I q (by simp))
    | bl j => cases ry; exact eq_bool (fin_bl I q dec_bl)
    | str j => obtain ⟨t', rfl⟩ := ry; exact PySem.EqMixed.eq_bool_str (fin_bl I q (by simp))
    | _ => exact absurd (show false = true from hs) Bool.false_ne_true
  | int i =>
    obtain ⟨t, rfl⟩ := rx
    cases y with
    | non => cases ry; exact PySem.EqNone.eq_int_none (fin_bl I q (by simp))
    | int j => obtain ⟨t', rfl⟩ := ry; exact eq_int (fin_bl I q dec_int)
    | str j => obtain ⟨t', rfl⟩ := ry; exact PySem.EqMixed.eq_int_str (fin_bl I q (by simp))
    | _ => exact absurd (show false = true from hs) Bool.false_ne_true
  | str i =>
    obtain ⟨t, rfl⟩ := rx
    cases y with
    | non => cases ry; exact PySem.EqNone.eq_str_none (fin_bl I q (by simp))
    | bl j => cases ry; exact PySem.EqMixed.eq_str_bool (fin_bl I q (by simp))
    | int j => obtain ⟨t', rfl⟩ := ry; exact PySem.EqMixed.eq_str_int (fin_bl I q (by simp))
    | str j => obtain ⟨t', rfl⟩ := ry; exact eq_str (fin_bl I q dec_str)
    | _ => exact absurd (show false = true from hs) Bool.false_ne_true
  | byt i =>
    obtain ⟨t, rfl⟩ := rx
    cases y with
    | byt j => obtain ⟨t', rfl⟩ := ry; exact PySem.W.eq_bytes (fin_bl I q dec_byt)
    | _ => exact absurd (show false = true from hs) Bool.false_ne_true
  | _ => cases y <;> exact absurd (show false = true from hs) Bool.false_ne_true
theorem op_ne : OpR X (compareOp .NotEq) rNe := by
  intro pins s σ H x y v u Q I rx ry h
  obtain ⟨hs, q⟩ := h
  cases x with
  | non =>
    cases rx
    cases y with
    | non => cases ry; exact PySem.EqNone.ne_none_none (fin_bl I q (by simp))
    | bl j => cases ry; exact PySem.EqNone.ne_none_bool (fin_bl I q (by simp))
    | int j => obtain ⟨t', rfl⟩ := ry; exact PySem.EqNone.ne_none_int (fin_bl I q (by simp))
    | str j => obtain ⟨t', rfl⟩ := ry; exact PySem.EqNone.ne_none_str (fin_bl I q (by simp))
    | _ => exact absurd (show false = true from hs) Bool.false_ne_true
  | bl i =>
    cases rx
    cases y with
    | non => cases ry; exact PySem.EqNone.ne_bool_none (fin_bl I q (by simp))
    | bl j => cases ry; exact ne_bool (fin_bl I q (congrArg not dec_bl))
    | str j => obtain ⟨t', rfl⟩ := ry; exact PySem.EqMixed.ne_bool_str (fin_bl I q (by simp))
    | _ => exact absurd (show false = true from hs) Bool.false_ne_true
  | int i =>
    obtain ⟨t, rfl⟩ := rx
    cases y with
    | non => cases ry; exact PySem.EqNone.ne_int_none (fin_bl I q (by simp))
    | int j => obtain ⟨t', rfl⟩ := ry; exact ne_int (fin_bl I q (congrArg not dec_int))
    | str j => obtain ⟨t', rfl⟩ := ry; exact PySem.EqMixed.ne_int_str (fin_bl I q (by simp))
    | _ => exact absurd (show false = true from hs) Bool.false_ne_true
  | str i =>
    obtain ⟨t, rfl⟩ := rx
    cases y with
    | non => cases ry; exact PySem.EqNone.ne_str_none (fin_bl I q (by simp))
    | bl j => cases ry; exact PySem.EqMixed.ne_str_bool (fin_bl I q (by simp))
    | int j => obtain ⟨t', rfl⟩ := ry; exact PySem.EqMixed.ne_str_int (fin_bl I q (by simp))
    | str j => obtain ⟨t', rfl⟩ := ry; exact ne_str (fin_bl I q (congrArg not dec_str))
    | _ => exact absurd (show false = true from hs) Bool.false_ne_true
  | byt i =>
    obtain ⟨t, rfl⟩ := rx
    cases y with
    | byt j => obtain ⟨t', rfl⟩ := ry; exact PySem.W.ne_bytes (fin_bl I q (congrArg not dec_byt))
    | _ => exact absurd (show false = true from hs) Bool.false_ne_true
  | _ => cases y <;> exact absurd (show false = true from hs) Bool.false_ne_true
theorem op_lt : OpR X (compareOp .Lt) (rI0 fun i j => .bl (decide (i < j))) := opB0 fun _ _ _ _ _ _ _ q => lt_int q
theorem op_le : OpR X (compareOp .LtE) (rI0 fun i j => .bl (decide (i ≤ j))) := opB0 fun _ _ _ _ _ _ _ q => le_int q
theorem op_ge : OpR X (compareOp .GtE) (rI0 fun i j => .bl (decide (j ≤ i))) := opB0 fun _ _ _ _ _ _ _ q => ge_int q
theorem op_notN : OpR X (compareOp .IsNot) (fun x y H Q => y = .non ∧ Q (.bl (!decide (x = .non))) H) := by
  intro pins s σ H x y v u Q I rx ry h
  obtain ⟨rfl, q⟩ := h
  cases ry
  refine isnot_none_gen (fin_bl I q ?_)
  cases x <;> first
    | (cases rx; rfl)
    | (obtain ⟨t, rfl⟩ := rx; rfl)
theorem nomark (b : Expr) {op : CmpOp} (h : op ≠ .In := by decide) (h2 : op ≠ .NotIn := by decide) : behindInMarks op b = false := by
  have e1 : (op == CmpOp.In) = false := by cases op <;> first | rfl | exact absurd rfl h
  have e2 : (op == CmpOp.NotIn) = false := by cases op <;> first | rfl | exact absurd rfl h2
  cases b <;> simp [behindInMarks, e1, e2]
theorem pe_cmpR {op : CmpOp} {r : R2} (ho : OpR X (compareOp op) r) (ha : PE X a ta) (hb : PE X b tb) (hm : behindInMarks op b = false) : PE X (.Compare a [op] [b] pos) (tOp r ta tb) := by
  intro pins s σ H Q I h
  exact wpAny_Compare1 (binT ha hb I h fun v u s2 x y H2 I2 rx ry q => ho pins s2 σ H2 x y v u Q I2 rx ry q) hm
def tTest (t : TE) : TT := fun σ H Q => t σ H fun x H' => ∃ k, x = .bl k ∧ Q k H'
theorem pt_cmpR {op : CmpOp} {r : R2} (ho : OpR X (compareOp op) r) (ha : PE X a ta) (hb : PE X b tb) (hm : behindInMarks op b = false) : PT X (.Compare a [op] [b] pos) (tTest (tOp r ta tb)) := by
  intro pins s σ H Q I h
  refine wpAny_isTrue_Compare1 (thn (ha pins s σ H _ I h) fun v s1 ⟨x, H1, I1, r1, q1⟩ => thn (hb pins s1 σ H1 _ I1 q1) fun u s2 ⟨y, H2, I2, r2, q2⟩ =>
    thn (ho pins s2 σ H2 x y v u _ I2 r1 r2 q2) fun c s3 ⟨z, H3, I3, r3, k, e, q3⟩ => ?_) hm
  subst e
  cases r3
  exact wpAny_truthy_bool ⟨H3, I3, q3⟩
def tChain (r r' : R2) (ta tb tc : TE) : TE := fun σ H Q => ta σ H fun x H1 => tb σ H1 fun y H2 => r x y H2 fun z H3 => ∃ k, z = .bl k ∧
  (if k = true then tc σ H3 fun w' H4 => r' y w' H4 Q else Q (.bl false) H3)
theorem pe_chain {op op' : CmpOp} {r r' : R2} (ho : OpR X (compareOp op) r) (ho' : OpR X (compareOp op') r') (ha : PE X a ta) (hb : PE X b tb) (hc : PE X c tc)
    (hm : lastMarks [op, op'] [b, c] = false := by with_unfolding_all rfl) : PE X (.Compare a [op, op'] [b, c] pos) (tChain r r' ta tb tc) := by
  intro pins s σ H Q I h
  refine Compare_chain (thn (ha pins s σ H _ I h) fun v s1 ⟨x, H1, I1, r1, q1⟩ => chain_link (thn (hb pins s1 σ H1 _ I1 q1) fun u s2 ⟨y, H2, I2, r2, q2⟩ =>
    thn (ho pins s2 σ H2 x y v u _ I2 r1 r2 q2) fun d s3 ⟨z, H3, I3, r3, k, e, q3⟩ => ?_)) hm
  subst e
  cases r3
  refine wpAny_truthy_bool ?_
  cases k with
  | false => exact ite_ff ⟨.bl false, H3, I3, rfl, q3⟩
  | true => exact ite_tt (chain_last (thn (hc pins s3 σ H3 _ I3 q3) fun w' s4 ⟨z', H4, I4, r4, q4⟩ => ho' pins s4 σ H4 y z' u w' Q I4 r2 r4 q4))
theorem line63 : (sizeLine : Nat) < 2 ^ 63 := by rw [sizeLine_eq]; decide
theorem op_add_str : OpR X (binaryOp .Add) (fun x y H Q => ∃ i j, x = .str i ∧ y = .str j ∧ i.length + j.length ≤ sizeLine ∧ Q (.str (i ++ j)) H) := by
  intro pins s σ H x y v u Q I rx ry h
  obtain ⟨i, j, rfl, rfl, hz, q⟩ := h
  obtain ⟨t, rfl⟩ := rx
  obtain ⟨t', rfl⟩ := ry
  exact add_str (fun t' tk => ⟨.str (i ++ j), H, I.tok _, ⟨_, rfl⟩, q⟩) hz
theorem vals1 {x : V} {us : List Value} (r : Vals [x] us) : ∃ u, us = [u] ∧ RelV x u := by
  cases r with
  | cons r1 r2 => cases r2; exact ⟨_, rfl, r1⟩
theorem vals2 {x y : V} {us : List Value} (r : Vals [x, y] us) : ∃ u w', us = [u, w'] ∧ RelV x u ∧ RelV y w' := by
  cases r with
  | cons r1 r2 =>
    cases r2 with
    | cons r3 r4 => cases r4; exact ⟨_, _, rfl, r1, r3⟩
theorem call_min2 (hc : X.calm = true) : CallR X (.builtin "min") (fun xs H Q => ∃ i j, xs = [.int i, .int j] ∧ Q (.int (if j < i then j else i)) H) := by
  intro pins s σ H xs us Q I r h
  obtain ⟨i, j, rfl, q⟩ := h
  obtain ⟨u, w', rfl, ⟨t, rfl⟩, ⟨t', rfl⟩⟩ := vals2 r
  refine min_two_ints (I.ok.hd hc) fun h' tk k => ⟨_, H, I.kept k, ?_, q⟩
  by_cases hj : j < i
  · rw [if_pos hj, if_pos hj]; exact ⟨_, rfl⟩
  · rw [if_neg hj, if_neg hj]; exact ⟨_, rfl⟩
theorem call_str_int : CallR X (.type "str") (fun xs H Q => ∃ i, xs = [.int i] ∧ i.natAbs.log2 < 1920 ∧ Q (.str (toString i)) H) := by
  intro pins s σ H xs us Q I r h
  obtain ⟨i, rfl, hz, q⟩ := h
  obtain ⟨u, rfl, t, rfl⟩ := vals1 r
  exact PySem.P.str_of_int hz ⟨.str _, H, I.tok _, ⟨_, rfl⟩, q⟩
end
end L2
namespace L2
open PySem PySem.Spec PyProof.Rows
structure ObjM (h : Heap) (x dx C : Addr) (mA : Str → Option Value) : Prop where
  obj : h.get? x = some (PySem.W.instObj C dx)
  ns : h.Ns1 dx mA
  ne : dx ≠ x
theorem lookIn_ns {h : Heap} {dx : Addr} {mA : Str → Option Value} (n : h.Ns1 dx mA) : ∃ od, h.get? dx = some od ∧ ∀ name, PySem.W.lookIn name od = some (mA name) := by
  obtain ⟨o, es, ep, ho, hd, hk, _, hm⟩ := n
  refine ⟨o, ho, fun name => ?_⟩
  have e := hm name
  unfold nsFind findBy at e
  rw [← Array.find?_toList] at e
  unfold PySem.W.lookIn
  rw [hd]
  dsimp only
  split
  · rename_i y q
    rw [q] at e
    exact congrArg some e
  · rename_i q
    rw [q] at e
    have a : es.toList.any (·.refKey) = false := by
      rw [List.any_eq_false]
      intro y hy
      obtain ⟨z, t, hkey⟩ := hk y (Array.mem_toList_iff.mp hy)
      simp [DictEntry.refKey, hkey]
    have a' : ¬ es.toList.any (·.refKey) = true := by rw [a]; exact Bool.false_ne_true
    rw [if_neg a']
    exact congrArg some e
theorem ObjM.look {h : Heap} {x dx C : Addr} {mA : Str → Option Value} (I : ObjM h x dx C mA) : ∃ od, PySem.W.InstAt h x (PySem.W.instObj C dx) C (some od) ∧ ∀ name, PySem.W.lookIn name od = some (mA name) :=
  let ⟨od, ho, hl⟩ := lookIn_ns I.ns
  ⟨od, ⟨I.obj, rfl, rfl, ho⟩, hl⟩
section
variable {prog : Program} {w : World} {A : Around} {E : Value → Shared → Prop} {s : Shared} {K : PySem.W.Frag} {x dx C f : Addr} {mA : Str → Option Value} {name : Str} {v : Value}
theorem get_map {expr : Bool} {Q : Value → Shared → Prop} (X : K.In s.heap) (I : ObjM s.heap x dx C mA) (hg : PySem.W.plainGet K C name = true) (hh : PySem.W.hasDictIn K C = true)
    (ha : PySem.W.findIn K (.ref C) name = some none) (hv : mA name = some v) (hv' : PySem.W.handedIn v = true) (h : Q v { s with toks := s.toks + 1 }) :
    wpAny (model prog w) A (getAttr (.ref x) name expr) Q E s := by
  obtain ⟨od, J, hl⟩ := I.look
  exact PySem.W.get_value X J (PySem.W.plainGet_of hg).1 (PySem.W.findObj_own hh ha rfl (by rw [hl, hv])) hv' h
theorem get_meth {pl : Sem Bool} {Q : Value × List Value → Shared → Prop} (X : K.In s.heap) (I : ObjM s.heap x dx C mA) (hg : PySem.W.plainGet K C name = true)
    (hf : PySem.W.findIn K (.ref C) name = some (some (.ref f))) (ht : PySem.W.isFn K (.ref f) = true) (hv : mA name = none) (h : Q (.ref f, [.ref x]) s) :
    wpAny (model prog w) A (getMethod (.ref x) name pl) Q E s := by
  obtain ⟨od, J, hl⟩ := I.look
  exact PySem.W.method_fn X J (PySem.W.plainGet_of hg).1 (PySem.W.plainGet_of hg).2 hf (beq_iff_eq.mp ht) (by show (PySem.W.lookIn name od).map (·.isSome) = some false; rw [hl, hv]; rfl) h
theorem set_map {ns : List Str} {Q : Unit → Shared → Prop} (X : K.In s.heap) (I : ObjM s.heap x dx C mA)
    (hs : PySem.W.findIn K (.ref C) "__setattr__" = some (some (.builtin "object.__setattr__"))) (hp : PySem.W.plainOver K C = true) (ht : PySem.W.takerIn K C name = some none) (hh : PySem.W.hasDictIn K C = true)
    (hw : PySem.Within mA ns) (hsz : ns.length ≤ sizeLine)
    (h : ∀ h', ObjM h' x dx C (fun y => if y = name then some v else mA y) → Heap.SameBut dx s.heap h' → Q () { s with heap := h', toks := s.toks + 2 }) :
    wpAny (model prog w) A (setAttr (.ref x) name v) Q E s := by
  obtain ⟨od, J, hl⟩ := I.look
  refine PySem.W.set_plain X J hs (PySem.W.osa_open (s := { s with toks := s.toks + 1 }) (r := none) X J hp ht fun b => ?_)
  obtain ⟨cd, hc, hd'⟩ := PySem.W.any_some hh
  have hx : s.heap.get? x = some ⟨.ref C, some dx, .plain, #[]⟩ := I.obj
  refine wpAny_bind (wpAny_pure (wpAny_bind (wpAny_bind (wpAny_loadPart hx (wpAny_bind (PySem.W.Looks.here (s := { s with toks := s.toks + 1 }) (PySem.W.looks_clsIn X hc) ?_))))))
  rw [hd']
  refine wpAny_pure (a := some dx) (wpAny_bind (wpAny_pure (wpAny_bind ?_)))
  refine wpAny_nsSet1 (s := { s with toks := s.toks + 1 }) I.ns fun h' hn2 hs2 => ?_
  obtain ⟨oD, esD, epD, hoD, hdD, hcD⟩ := hn2.count (PySem.Within.cons name v hw)
  refine wpAny_bind (wpAny_lookBehind hoD (by rw [hdD]; exact pastItsLine_dict (Nat.le_trans hcD (by rw [List.length_cons]; omega))) ?_)
  exact wpAny_pure (h _ ⟨(hs2.2 _ (Ne.symm I.ne)).trans I.obj, hn2, I.ne⟩ hs2)
theorem make_map {R : Result → Shared → Prop} {vs : List Value} {kw : List (Str × Value)} (X : K.In s.heap) (hm : PySem.W.makesIn K C = true)
    (hi : PySem.W.findIn K (.ref C) "__init__" = some (some (.ref f))) (hf : PySem.W.typeIn K (.ref f) = some (.type "function"))
    (h : codeAny (model prog w) (A.under (.builtin "type.__call__" ⟨.ref C :: vs, kw⟩)) (.call (.ref f) ⟨.ref (s.heap.objs.size + 1) :: vs, kw⟩) (PySem.W.InitBack (s.heap.objs.size + 1) R)
      { s with heap := (s.heap.push PySem.W.emptyDict).push (PySem.W.instObj C s.heap.objs.size) }) :
    codeAny (model prog w) A (.call (.ref C) ⟨vs, kw⟩) R s := by
  obtain ⟨hh, g, d, t, os⟩ := s
  exact PySem.W.make_core (PySem.W.makes_of X hm) (PySem.W.looks_findIn X hi) (fun self => PySem.W.bind_fn X self hf) (.inl rfl) h
end
def putF (f : Str) (v : V) : List (Str × V) → List (Str × V)
  | [] => [(f, v)]
  | (g, x) :: r => if g = f then (g, v) :: r else (g, x) :: putF f v r
theorem lookup_putF (f g : Str) (v : V) : ∀ fs : List (Str × V), (putF f v fs).lookup g = if g = f then some v else fs.lookup g
  | [] => by
    show List.lookup g [(f, v)] = _
    by_cases h : g = f
    · have hb : (g == f) = true := beq_iff_eq.mpr h
      simp only [List.lookup, hb, if_pos h]
    · have hb : (g == f) = false := beq_eq_false_iff_ne.mpr h
      simp only [List.lookup, hb, if_neg h]
  | (k, x) :: r => by
    have ih := lookup_putF f g v r
    rw [show putF f v ((k, x) :: r) = (if k = f then (k, v) :: r else (k, x) :: putF f v r) from rfl]
    by_cases hk : k = f
    · rw [if_pos hk]
      by_cases h : g = k
      · have hb : (g == k) = true := beq_iff_eq.mpr h
        simp only [List.lookup, hb, if_pos (h.trans hk)]
      · have hb : (g == k) = false := beq_eq_false_iff_ne.mpr h
        simp only [List.lookup, hb, if_neg (fun e : g = f => h (e.trans hk.symm))]
    · rw [if_neg hk]
      by_cases h : g = k
      · have hb : (g == k) = true := beq_iff_eq.mpr h
        simp only [List.lookup, hb, if_neg (fun e : g = f => hk (h.symm.trans e))]
      · have hb : (g == k) = false := beq_eq_false_iff_ne.mpr h
        simp only [List.lookup, hb]
        exact ih
theorem keys_putF (f : Str) (v : V) : ∀ fs : List (Str × V), f ∈ (putF f v fs).map (·.1) ∧ ∀ g, g ∈ fs.map (·.1) → g ∈ (putF f v fs).map (·.1)
  | [] => ⟨by simp [putF], fun g h => by simp at h⟩
  | (k, x) :: r => by
    obtain ⟨i1, i2⟩ := keys_putF f v r
    rw [show putF f v ((k, x) :: r) = (if k = f then (k, v) :: r else (k, x) :: putF f v r) from rfl]
    by_cases hk : k = f
    · rw [if_pos hk]
      subst hk
      exact ⟨by simp, fun g h => by simpa using h⟩
    · rw [if_neg hk]
      refine ⟨?_, fun g h => ?_⟩
      · rw [List.map_cons]
        exact List.mem_cons_of_mem _ i1
      · rw [List.map_cons] at h ⊢
        rcases List.mem_cons.mp h with e | e
        · exact List.mem_cons.mpr (.inl e)
        · exact List.mem_cons_of_mem _ (i2 g e)
theorem length_putF (f : Str) (v : V) : ∀ fs : List (Str × V), (putF f v fs).length ≤ fs.length + 1
  | [] => by simp [putF]
  | (k, x) :: r => by
    have ih := length_putF f v r
    rw [show putF f v ((k, x) :: r) = (if k = f then (k, v) :: r else (k, x) :: putF f v r) from rfl]
    by_cases hk : k = f
    · rw [if_pos hk, List.length_cons, List.length_cons]; omega
    · rw [if_neg hk, List.length_cons, List.length_cons]; omega
theorem RelO.some_of {v : V} {o : Option Value} (r : RelO (some v) o) : ∃ u, o = some u ∧ RelV v u := by
  cases o with
  | none => exact (show False from r).elim
  | some u => exact ⟨u, rfl, r⟩
theorem RelO.none_of {o : Option Value} (r : RelO none o) : o = none := by
  cases o with
  | none => rfl
  | some u => exact (show False from r).elim
theorem handed_of {v : V} {u : Value} (r : RelV v u) : PySem.W.handedIn u = true := by
  cases v with
  | non => cases (show u = Value.none from r); rfl
  | bl b => cases (show u = Value.bool b from r); rfl
  | int i => obtain ⟨t, e⟩ := (show ∃ t, u = Value.int i t from r); cases e; rfl
  | str x => obtain ⟨t, e⟩ := (show ∃ t, u = Value.str x t from r); cases e; rfl
  | byt b => obtain ⟨t, e⟩ := (show ∃ t, u = Value.bytes b t from r); cases e; rfl
  | flt b => obtain ⟨t, e⟩ := (show ∃ t, u = Value.float b t from r); cases e; rfl
  | ref a => cases (show u = Value.ref a from r); rfl
  | ty n => cases (show u = Value.type n from r); rfl
section
variable {P : Program} {w : World} {H H' : Hp} {h h' : Heap} {a C dx : Addr} {fs fs' : List (Str × V)}
theorem ins_get (hok : HOk P w H h) (e : H a = some (.ins C dx fs)) : ∃ mA, ObjM h a dx C mA ∧ (∀ f, RelO (fs.lookup f) (mA f)) ∧ PySem.Within mA (fs.map (·.1)) ∧ fs.length ≤ 1000 ∧ H dx = some (.own a) := by
  obtain ⟨d, z, ne, ob, mA, n, r, q⟩ := (show ObjOk P w H h a (.ins C dx fs) from hok a _ e)
  exact ⟨mA, ⟨ob, n, ne⟩, r, q, z, d⟩
end
structure Cls (K : PySem.W.Frag) (C : Addr) : Prop where
  pg : PySem.W.plainGet K C Str.empty = true
  hd : PySem.W.hasDictIn K C = true
  po : PySem.W.plainOver K C = true
  sa : PySem.W.findIn K (.ref C) "__setattr__" = some (some (.builtin "object.__setattr__"))
theorem Cls.get {K : PySem.W.Frag} {C : Addr} (c : Cls K C) (f : Str) : PySem.W.plainGet K C f = true := c.pg
def NoAttr (K : PySem.W.Frag) (C : Addr) (f : Str) : Prop := PySem.W.findIn K (.ref C) f = some none
theorem NoAttr.taker {K : PySem.W.Frag} {C : Addr} {f : Str} (n : NoAttr K C f) : PySem.W.takerIn K C f = some none := by
  unfold PySem.W.takerIn
  rw [show PySem.W.findIn K (.ref C) f = some none from n]
  rfl
structure Meth (K : PySem.W.Frag) (C : Addr) (m : Str) (f : Addr) : Prop where
  at_ : PySem.W.findIn K (.ref C) m = some (some (.ref f))
  fn : PySem.W.isFn K (.ref f) = true
  kp : PySem.W.keepIn K (.ref f) = true
section
variable {X : Cx} {pins : List (Addr × Obj)} {σ : St} {H : Hp} {s : Shared} {a C dx : Addr} {fs : List (Str × V)} {f : Str} {v : V} {A : Around} {E : Value → Shared → Prop}
theorem getattr_ok {b : Bool} {Q : Value → Shared → Prop} (I : Inv X pins σ H s) (e : H a = some (.ins C dx fs)) (c : Cls X.K C) (n : NoAttr X.K C f) (l : fs.lookup f = some v)
    (h : ∀ u s', Inv X pins σ H s' → RelV v u → Q u s') : wpAny (model X.prog X.w) A (getAttr (.ref a) f b) Q E s := by
  obtain ⟨mA, O, r, _, _, _⟩ := ins_get I.hok e
  obtain ⟨u, hu, ru⟩ := RelO.some_of (v := v) (o := mA f) (by rw [← l]; exact r f)
  exact get_map I.kIn O (c.get f) c.hd n hu (handed_of ru) (h u _ (I.tok _) ru)
theorem getmeth_ok {m : Str} {g : Addr} {pl : Sem Bool} {Q : Value × List Value → Shared → Prop} (I : Inv X pins σ H s) (e : H a = some (.ins C dx fs)) (c : Cls X.K C) (k : Meth X.K C m g) (l : fs.lookup m = none)
    (h : Q (.ref g, [.ref a]) s) : wpAny (model X.prog X.w) A (getMethod (.ref a) m pl) Q E s := by
  obtain ⟨mA, O, r, _, _, _⟩ := ins_get I.hok e
  have hn : mA m = none := RelO.none_of (by rw [← l]; exact r m)
  exact get_meth I.kIn O (c.get m) k.at_ k.fn hn h
theorem setattr_ok {y : V} {u : Value} {Q : Unit → Shared → Prop} (I : Inv X pins σ H s) (e : H a = some (.ins C dx fs)) (c : Cls X.K C) (n : NoAttr X.K C f) (hl : fs.length < 1000) (ry : RelV y u)
    (h : ∀ s', Inv X pins σ (upd H a (.ins C dx (putF f y fs))) s' → Q () s') : wpAny (model X.prog X.w) A (setAttr (.ref a) f u) Q E s := by
  obtain ⟨mA, O, r, wi, _, ho⟩ := ins_get I.hok e
  have hz : (fs.map (·.1)).length ≤ sizeLine := by rw [List.length_map, sizeLine_eq]; omega
  refine set_map I.kIn O c.sa c.po n.taker c.hd wi hz fun h' O' sb => h _ ?_
  have hd : ∃ o, h'.get? dx = some o := let ⟨o, _, _, e', _⟩ := O'.ns; ⟨o, e'⟩
  refine I.write (x := a) (e := dx) (by rw [e]; exact True.intro) (.inr ho) (fun b q hb z => (sb.2 b hb).trans z) hd ?_
  refine ⟨by rw [upd_ne O.ne]; exact ho, ?_, O.ne, O'.obj, _, O'.ns, fun g => ?_, fun g hg => ?_⟩
  · have := length_putF f y fs; omega
  · show RelO ((putF f y fs).lookup g) (if g = f then some u else mA g)
    rw [lookup_putF]
    by_cases q : g = f
    · rw [if_pos q, if_pos q]; exact ry
    · rw [if_neg q, if_neg q]; exact r g
  · by_cases q : g = f
    · rw [q]; exact (keys_putF f y fs).1
    · refine (keys_putF f y fs).2 g (wi g fun z => hg ?_)
      show (if g = f then some u else mA g) = none
      rw [if_neg q]; exact z
theorem Inv.made (I : Inv X pins σ H s) : Inv X pins σ (upd (upd H s.heap.objs.size (.own (s.heap.objs.size + 1))) (s.heap.objs.size + 1) (.ins C s.heap.objs.size []))
    { s with heap := (s.heap.push PySem.W.emptyDict).push (PySem.W.instObj C s.heap.objs.size) } := by
  have e1 : (s.heap.push PySem.W.emptyDict).get? s.heap.objs.size = some PySem.W.emptyDict := Heap.get?_push_size s.heap rfl
  have e2 : ((s.heap.push PySem.W.emptyDict).push (PySem.W.instObj C s.heap.objs.size)).get? (s.heap.objs.size + 1) = some (PySem.W.instObj C s.heap.objs.size) := by
    have := Heap.get?_push_size (s.heap.push PySem.W.emptyDict) (o := PySem.W.instObj C s.heap.objs.size) rfl
    rwa [Heap.size_push] at this
  have e3 : (s.heap.push PySem.W.emptyDict).Ns s.heap.objs.size (fun _ => none) := ⟨PySem.W.emptyDict, #[], _, e1, rfl, (fun e he => absurd he (by simp)), fun _ => rfl⟩
  have I1 := I.laid (a := s.heap.objs.size) (o := .own (s.heap.objs.size + 1)) (h' := s.heap.push PySem.W.emptyDict) (t' := s.toks) (fun b u q => Heap.get?_push_of_some _ q) (Nat.le_refl _) ⟨_, e1⟩
  refine I1.laid (a := s.heap.objs.size + 1) (o := .ins C s.heap.objs.size []) (t' := s.toks) (fun b u q => Heap.get?_push_of_some _ q) (Nat.le_of_eq (Heap.size_push _ _)) ?_
  have ne : s.heap.objs.size ≠ s.heap.objs.size + 1 := Nat.ne_of_lt (Nat.lt_succ_self _)
  refine ⟨by rw [upd_ne ne, upd_same], Nat.zero_le _, ne, e2, fun _ => none, (Heap.Ns1.of_empty e3).at fun o q => Heap.get?_push_of_some _ q, fun _ => True.intro, fun y hy => absurd rfl hy⟩
theorem attr_of {prog : Program} {w : World} {env : Env} {e : Expr} {f : Str} {pos : Pos} {s : Shared} {Q : Value → Shared → Prop} (hb : attributeBase e f env (eval e env) = eval e env)
    (h : wpAny (model prog w) A (eval e env) (fun o s₁ => wpAny (model prog w) A (getAttr o f true) Q E s₁) E s) : wpAny (model prog w) A (eval (.Attribute e f pos) env) Q E s :=
  Attribute_any_ h (by rw [arm_eval_Attribute, hb])
end
def tFld (K : PySem.W.Frag) (ta : TE) (f : Str) : TE := fun σ H Q => ta σ H fun x H1 => ∃ a C dx fs v, x = .ref a ∧ H1 a = some (.ins C dx fs) ∧ Cls K C ∧ NoAttr K C f ∧ fs.lookup f = some v ∧ Q v H1
def sFld (K : PySem.W.Frag) (ta tv : TE) (f : Str) : TS := fun D σ H => tv σ H fun y H1 => ta σ H1 fun x H2 => ∃ a C dx fs, x = .ref a ∧ H2 a = some (.ins C dx fs) ∧ Cls K C ∧ NoAttr K C f ∧ fs.length < 1000 ∧
  D.nx σ (upd H2 a (.ins C dx (putF f y fs)))
section
variable {X : Cx} {o e value : Expr} {f : Str} {pos pos' tpos : Pos} {ta tv : TE}
theorem pe_fld (he : PE X e ta) (hb : attributeBase e f X.env (eval e X.env) = eval e X.env) : PE X (.Attribute e f pos) (tFld X.K ta f) := by
  intro pins s σ H Q I h
  refine attr_of hb (thn (he pins s σ H _ I h) fun u s1 ⟨x, H1, I1, rx, a, C, dx, fs, v, ex, ea, c, n, l, q⟩ => ?_)
  subst ex
  obtain rfl : u = Value.ref a := rx
  exact getattr_ok I1 ea c n l fun u' s2 I2 ru => ⟨v, H1, I2, ru, q⟩
theorem ps_fld (ha : PE X o ta) (hv : PE X value tv) (hs : swapsWith value (some (.Attribute o f pos')) pos.line X.env = pure false) : PS X (.Assign [.Attribute o f pos'] value pos) (sFld X.K ta tv f) := by
  intro pins s σ H D I h
  refine plainObj_wpAny_Assign_Attribute (thn (hv pins s σ H _ I h) fun u s1 ⟨y, H1, I1, ry, q⟩ => thn (ha pins s1 σ H1 _ I1 q) fun ov s2 ⟨x, H2, I2, rx, a, C, dx, fs, ex, ea, c, n, l, q2⟩ => ?_) hs
  subst ex
  obtain rfl : ov = Value.ref a := rx
  exact setattr_ok I2 ea c n l ry fun s3 I3 => ⟨σ, _, I3, q2⟩
end
section
variable {X : Cx} {pins : List (Addr × Obj)} {σ : St} {H : Hp} {s : Shared} {A : Around} {E : Value → Shared → Prop} {Q : Value → Shared → Prop} {c : Value} {b : Bool}
inductive TyOf (K : PySem.W.Frag) (H : Hp) : V → Value → Prop where
  | non : TyOf K H .non (.type "NoneType")
  | bl (x : Bool) : TyOf K H (.bl x) (.type "bool")
  | int (i : Int) : TyOf K H (.int i) (.type "int")
  | str (x : Str) : TyOf K H (.str x) (.type "str")
  | flt (x : UInt64) : TyOf K H (.flt x) (.type "float")
  | lst {a : Addr} {xs : List V} (e : H a = some (.lst xs)) : TyOf K H (.ref a) (.type "list")
  | frz {a : Addr} {o : Obj} {xs : List V} (e : H a = some (.frz o (.lst xs))) : TyOf K H (.ref a) (.type "list")
  | tup {a : Addr} {xs : List V} (e : H a = some (.tup xs)) : TyOf K H (.ref a) (.type "tuple")
  | dK {a : Addr} {kvs : List (Key × V)} (e : H a = some (.dK kvs)) : TyOf K H (.ref a) (.type "dict")
  | dT {a : Addr} {kvs : List (List Key × V)} (e : H a = some (.dT kvs)) : TyOf K H (.ref a) (.type "dict")
  | ins {a C dx : Addr} {fs : List (Str × V)} (e : H a = some (.ins C dx fs)) (cl : Cls K C) (ha : PySem.W.findIn K (.ref C) "__class__" = some (some (.builtin "object.__class__")))
      (hn : PySem.W.specialIn K (.builtin "object.__class__") "__get__" = some (some (.builtin "getset_descriptor.__get__"))) (htk : PySem.W.takesIn K (.builtin "object.__class__") = some true)
      (hm : PySem.W.mroIn K C (.type "object") = some true) : TyOf K H (.ref a) (.ref C)
theorem isinst_ok {x : V} {u t : Value} (I : Inv X pins σ H s) (rx : RelV x u) (ty : TyOf X.K H x t) (e : PySem.W.kitOne X.K t c = some b) (h : ∀ tk, Q (.bool b) { s with toks := tk }) :
    wpAny (model X.prog X.w) A (call (.builtin "isinstance") [u, c]) Q E s := by
  cases ty with
  | non => cases (show u = Value.none from rx); exact PySem.W.kia_one PySem.W.kitx_none I.kIn True.intro e (fun z => nomatch z) h
  | bl y => cases (show u = Value.bool y from rx); exact PySem.W.kia_one PySem.W.kitx_bool I.kIn True.intro e (fun z => nomatch z) h
  | int i => obtain ⟨t, q⟩ := (show ∃ t, u = Value.int i t from rx); cases q; exact PySem.W.kia_one PySem.W.kitx_int I.kIn True.intro e (fun z => nomatch z) h
  | str y => obtain ⟨t, q⟩ := (show ∃ t, u = Value.str y t from rx); cases q; exact PySem.W.kia_one PySem.W.kitx_str I.kIn True.intro e (fun z => nomatch z) h
  | flt y => obtain ⟨t, q⟩ := (show ∃ t, u = Value.float y t from rx); cases q; exact PySem.W.kia_one PySem.W.kitx_float I.kIn True.intro e (fun z => nomatch z) h
  | @lst a xs ea =>
    cases (show u = Value.ref a from rx)
    obtain ⟨_, _, n, _, h1⟩ := (show ObjOk X.prog X.w H s.heap a (.lst xs) from I.hok a _ ea)
    exact PySem.W.kia_one PySem.W.kitx_list I.kIn ⟨_, h1, rfl⟩ e (fun z => nomatch z) h
  | @frz a ob xs ea =>
    cases (show u = Value.ref a from rx)
    obtain ⟨_, _, _, n, _, h1⟩ := (show ObjOk X.prog X.w H s.heap a (.frz ob (.lst xs)) from I.hok a _ ea)
    exact PySem.W.kia_one PySem.W.kitx_list I.kIn ⟨_, h1, rfl⟩ e (fun z => nomatch z) h
  | @tup a xs ea =>
    cases (show u = Value.ref a from rx)
    obtain ⟨_, _, _, p⟩ := (show ObjOk X.prog X.w H s.heap a (.tup xs) from I.hok a _ ea)
    obtain ⟨o, h1, h2, _⟩ := p
    exact PySem.W.kia_one PySem.W.kitx_tuple I.kIn ⟨o, h1, h2⟩ e (fun z => nomatch z) h
  | @dK a kvs ea =>
    cases (show u = Value.ref a from rx)
    obtain ⟨_, _, vs, _, p⟩ := (show ObjOk X.prog X.w H s.heap a (.dK kvs) from I.hok a _ ea)
    obtain ⟨o, es, ep, h1, h2, _⟩ := p
    exact PySem.W.kia_one PySem.W.kitx_dict I.kIn ⟨o, h1, h2.1⟩ e (fun z => nomatch z) h
  | @dT a kvs ea =>
    cases (show u = Value.ref a from rx)
    obtain ⟨_, _, xs, _, o, es, ep, h1, h2, _⟩ := (show ObjOk X.prog X.w H s.heap a (.dT kvs) from I.hok a _ ea)
    exact PySem.W.kia_one PySem.W.kitx_dict I.kIn ⟨o, h1, h2.1⟩ e (fun z => nomatch z) h
  | @ins a C dx fs ea cl ha hn htk hm =>
    cases (show u = Value.ref a from rx)
    obtain ⟨mA, O, _⟩ := ins_get I.hok ea
    obtain ⟨od, J, _⟩ := O.look
    exact PySem.W.kia_one (PySem.W.kitx_own (cl.get _) cl.hd ha hn htk hm) I.kIn J e (fun z => nomatch z) h
end
end L2
namespace L2
open PySem PySem.Spec PyProof.Rows
structure Room (k : Nat) (A : Around) : Prop where
  hd : A.handled = none
  dp : A.depth + 3 * k + 5 < recursionLimit
  un : A.units + 16 * k + 200 < cLine
theorem Room.mono {j k : Nat} {A : Around} (r : Room k A) (h : j ≤ k) : Room j A := ⟨r.hd, by have := r.dp; omega, by have := r.un; omega⟩
theorem Room.deeper {k : Nat} {A : Around} (r : Room (k + 1) A) (env : Env) : Room k (A.deeper env) :=
  ⟨r.hd, by have := r.dp; show A.depth + 1 + 3 * k + 5 < _; omega, by have := r.un; show A.units + 3 + 16 * k + 200 < _; omega⟩
theorem make_depth {A : Around} {C : Addr} {us : List Value} {kw : List (Str × Value)} : (A.under (.builtin "type.__call__" ⟨.ref C :: us, kw⟩)).depth = A.depth + 1 := by
  first | rfl | simp [Around.under, Code.weight, Code.isCreation, Code.isGuard, Code.isCaller, Code.frames, Code.isFrame, guardIds]
theorem make_units {A : Around} {C : Addr} {us : List Value} {kw : List (Str × Value)} : (A.under (.builtin "type.__call__" ⟨.ref C :: us, kw⟩)).units = A.units + 1 := by
  first | rfl | simp [Around.under, Code.cUnits, Code.frames, Code.isFrame]
theorem Room.make {k : Nat} {A : Around} (r : Room (k + 1) A) (C : Addr) (us : List Value) (kw : List (Str × Value)) : Room k (A.under (.builtin "type.__call__" ⟨.ref C :: us, kw⟩)) :=
  ⟨r.hd, by have := r.dp; rw [make_depth]; omega, by have := r.un; rw [make_units]; omega⟩
theorem Room.depth {k : Nat} {A : Around} (r : Room k A) : A.depth < recursionLimit := by have := r.dp; omega
theorem Room.units {k : Nat} {A : Around} (r : Room k A) : A.units + 64 < cLine := by have := r.un; omega
def tNil : TA := fun _ H Q => Q [] H
def tCons (ta : TE) (tr : TA) : TA := fun σ H Q => ta σ H fun x H1 => tr σ H1 fun xs H2 => Q (x :: xs) H2
section
variable {X : Cx} {e : Expr} {es : List Expr} {te : TE} {t : TA} {pos : Pos}
theorem pa_nil : PA X [] tNil := fun _ _ _ _ H Q I h => Calls.spliced_nil ⟨[], H, I, .nil, h⟩
theorem pa_cons (ha : PE X e te) (hr : PA X es t) (hs : starEach (e :: es) X.env = (false, eval e X.env) :: starEach es X.env := by rfl) : PA X (e :: es) (tCons te t) := by
  intro pos pins s σ H Q I h
  rw [hs]
  show wpAny _ _ (spliced ((false, eval e X.env) :: backTo pos (starEach es X.env))) _ _ s
  refine Calls.spliced_cons (thn (ha pins s σ H _ I h) fun u s1 ⟨x, H1, I1, r1, q1⟩ => ?_)
  exact thn (hr pos pins s1 σ H1 _ I1 q1) fun us s2 ⟨xs, H2, I2, r2, q2⟩ => ⟨x :: xs, H2, I2, .cons r1 r2, q2⟩
def tTup (t : TA) : TE := fun σ H Q => t σ H fun xs H1 => xs.length ≤ sizeLine ∧ ∀ p, H1 p = none → Q (.ref p) (upd H1 p (.tup xs))
def tLst (t : TA) : TE := fun σ H Q => t σ H fun xs H1 => xs.length ≤ sizeLine ∧ ∀ p, H1 p = none → Q (.ref p) (upd H1 p (.lst xs))
theorem pe_tup {x1} (h : PA X es t) : PE X (.Tuple es x1 pos) (tTup t) := by
  intro pins s σ H Q I hq
  refine wpAny_Tuple_spliced (thn (h pos pins s σ H _ I hq) fun us s1 ⟨xs, H1, I1, r, z, q⟩ => ⟨by rw [← r.length]; exact z, ?_⟩)
  have hf : H1 s1.heap.objs.size = none := I1.hok.fresh (Nat.le_refl _)
  refine ⟨.ref s1.heap.objs.size, upd H1 s1.heap.objs.size (.tup xs), I1.laid (t' := s1.toks) (fun b u e => Heap.get?_push_of_some _ e) (Nat.le_refl _) ?_, rfl, q _ hf⟩
  exact ⟨z, us, r, ⟨_, Heap.get?_push_size _ rfl, rfl, _, rfl⟩⟩
theorem pe_lst (h : PA X es t) : PE X (.List es pos) (tLst t) := by
  intro pins s σ H Q I hq
  refine wpAny_List_spliced (thn (h pos pins s σ H _ I hq) fun us s1 ⟨xs, H1, I1, r, z, q⟩ => ⟨by rw [← r.length]; exact z, ?_⟩)
  have hf : H1 s1.heap.objs.size = none := I1.hok.fresh (Nat.le_refl _)
  refine ⟨.ref s1.heap.objs.size, upd H1 s1.heap.objs.size (.lst xs), I1.laid (t' := s1.toks) (fun b u e => Heap.get?_push_of_some _ e) (Nat.le_refl _) ?_, rfl, q _ hf⟩
  exact ⟨z, us, 0, r, Heap.get?_push_size _ rfl⟩
end
abbrev Sp := List V → Hp → VK → XK → Prop
abbrev CXT := List Env → Hp → Shared → XK → Value → Shared → Prop
structure Env0 (P : Program) (w : World) (K : PySem.W.Frag) (mg : Str → Option Value) (base : Heap) (A : Around) (outer : List Env) (s : Shared) (H : Hp) : Prop where
  frames : A.frames = some outer
  mod : Mod K mg base
  bs : ∀ b o, base.get? b = some o → s.heap.get? b = some o ∧ H b = none
  bsz : base.objs.size ≤ s.heap.objs.size
  funs : s.heap.FunFrames base outer
  frf : ∀ b ∈ frs outer, H b = none
  hok : HOk P w H s.heap
  bare : AllBare s.gens
def CE (outer : List Env) (P : Program) (w : World) (H : Hp) (s : Shared) (Q : VK) (u : Value) (s' : Shared) : Prop :=
  ∃ v H', s'.os = s.os ∧ AllBare s'.gens ∧ Un (frs outer) [] H H' s.heap s'.heap ∧ HOk P w H' s'.heap ∧ RelV v u ∧ Q v H'
def CR (CX : CXT) (outer : List Env) (P : Program) (w : World) (H : Hp) (s : Shared) (Q : VK) (E : XK) (r : Result) (s' : Shared) : Prop :=
  match r with
  | .ok (.ret u) => CE outer P w H s Q u s'
  | .ok _ => False
  | .error e => CX outer H s E e s'
structure FnOk (P : Program) (w : World) (K : PySem.W.Frag) (mg : Str → Option Value) (base : Heap) (CX : CXT) (k : Nat) (f : Addr) (fd : FuncData) (ps : List Str) (sp : Sp) : Prop where
  len : ∀ vs H Q E, sp vs H Q E → vs.length = ps.length
  run : ∀ (A : Around) (outer : List Env) (s : Shared) (H : Hp) (args : Args) (us : List Value) (vs : List V) (Q : VK) (E : XK), Room k A → Env0 P w K mg base A outer s H → BindsTo s fd args (ps.zip us) → Vals vs us → sp vs H Q E →
    codeAny (model P w) A (.call (.ref f) args) (CR CX outer P w H s Q E) s
theorem Env0.make {P : Program} {w : World} {K : PySem.W.Frag} {mg : Str → Option Value} {base : Heap} {A : Around} {outer : List Env} {s : Shared} {H : Hp} (e : Env0 P w K mg base A outer s H) (C : Addr) (us : List Value) (kw : List (Str × Value)) :
    Env0 P w K mg base (A.under (.builtin "type.__call__" ⟨.ref C :: us, kw⟩)) outer s H := ⟨by first | exact e.frames | (simpa [Around.under, Code.envs, Code.isFrame, pushEnvs] using e.frames), e.mod, e.bs, e.bsz, e.funs, e.frf, e.hok, e.bare⟩
section
variable {X : Cx} {pins : List (Addr × Obj)} {σ : St} {H : Hp} {s s' : Shared}
theorem Inv.env0 (I : Inv X pins σ H s) : Env0 X.prog X.w X.K X.mg X.base X.A X.stack s H :=
  ⟨I.ok.frames, I.ok.mod, I.bs, Nat.le_trans I.ok.bsz I.sz, I.stack, I.stkFree, I.hok, I.bare⟩
theorem Inv.after {Q : VK} {u : Value} (I : Inv X pins σ H s) (h : CE X.stack X.prog X.w H s Q u s') : EP X pins σ Q u s' := by
  obtain ⟨v, H', os, bare, un, hok, r, q⟩ := h
  obtain ⟨hh, g, d, t, os'⟩ := s'
  obtain rfl : os' = s.os := os
  exact ⟨v, H', I.call (h' := hh) (g' := g) (d' := d) (t' := t) (ch := []) un hok bare (fun b z => absurd z (by simp)), r, q⟩
end
def tCall (sp : Sp) (dvs : List V) (E : XK) (t : TA) : TE := fun σ H Q => t σ H fun vs H1 => sp (vs ++ dvs) H1 Q E
def tMeth (C : Addr) (m : Str) (sp : Sp) (dvs : List V) (E : XK) (ta : TE) (t : TA) : TE := fun σ H Q => ta σ H fun x H1 => ∃ a dx fs, x = .ref a ∧ H1 a = some (.ins C dx fs) ∧ fs.lookup m = none ∧
  t σ H1 fun vs H2 => sp (x :: (vs ++ dvs)) H2 Q E
def tMake (C : Addr) (sp : Sp) (dvs : List V) (E : XK) (t : TA) : TE := fun σ H Q => t σ H fun vs H1 => ∀ x dx, H1 x = none → H1 dx = none → dx ≠ x →
  sp (.ref x :: (vs ++ dvs)) (upd (upd H1 dx (.own x)) x (.ins C dx [])) (fun v H2 => v = .non ∧ Q (.ref x) H2) E
def Binds (K : PySem.W.Frag) (fd : FuncData) (ps : List Str) (ds : List Value) : Prop :=
  ∀ (s : Shared) (us : List Value), K.In s.heap → (us ++ ds).length = ps.length → BindsTo s fd ⟨us, []⟩ (ps.zip (us ++ ds))
theorem Binds.all {K : PySem.W.Frag} {fd : FuncData} {ps : List Str} (h : ∀ us : List Value, us.length = ps.length → bindArgs fd ⟨us, []⟩ = pure (ps.zip us)) : Binds K fd ps [] := fun s us _ hl => by
  rw [List.append_nil] at hl ⊢
  exact .of_eq (h us hl)
def Passes (CX : CXT) (X : Cx) (E : XK) : Prop := ∀ (pins : List (Addr × Obj)) (σ : St) (H : Hp) (s : Shared) (e : Value) (s' : Shared), Inv X pins σ H s → CX X.stack H s E e s' → X.xe e s'
section
variable {X : Cx} {CX : CXT} {k : Nat} {f C : Addr} {fd : FuncData} {ps : List Str} {sp : Sp} {dvs : List V} {ds : List Value} {E : XK} {x m : Str} {p pos apos : Pos} {e o : Expr} {es : List Expr} {ta : TE} {t : TA}
theorem run_fn {pins : List (Addr × Obj)} {σ : St} {H : Hp} {s : Shared} {Q : VK} {us : List Value} {vs : List V} (F : FnOk X.prog X.w X.K X.mg X.base CX k f fd ps sp) (hr : Room k X.A) (hb : Binds X.K fd ps ds) (hd : Vals dvs ds) (hx : Passes CX X E)
    (I : Inv X pins σ H s) (r : Vals vs us) (h : sp (vs ++ dvs) H Q E) : wpAny (model X.prog X.w) X.A (call (.ref f) us) (EP X pins σ Q) X.xe s := by
  have r2 : Vals (vs ++ dvs) (us ++ ds) := r.append hd
  have hl : (us ++ ds).length = ps.length := by rw [← r2.length]; exact F.len _ _ _ _ h
  refine wpAny_call (codeAny_mono (F.run X.A X.stack s H ⟨us, []⟩ (us ++ ds) (vs ++ dvs) Q E hr I.env0 (hb s us I.kIn hl) r2 h) fun r s' hq => ?_)
  cases r with
  | error e => exact hx pins σ H s e s' I hq
  | ok fl =>
    cases fl with
    | ret u => exact I.after hq
    | next => exact False.elim hq
    | brk => exact False.elim hq
    | cont => exact False.elim hq
theorem pe_call (F : FnOk X.prog X.w X.K X.mg X.base CX k f fd ps sp) (hr : Room k X.A) (hg : Gl X x) (hm : X.mg x = some (.ref f)) (hk : PySem.W.keepIn X.K (.ref f) = true) (hb : Binds X.K fd ps ds) (hd : Vals dvs ds) (hx : Passes CX X E)
    (ha : PA X (e :: es) t) (hdb : (x == ("__debug__" : Str)) = false := by decide) (he : starEach (e :: es) X.env = (false, eval e X.env) :: starEach es X.env := by rfl) (hpl : (backTo pos (starEach es X.env)).any (·.1) = false := by rfl) :
    PE X (.Call (.Name x p) (e :: es) [] pos) (tCall sp dvs E t) := by
  intro pins s σ H Q I h
  refine wpAny_Call_Name_kw (ld_glob I hg hm ?_ hdb)
  refine PySem.W.callWith_K (h₀ := X.base) I.ok.mod.kin hk (thn (ha pos pins s σ H _ I h) fun us s1 ⟨vs, H1, I1, r, q⟩ => ⟨I1.kIn, ?_⟩) he hpl
  exact run_fn F hr hb hd hx I1 r q
theorem pe_call0 (F : FnOk X.prog X.w X.K X.mg X.base CX k f fd ps sp) (hr : Room k X.A) (hg : Gl X x) (hm : X.mg x = some (.ref f)) (hk : PySem.W.keepIn X.K (.ref f) = true) (hb : Binds X.K fd ps ds) (hd : Vals dvs ds) (hx : Passes CX X E)
    (hdb : (x == ("__debug__" : Str)) = false := by decide) : PE X (.Call (.Name x p) [] [] pos) (tCall sp dvs E tNil) := by
  intro pins s σ H Q I h
  refine wpAny_Call_Name_kw (ld_glob I hg hm ?_ hdb)
  exact PySem.W.callWith_K0 I.kIn hk (run_fn (us := []) F hr hb hd hx I .nil h)
theorem pe_meth {pl : Sem Bool} (he : PE X o ta) (c : Cls X.K C) (hm : Meth X.K C m f) (F : FnOk X.prog X.w X.K X.mg X.base CX k f fd ps sp) (hr : Room k X.A) (hb : Binds X.K fd ps ds) (hd : Vals dvs ds) (hx : Passes CX X E) (ha : PA X (e :: es) t)
    (hst : starEach (e :: es) X.env = (false, eval e X.env) :: starEach es X.env := by rfl) (hpl : (backTo pos (starEach es X.env)).any (·.1) = false := by rfl)
    (ht : eval (.Call (.Attribute o m apos) (e :: es) [] pos) X.env = (do
      let ov ← eval o X.env
      standAt apos.atName
      let (f, first) ← holding [ov] (getMethod ov m pl)
      callWith pos f first (backTo pos (starEach (e :: es) X.env)) (backToKw pos (keywordEach [] X.env))) := by rfl) :
    PE X (.Call (.Attribute o m apos) (e :: es) [] pos) (tMeth C m sp dvs E ta t) := by
  intro pins s σ H Q I h
  refine PySem.W.methodCall_KW (pl := pl) (thn (he pins s σ H _ I h) fun u s1 ⟨x, H1, I1, rx, a, dx, fs, ex, ea, l, q⟩ => ?_) ht
  subst ex
  obtain rfl : u = Value.ref a := rx
  refine getmeth_ok I1 ea c hm l ?_
  refine PySem.W.callWith_K (first := [.ref a]) (h₀ := X.base) I.ok.mod.kin hm.kp (thn (ha pos pins s1 σ H1 _ I1 q) fun us s2 ⟨vs, H2, I2, r, q2⟩ => ⟨I2.kIn, ?_⟩) hst hpl
  exact run_fn (us := .ref a :: us) (vs := .ref a :: vs) F hr hb hd hx I2 (.cons rfl r) q2
theorem pe_meth0 {pl : Sem Bool} (he : PE X o ta) (c : Cls X.K C) (hm : Meth X.K C m f) (F : FnOk X.prog X.w X.K X.mg X.base CX k f fd ps sp) (hr : Room k X.A) (hb : Binds X.K fd ps ds) (hd : Vals dvs ds) (hx : Passes CX X E)
    (ht : eval (.Call (.Attribute o m apos) [] [] pos) X.env = (do
      let ov ← eval o X.env
      standAt apos.atName
      let (f, first) ← holding [ov] (getMethod ov m pl)
      callWith pos f first (backTo pos (starEach [] X.env)) (backToKw pos (keywordEach [] X.env))) := by rfl) :
    PE X (.Call (.Attribute o m apos) [] [] pos) (tMeth C m sp dvs E ta tNil) := by
  intro pins s σ H Q I h
  refine PySem.W.methodCall_KW (pl := pl) (thn (he pins s σ H _ I h) fun u s1 ⟨x, H1, I1, rx, a, dx, fs, ex, ea, l, q⟩ => ?_) ht
  subst ex
  obtain rfl : u = Value.ref a := rx
  refine getmeth_ok I1 ea c hm l ?_
  exact PySem.W.callWith_K0 (first := [.ref a]) I1.kIn hm.kp (run_fn (us := [.ref a]) (vs := [.ref a]) F hr hb hd hx I1 (.cons rfl .nil) q)
structure Mk (K : PySem.W.Frag) (C f : Addr) : Prop where
  makes : PySem.W.makesIn K C = true
  init : PySem.W.findIn K (.ref C) "__init__" = some (some (.ref f))
  fn : PySem.W.isFn K (.ref f) = true
  kp : PySem.W.keepIn K (.ref C) = true
theorem run_make {pins : List (Addr × Obj)} {σ : St} {H : Hp} {s : Shared} {Q : VK} {us : List Value} {vs : List V} (M : Mk X.K C f) (F : FnOk X.prog X.w X.K X.mg X.base CX k f fd ps sp) (hr : Room (k + 1) X.A) (hb : Binds X.K fd ps ds) (hd : Vals dvs ds)
    (hx : Passes CX X E) (I : Inv X pins σ H s) (r : Vals vs us)
    (h : ∀ x dx, H x = none → H dx = none → dx ≠ x → sp (.ref x :: (vs ++ dvs)) (upd (upd H dx (.own x)) x (.ins C dx [])) (fun v H2 => v = .non ∧ Q (.ref x) H2) E) :
    wpAny (model X.prog X.w) X.A (call (.ref C) us) (EP X pins σ Q) X.xe s := by
  have hq := h (s.heap.objs.size + 1) s.heap.objs.size (I.hok.fresh (Nat.le_succ _)) (I.hok.fresh (Nat.le_refl _)) (Nat.ne_of_lt (Nat.lt_succ_self _))
  have I2 := Inv.made (C := C) I
  have r2 : Vals (V.ref (s.heap.objs.size + 1) :: (vs ++ dvs)) (Value.ref (s.heap.objs.size + 1) :: (us ++ ds)) := .cons rfl (r.append hd)
  have hl : (Value.ref (s.heap.objs.size + 1) :: us ++ ds).length = ps.length := by
    have e := r2.length
    rw [F.len _ _ _ _ hq] at e
    exact e.symm
  refine wpAny_call (make_map (f := f) I.kIn M.makes M.init (beq_iff_eq.mp M.fn) (codeAny_mono (F.run _ X.stack _ _ ⟨Value.ref (s.heap.objs.size + 1) :: us, []⟩ (Value.ref (s.heap.objs.size + 1) :: (us ++ ds)) _ _ E (hr.make C us [])
    (I2.env0.make C us []) (hb _ (Value.ref (s.heap.objs.size + 1) :: us) I2.kIn hl) r2 hq) fun r s' hq' => ?_))
  cases r with
  | error e => exact hx pins σ _ _ e s' I2 hq'
  | ok fl =>
    cases fl with
    | ret u =>
      obtain ⟨v, H', I3, rv, ev, q3⟩ := I2.after hq'
      subst ev
      exact ⟨rv, ⟨V.ref (s.heap.objs.size + 1), H', I3, rfl, q3⟩⟩
    | next => exact False.elim hq'
    | brk => exact False.elim hq'
    | cont => exact False.elim hq'
theorem pe_make (M : Mk X.K C f) (F : FnOk X.prog X.w X.K X.mg X.base CX k f fd ps sp) (hr : Room (k + 1) X.A) (hg : Gl X x) (hm : X.mg x = some (.ref C)) (hb : Binds X.K fd ps ds) (hd : Vals dvs ds) (hx : Passes CX X E)
    (ha : PA X (e :: es) t) (hdb : (x == ("__debug__" : Str)) = false := by decide) (he : starEach (e :: es) X.env = (false, eval e X.env) :: starEach es X.env := by rfl) (hpl : (backTo pos (starEach es X.env)).any (·.1) = false := by rfl) :
    PE X (.Call (.Name x p) (e :: es) [] pos) (tMake C sp dvs E t) := by
  intro pins s σ H Q I h
  refine wpAny_Call_Name_kw (ld_glob I hg hm ?_ hdb)
  refine PySem.W.callWith_K (h₀ := X.base) I.ok.mod.kin M.kp (thn (ha pos pins s σ H _ I h) fun us s1 ⟨vs, H1, I1, r, q⟩ => ⟨I1.kIn, ?_⟩) he hpl
  exact run_make M F hr hb hd hx I1 r q
end
section
variable {X : Cx} {CX : CXT} {k : Nat} {f C : Addr} {fd : FuncData} {ps ks : List Str} {sp : Sp} {E : XK} {x m : Str} {p pos apos kpos : Pos} {e o : Expr} {es : List Expr} {kws : List Keyword} {te ta : TE} {t tk : TA} {nm : Option Str}
variable {g : List Value → List Value → List Value} {gV : List V → List V → List V}
end
structure FnScope (N P : List Str) (sc : Scope) : Prop where
  kind : sc.kind = .function
  co : sc.isCoroutine = false
  gen : sc.isGenerator = false
  nd : N.Nodup
  pre : N.take P.length = P
  par : ∀ x ∈ P, sc.names.lookup x = some .local ∨ sc.names.lookup x = some .cell
  nofree : ∀ y ∈ sc.names, y.2 ≠ .free
theorem bindL_out {kindOf : Str → Option NameKind} {x : Str} : ∀ {binds : List (Str × Value)} {m : Str → Option Value}, (∀ v, (x, v) ∉ binds) → bindL kindOf binds m x = m x
  | [], _, _ => rfl
  | (n, v) :: r, m, h => by
    unfold bindL
    rw [bindL_out fun w hw => h w (List.mem_cons_of_mem _ hw)]
    split
    · have : x ≠ n := by rintro rfl; exact h v List.mem_cons_self
      simp [this]
    · rfl
theorem bindC_out {kindOf : Str → Option NameKind} {x : Str} : ∀ {binds : List (Str × Value)} {m : Str → Option Value}, (∀ v, (x, v) ∉ binds) → bindC kindOf binds m x = m x
  | [], _, _ => rfl
  | (n, v) :: r, m, h => by
    unfold bindC
    rw [bindC_out fun w hw => h w (List.mem_cons_of_mem _ hw)]
    split
    · rfl
    · have : x ≠ n := by rintro rfl; exact h v List.mem_cons_self
      simp [this]
theorem bindL_get {kindOf : Str → Option NameKind} {x : Str} {v : Value} : ∀ {P : List Str} {vs : List Value} {i : Nat} {m : Str → Option Value}, P.Nodup → P[i]? = some x → vs[i]? = some v → kindOf x = some .local →
    bindL kindOf (P.zip vs) m x = some v
  | [], _, _, _, _, h, _, _ => by simp at h
  | _ :: _, [], _, _, _, _, h, _ => by simp at h
  | p :: P, w :: vs, 0, m, nd, h1, h2, hk => by
    simp at h1 h2; subst h1; subst h2
    show bindL kindOf ((p, w) :: P.zip vs) m p = _
    unfold bindL
    rw [bindL_out fun v hv => (List.nodup_cons.mp nd).1 (List.of_mem_zip hv).1, if_pos hk]
    simp
  | p :: P, w :: vs, i + 1, m, nd, h1, h2, hk => by
    show bindL kindOf ((p, w) :: P.zip vs) m x = _
    unfold bindL
    exact bindL_get (i := i) (List.nodup_cons.mp nd).2 (by simpa using h1) (by simpa using h2) hk
theorem bindC_get {kindOf : Str → Option NameKind} {x : Str} {v : Value} : ∀ {P : List Str} {vs : List Value} {i : Nat} {m : Str → Option Value}, P.Nodup → P[i]? = some x → vs[i]? = some v → kindOf x ≠ some .local →
    bindC kindOf (P.zip vs) m x = some v
  | [], _, _, _, _, h, _, _ => by simp at h
  | _ :: _, [], _, _, _, _, h, _ => by simp at h
  | p :: P, w :: vs, 0, m, nd, h1, h2, hk => by
    simp at h1 h2; subst h1; subst h2
    show bindC kindOf ((p, w) :: P.zip vs) m p = _
    unfold bindC
    rw [bindC_out fun v hv => (List.nodup_cons.mp nd).1 (List.of_mem_zip hv).1, if_neg hk]
    simp
  | p :: P, w :: vs, i + 1, m, nd, h1, h2, hk => by
    show bindC kindOf ((p, w) :: P.zip vs) m x = _
    unfold bindC
    exact bindC_get (i := i) (List.nodup_cons.mp nd).2 (by simpa using h1) (by simpa using h2) hk
def start (N : List Str) (vs : List V) : St := vs.map some ++ List.replicate (N.length - vs.length) none
def cxOf (CX : CXT) (P : Program) (w : World) (K : PySem.W.Frag) (mg : Str → Option Value) (base : Heap) (N : List Str) (qual : Str) (scope : Scope) (f : Addr) (cd : Value) (A : Around) (outer : List Env) (s : Shared) (H : Hp) (E : XK) : Cx where
  prog := P
  w := w
  K := K
  mg := mg
  base := base
  A := A.deeper (envOfC qual scope s.heap.objs.size f cd)
  N := N
  s₀ := s
  H₀ := H
  env := envOfC qual scope s.heap.objs.size f cd
  outer := outer
  stack := envOfC qual scope s.heap.objs.size f cd :: outer
  ex := []
  calm := true
  fn := fun _ => true
  pn := []
  xe := fun e s' => wpAny (model P w) (A.deeper (envOfC qual scope s.heap.objs.size f cd)) (leaving (envOfC qual scope s.heap.objs.size f cd) e) (fun _ s'' => CX outer H s E e s'') (fun e' s'' => CX outer H s E e' s'') s'
theorem cell_has {sc : Scope} {n : Nat} {x : Str} (h : sc.names.lookup x = some .cell) : ∃ c, (cellsFrom n sc.names []).lookup x = some c := by
  have q := PySem.W.cellsFrom_some sc.names n [] (.inl h)
  exact Option.isSome_iff_exists.mp q
theorem inv_start {CX : CXT} {P : Program} {w : World} {K : PySem.W.Frag} {mg : Str → Option Value} {base : Heap} {N ps : List Str} {qual : Str} {scope : Scope} {f : Addr} {cd : Value} {A : Around} {outer : List Env} {s s1 : Shared} {H : Hp} {E : XK} {us : List Value} {vs : List V}
    (S : FnScope N ps scope) (hd : A.handled = none) (e0 : Env0 P w K mg base A outer s H) (hl : vs.length = ps.length) (r : Vals vs us)
    (x : InCallC s s.heap.objs.size (bindL (envOfC qual scope s.heap.objs.size f cd).kindOf (ps.zip us) fun _ => none) (cellsFrom (s.heap.objs.size + 1) scope.names []) (bindC (envOfC qual scope s.heap.objs.size f cd).kindOf (ps.zip us) fun _ => none) s1) :
    Inv (cxOf CX P w K mg base N qual scope f cd A outer s H E) [] (start N vs) H s1 := by
  have hpl : ps.length ≤ N.length := by have := congrArg List.length S.pre; rw [List.length_take] at this; omega
  obtain ⟨h1, tk, rfl, hk⟩ := x.done
  have noA : ∀ b : Addr, b ∉ (cxOf CX P w K mg base N qual scope f cd A outer s H E).ex := fun b z => absurd (show b ∈ ([] : List Addr) from z) (by simp)
  refine ⟨⟨e0.mod, S.kind, rfl, rfl, Nat.le_refl _, fun y z c h1 h2 => ?_, fun y hy => ?_, fun y c _ h => ?_, fun _ => hd, Around.frames_deeper e0.frames, .inr ⟨rfl, rfl⟩, fun b z => absurd z (noA b), e0.bs, e0.bsz, fun b _ _ => noA b, fun b z => absurd z (noA b), e0.funs, e0.frf⟩,
    rfl, e0.bare, Un.kept hk, ⟨_, x.toInCall.ns, fun i y v h1 h2 h3 => ?_⟩, fun y c h => ⟨_, x.cell y c h⟩, e0.hok.fresh (Nat.le_refl _), fun y c h => ?_, fun p hp => absurd (show p ∈ ([] : List (Addr × Obj)) from hp) (by simp), e0.hok.kept hk, ?_⟩
  · exact name_of_addr x.apart (PySem.mem_of_lookup h1) (PySem.mem_of_lookup h2)
  · have hy : scope.names.lookup y = some .cell ∨ scope.names.lookup y = some .free := hy
    rcases hy with hy | hy
    · exact cell_has hy
    · exact absurd rfl (S.nofree _ (PySem.mem_of_lookup hy))
  · exact Nat.le_of_lt (x.above y c (PySem.mem_of_lookup h))
  · have hi : i < vs.length := by
      unfold start at h2
      by_cases hi : i < vs.length
      · exact hi
      · rw [List.getElem?_append_right (by simpa using hi)] at h2
        rw [List.getElem?_replicate] at h2
        split at h2 <;> cases h2
    have ha : vs[i]? = some v := by
      unfold start at h2
      rw [List.getElem?_append_left (by simpa using hi), List.getElem?_map] at h2
      cases e : vs[i]? with
      | none => rw [e] at h2; cases h2
      | some a => rw [e] at h2; cases h2; rfl
    obtain ⟨u, hu, rv⟩ := r.get ha
    have hp : ps[i]? = some y := by
      rw [← S.pre, List.getElem?_take_of_lt (by omega)]; exact h1
    have ndP : ps.Nodup := by rw [← S.pre]; exact S.nd.sublist (List.take_sublist _ _)
    refine ⟨u, rv, ?_⟩
    rcases S.par y (List.mem_of_getElem? hp) with k | k
    · exact .inl ⟨k, bindL_get ndP hp hu k⟩
    · obtain ⟨c, e⟩ := cell_has (n := s.heap.objs.size + 1) k
      refine .inr ⟨.inl k, c, e, ?_⟩
      have q := x.cell y c e
      rw [bindC_get ndP hp hu (by show scope.names.lookup y ≠ _; rw [k]; decide)] at q
      exact q
  · exact .inl (e0.hok.fresh (Nat.le_of_lt (x.above y c (PySem.mem_of_lookup h))))
  · unfold start
    show _ = N.length
    rw [List.length_append, List.length_map, List.length_replicate]
    omega
theorem fn_of {CX : CXT} {P : Program} {w : World} {K : PySem.W.Frag} {mg : Str → Option Value} {base : Heap} {k : Nat} {f : Addr} {name qual : Str} {params : Arguments} {body : List Stmt} {scope : Scope} {dV kV doc pm cdv ct oc : Value} {an od : Option Addr}
    {osl : Array (Option Value)} {N ps : List Str} {sp : Sp} (lk : K.lookup f = some ⟨oc, od, .func (PySem.W.fnOf name qual params body scope dV kV doc pm an cdv ct), osl⟩) (hcd : PySem.W.codeIn K cdv qual = true) (S : FnScope N ps scope)
    (len : ∀ vs H Q E, sp vs H Q E → vs.length = ps.length)
    (hbody : ∀ (A : Around) (outer : List Env) (s : Shared) (H : Hp) (vs : List V) (Q : VK) (E : XK), Room k (A.deeper (envOfC qual scope s.heap.objs.size f cdv)) → sp vs H Q E →
      ∃ t, PSs (cxOf CX P w K mg base N qual scope f cdv A outer s H E) body t ∧ t { nx := fun _ H' => Q .non H', rt := Q } (start N vs) H) :
    FnOk P w K mg base CX (k + 1) f (PySem.W.fnOf name qual params body scope dV kV doc pm an cdv ct) ps sp := by
  refine ⟨len, fun A outer s H args us vs Q E hr e0 hb r hsp => ?_⟩
  have hl := len _ _ _ _ hsp
  have KX : K.In s.heap := e0.mod.kin.keeps fun b o e => (e0.bs b o e).1
  have lim : s.heap.NoLimit := e0.mod.nolimit.keeps fun b o e => (e0.bs b o e).1
  have hkind : ∀ y ∈ ps.zip us, scope.names.lookup y.1 = some .local ∨ (scope.names.lookup y.1 = some .cell ∧ ((cellsFrom (s.heap.objs.size + 1) scope.names []).lookup y.1).isSome = true) := fun ⟨n, v⟩ hy => by
    rcases S.par n (List.of_mem_zip hy).1 with q | q
    · exact .inl q
    · exact .inr ⟨q, PySem.W.cellsFrom_some _ _ _ (.inl q)⟩
  refine codeAny_call_function hr.depth (KX _ _ lk) rfl S.co S.gen rfl (PySem.W.codeRec_of KX hcd) (hb _ _ _ _ ?_)
  refine wpAny_newFunctionEnv_cells S.kind hkind fun env he s1 x => ?_
  subst he
  refine ⟨lim.keeps x.toInCall.keep, codeAny_func ?_⟩
  obtain ⟨t, ht, hq⟩ := hbody A outer s H vs Q E (hr.deeper _) hsp
  have I : Inv (cxOf CX P w K mg base N qual scope f cdv A outer s H E) [] (start N vs) H s1 := inv_start S hr.hd e0 hl r x
  refine wpAny_mono (ht [] s1 (start N vs) H _ I hq) (fun fl s' hs => ?_) fun e s' hs => hs
  have fin : ∀ {σ' : St} {H' : Hp} {v : V} {u : Value}, Inv (cxOf CX P w K mg base N qual scope f cdv A outer s H E) [] σ' H' s' → RelV v u → Q v H' → CE outer P w H s Q u s' :=
    fun {σ' H' v u} J rv q => ⟨v, H', J.os, J.bare, J.base, J.hok, rv, q⟩
  cases fl with
  | ret u =>
    obtain ⟨v, σ', H', J, rv, q⟩ := hs
    exact fin J rv q
  | next =>
    obtain ⟨σ', H', J, q⟩ := hs
    exact fin (v := V.non) (u := Value.none) J rfl q
  | brk =>
    obtain ⟨_, _, _, q⟩ := hs
    exact False.elim q
  | cont =>
    obtain ⟨_, _, _, q⟩ := hs
    exact False.elim q
end L2
namespace L2
open PySem PySem.Spec PyProof.Rows
section
variable {X : Cx} {x : Str} {p pos : Pos} {e : Expr} {es : List Expr} {t : TA} {id T : String} {r : List V → Hp → VK → Prop}
def tCB (r : List V → Hp → VK → Prop) (t : TA) : TE := fun σ H Q => t σ H fun vs H1 => r vs H1 Q
theorem pe_callB (hc : CallR X (.builtin id) r) (hg : Gl X x) (hm : X.mg x = none) (hv : bootBuiltins x = some (.builtin id)) (ha : PA X (e :: es) t) (hn : x ≠ "__name__" := by decide) (hdb : (x == ("__debug__" : Str)) = false := by decide)
    (he : starEach (e :: es) X.env = (false, eval e X.env) :: starEach es X.env := by rfl) (hpl : (backTo pos (starEach es X.env)).any (·.1) = false := by rfl) : PE X (.Call (.Name x p) (e :: es) [] pos) (tCB r t) := by
  intro pins s σ H Q I h
  refine wpAny_Call_Name_kw (ld_blt I hg hm hv ?_ hn hdb)
  exact PyProof.Rows.callWith_builtin1 (thn (ha pos pins s σ H _ I h) fun us s1 ⟨vs, H1, I1, r1, q1⟩ => hc pins s1 σ H1 vs us Q I1 r1 q1) he hpl
theorem pe_callTy (hc : CallR X (.type T) r) (hg : Gl X x) (hm : X.mg x = none) (hv : bootBuiltins x = some (.type T)) (ha : PA X (e :: es) t) (hn : x ≠ "__name__" := by decide) (hdb : (x == ("__debug__" : Str)) = false := by decide)
    (he : starEach (e :: es) X.env = (false, eval e X.env) :: starEach es X.env := by rfl) (hpl : (backTo pos (starEach es X.env)).any (·.1) = false := by rfl) : PE X (.Call (.Name x p) (e :: es) [] pos) (tCB r t) := by
  intro pins s σ H Q I h
  refine wpAny_Call_Name_kw (ld_blt I hg hm hv ?_ hn hdb)
  exact PyProof.Rows.callWith_type1 (thn (ha pos pins s σ H _ I h) fun us s1 ⟨vs, H1, I1, r1, q1⟩ => hc pins s1 σ H1 vs us Q I1 r1 q1) he hpl
end
end L2
namespace HT
open PySem PyProof.Rows
section
open PySem.SeqAt
open PySem.AutoSeq1 (wpAny_loadPart')
open PySem.MeetsSeq PySem.MeetsSeq2 PySem.MeetsSeq3
end
section
variable {prog : Program} {w : World} {A : Around} {E : Value → Shared → Prop} {s : Shared}
end
end HT
namespace L2
open PySem PySem.Spec PyProof.Rows
abbrev TO := St → Hp → (Option Int → Hp → Prop) → Prop
def PO (X : Cx) (e : Option Expr) (t : TO) : Prop :=
  ∀ (pins : List (Addr × Obj)) (s : Shared) (σ : St) (H : Hp) (Q : Option Int → Hp → Prop), Inv X pins σ H s → t σ H Q →
    wpAny (model X.prog X.w) X.A (evalPart e X.env) (fun u s' => ∃ o H', Inv X pins σ H' s' ∧ IsPart u o ∧ Q o H') X.xe s
def tNoPart : TO := fun _ H Q => Q none H
def tPart (t : TE) : TO := fun σ H Q => t σ H fun x H1 => ∃ i, x = .int i ∧ Q (some i) H1
section
variable {X : Cx} {e : Expr} {te : TE} {lo hi : Option Expr} {tl th : TO} {pos p2 : Pos}
theorem po_none : PO X none tNoPart := by
  intro pins s σ H Q I h
  rw [evalPart_none]
  exact wpAny_pure ⟨none, H, I, .none, h⟩
theorem po_some (h : PE X e te) : PO X (some e) (tPart te) := by
  intro pins s σ H Q I hw
  rw [evalPart_some]
  refine thn (h pins s σ H _ I hw) fun u s1 ⟨x, H1, I1, r1, q1⟩ => ?_
  obtain ⟨i, rfl, q⟩ := q1
  obtain ⟨t, rfl⟩ := r1
  exact ⟨some i, H1, I1, .int i t, q⟩
def SlR (X : Cx) (r : V → Option Int → Option Int → Hp → VK → Prop) : Prop :=
  ∀ (pins : List (Addr × Obj)) (s : Shared) (σ : St) (H : Hp) (x : V) (v vl vu : Value) (lo hi : Option Int) (sl : Addr) (Q : VK), Inv X pins σ H s → RelV x v → s.heap.IsSliceOf sl vl vu .none → IsPart vl lo → IsPart vu hi → r x lo hi H Q →
    ∃ T id, typeLookup (.type T) "__getitem__" = pure (some (.builtin id)) ∧ s.TypeIs v T ∧ wpAny (model X.prog X.w) X.A (getItem v (.ref sl)) (EP X pins σ Q) X.xe s
def tSl (r : V → Option Int → Option Int → Hp → VK → Prop) (te : TE) (tl th : TO) : TE := fun σ H Q => te σ H fun x H1 => tl σ H1 fun l H2 => th σ H2 fun u H3 => r x l u H3 Q
theorem pe_slice {r : V → Option Int → Option Int → Hp → VK → Prop} (hr : SlR X r) (he : PE X e te) (hl : PO X lo tl) (hu : PO X hi th) : PE X (.Subscript e (.Slice lo hi none p2) pos) (tSl r te tl th) := by
  intro pins s σ H Q I h
  refine Subscript_ (thn (he pins s σ H _ I h) fun v s1 ⟨x, H1, I1, r1, q1⟩ => ?_)
  refine wpAny_Slice (thn (hl pins s1 σ H1 _ I1 q1) fun vl s2 ⟨l, H2, I2, pl, q2⟩ => thn (hu pins s2 σ H2 _ I2 q2) fun vu s3 ⟨u, H3, I3, pu, q3⟩ => ?_)
  rw [evalPart_none]
  refine wpAny_pure ?_
  have I4 : Inv X pins σ H3 { s3 with heap := s3.heap.push { cls := .type "slice", data := .fields #[vl, vu, .none] } } := I3.kept (t' := s3.toks) fun b ob q => Heap.get?_push_of_some _ q
  obtain ⟨T, id, hT, ht, hg⟩ := hr pins { s3 with heap := s3.heap.push { cls := .type "slice", data := .fields #[vl, vu, .none] } } σ H3 x v vl vu l u s3.heap.objs.size Q I4 r1 (Heap.IsSliceOf.new ..) pl pu q3
  show wpAny (model X.prog X.w) X.A (subscriptTail e (.Slice lo hi none p2) v (.ref s3.heap.objs.size)) (EP X pins σ Q) X.xe { s3 with heap := s3.heap.push { cls := .type "slice", data := .fields #[vl, vu, .none] } }
  exact tail_any (ops := [.ref s3.heap.objs.size, v]) ht hT hg (by with_unfolding_all rfl)
end
end L2
namespace L2
open PySem PySem.Spec PyProof.Rows
def ixN (n : Nat) (i : Int) : Option Nat := if 0 ≤ i then (if i < n then some i.toNat else none) else if -(n : Int) ≤ i then some (i + n).toNat else none
def atI {α : Type} (xs : List α) (i : Int) : Option α := (ixN xs.length i).bind fun j => xs[j]?
theorem ixN_seq {n : Nat} {i : Int} {j : Nat} (h : ixN n i = some j) : seqIndex? i n = some j ∧ j < n ∧ -(n : Int) ≤ i ∧ i < n := by
  unfold ixN at h
  by_cases h0 : 0 ≤ i
  · rw [if_pos h0] at h
    by_cases h1 : i < n
    · rw [if_pos h1] at h
      have e : i.toNat = j := Option.some.inj h
      exact ⟨by rw [seqIndex_of h0 h1, e], by omega, by omega, h1⟩
    · rw [if_neg h1] at h; cases h
  · rw [if_neg h0] at h
    by_cases h1 : -(n : Int) ≤ i
    · rw [if_pos h1] at h
      have e : (i + n).toNat = j := Option.some.inj h
      exact ⟨by rw [seqIndex_neg (by omega) h1, e], by omega, h1, by omega⟩
    · rw [if_neg h1] at h; cases h
theorem atI_get {α : Type} {xs : List α} {i : Int} {v : α} (h : atI xs i = some v) : ∃ j, seqIndex? i xs.length = some j ∧ xs[j]? = some v ∧ j < xs.length ∧ -(xs.length : Int) ≤ i ∧ i < xs.length := by
  unfold atI at h
  cases e : ixN xs.length i with
  | none => rw [e] at h; cases h
  | some j =>
    rw [e] at h
    obtain ⟨h1, h2, h3, h4⟩ := ixN_seq e
    exact ⟨j, h1, h, h2, h3, h4⟩
theorem atI_nat {α : Type} {xs : List α} {j : Nat} {v : α} (h : xs[j]? = some v) : atI xs (j : Int) = some v := by
  have hj : j < xs.length := (List.getElem?_eq_some_iff.mp h).1
  have e : ixN xs.length (j : Int) = some j := by
    unfold ixN
    rw [if_pos (by omega), if_pos (by omega)]; simp
  unfold atI; rw [e]; exact h
def PlainIx (b : Expr) : Prop := ∀ o i, subscripted b false o i = operate [o, i] (getItem o i)
def IxR (X : Cx) (r : R2) : Prop :=
  ∀ (value slice : Expr) (pins : List (Addr × Obj)) (s : Shared) (σ : St) (H : Hp) (x y : V) (v u : Value) (Q : VK), Inv X pins σ H s → RelV x v → RelV y u → r x y H Q →
    subscripted slice false v u = operate [v, u] (getItem v u) → wpAny (model X.prog X.w) X.A (subscriptTail value slice v u) (EP X pins σ Q) X.xe s
def MtR (X : Cx) (id : String) (r : V → List V → Hp → VK → Prop) : Prop :=
  ∀ (pins : List (Addr × Obj)) (s : Shared) (σ : St) (H : Hp) (x : V) (xs : List V) (v : Value) (us : List Value) (Q : VK), Inv X pins σ H s → RelV x v → Vals xs us → r x xs H Q →
    wpAny (model X.prog X.w) X.A (call (.builtin id) (v :: us)) (EP X pins σ Q) X.xe s
section
variable {X : Cx} {a b : Expr} {ta tb : TE} {pos : Pos}
theorem pe_ix {r : R2} (hr : IxR X r) (ha : PE X a ta) (hb : PE X b tb) (hs : PlainIx b) : PE X (.Subscript a b pos) (tOp r ta tb) := by
  intro pins s σ H Q I h
  exact Subscript_ (binT ha hb I h fun v u s2 x y H2 I2 rx ry q => hr a b pins s2 σ H2 x y v u Q I2 rx ry q (hs _ _))
def rIxL (K : PySem.W.Frag) : R2 := fun x y H Q => ∃ p xs i v, x = .ref p ∧ y = .int i ∧ SqL K H p xs ∧ atI xs i = some v ∧ Q v H
def rIxT (K : PySem.W.Frag) : R2 := fun x y H Q => ∃ p xs i v, x = .ref p ∧ y = .int i ∧ SqT K H p xs ∧ atI xs i = some v ∧ Q v H
def rIxS : R2 := fun x y H Q => ∃ z i c, x = .str z ∧ y = .int i ∧ z.length ≤ sizeLine ∧ atI z.cps.toList i = some c ∧ Q (.str ⟨#[c]⟩) H
theorem ix_list : IxR X (rIxL X.K) := by
  intro value slice pins s σ H x y v u Q I rx ry h hs
  obtain ⟨p, xs, i, z, rfl, rfl, hq, he, q⟩ := h
  cases rx
  obtain ⟨t, rfl⟩ := ry
  obtain ⟨its, r, pl, hz⟩ := I.list hq
  obtain ⟨j, h1, h2, h3, h4, h5⟩ := atI_get he
  obtain ⟨w, ew, rw'⟩ := r.get h2
  have hl := r.length
  have hn := line63
  have fin : EP X pins σ Q w s := ⟨z, H, I, rw', q⟩
  by_cases h0 : 0 ≤ i
  · have hj : i.toNat = j := by
      rw [seqIndex_of h0 h5] at h1
      exact Option.some.inj h1
    exact item_listR pl.isList h0 (by omega) (by rw [hj]; simpa using ew) fin hs
  · have hj : (i + (its.toArray.size : Int)).toNat = j := by
      rw [seqIndex_neg (by omega) h4] at h1
      rw [List.size_toArray, ← hl]
      exact Option.some.inj h1
    exact subscriptTail_builtinR (x := w) pl.isList.typeIs slot_list_getitem.lookup
      (wpAny_getItem_list_neg (Q := fun r s' => r = w ∧ EP X pins σ Q r s') pl.isList (by omega) (by rw [List.size_toArray] <;> omega) (by omega) (by rw [hj]; simpa using ew) ⟨rfl, fin⟩) hs
theorem ix_tup : IxR X (rIxT X.K) := by
  intro value slice pins s σ H x y v u Q I rx ry h hs
  obtain ⟨p, xs, i, z, rfl, rfl, hq, he, q⟩ := h
  cases rx
  obtain ⟨t, rfl⟩ := ry
  obtain ⟨its, r, pl, hz⟩ := I.tuple hq
  obtain ⟨j, h1, h2, h3, h4, h5⟩ := atI_get he
  obtain ⟨w, ew, rw'⟩ := r.get h2
  have hl := r.length
  have hn := line63
  have fin : EP X pins σ Q w s := ⟨z, H, I, rw', q⟩
  exact subscriptTail_builtinR (x := w) pl.typeIs slot_tuple_getitem.lookup
    (getItem_tuple (j := j) (Q := fun r s' => r = w ∧ EP X pins σ Q r s') pl (by omega) (by omega) (by rw [List.size_toArray, ← hl]; exact h1) (by simpa using ew) ⟨rfl, fin⟩) hs
theorem ix_str : IxR X rIxS := by
  intro value slice pins s σ H x y v u Q I rx ry h hs
  obtain ⟨z, i, c, rfl, rfl, hz, he, q⟩ := h
  obtain ⟨t, rfl⟩ := rx
  obtain ⟨t', rfl⟩ := ry
  obtain ⟨j, h1, h2, h3, h4, h5⟩ := atI_get he
  have hl : z.cps.toList.length = z.length := by simp [Str.length]
  rw [hl] at h1 h4 h5
  have hn := line63
  exact tail_any (typeIs_str s z t) slot_str_getitem.lookup (getItem_str (c := c) (by
    have e1 : decide (i < -(2 ^ 63 : Int)) = false := decide_eq_false (by omega)
    have e2 : decide (i ≥ 2 ^ 63) = false := decide_eq_false (by omega)
    rw [e1, e2, Bool.or_false]) (by rw [h1]; simpa using h2) ⟨.str ⟨#[c]⟩, H, I.tok _, ⟨_, rfl⟩, q⟩) hs
theorem mapSeq_set (its : List Value) (n j : Nat) (u : Value) : Obj.mapSeq (·.setIfInBounds j u) { cls := .type "list", data := .seq its.toArray n } = { cls := .type "list", data := .seq (its.set j u).toArray n } := by
  simp [Obj.mapSeq]
theorem Inv.lst {pins : List (Addr × Obj)} {σ : St} {H : Hp} {s : Shared} {p : Addr} {xs : List V} (I : Inv X pins σ H s) (h : H p = some (.lst xs)) :
    ∃ (its : List Value) (n : Nat), Vals xs its ∧ s.heap.get? p = some { cls := .type "list", data := .seq its.toArray n } ∧ xs.length ≤ sizeLine := by
  obtain ⟨z, its, n, r, e⟩ := I.hok p _ h
  exact ⟨its, n, r, e, z⟩
theorem Inv.lstUpd {pins : List (Addr × Obj)} {σ : St} {H : Hp} {s : Shared} {p : Addr} {xs ys : List V} {its its' : List Value} {n n' : Nat} {f : Obj → Obj} (I : Inv X pins σ H s) (h : H p = some (.lst xs))
    (ho : s.heap.get? p = some { cls := .type "list", data := .seq its.toArray n }) (hf : f { cls := .type "list", data := .seq its.toArray n } = { cls := .type "list", data := .seq its'.toArray n' }) (r : Vals ys its') (hz : ys.length ≤ sizeLine) (t : Nat) :
    Inv X pins σ (upd H p (.lst ys)) { s with heap := s.heap.update p f, toks := t } := by
  have e : (s.heap.update p f).get? p = some { cls := .type "list", data := .seq its'.toArray n' } := by
    rw [Heap.get?_update_self f ho (by rw [hf] <;> rfl), hf]
  refine I.write (x := p) (e := p) (by rw [h]; trivial) (.inl rfl) (fun b u hb q => (Heap.get?_update_other _ _ (Ne.symm hb)).trans q) ⟨_, e⟩ ?_
  exact ⟨hz, its', n', r, e⟩
def rSetL : V → V → V → Hp → (Hp → Prop) → Prop := fun o i v H Q => ∃ p xs k j, o = .ref p ∧ i = .int k ∧ H p = some (.lst xs) ∧ ixN xs.length k = some j ∧ Q (upd H p (.lst (xs.set j v)))
theorem set_list : PSet X rSetL := by
  intro pins s σ H o i v ov iv u Q I ro ri rv h
  obtain ⟨p, xs, k, j, rfl, rfl, hp, hj, q⟩ := h
  cases ro
  obtain ⟨t, rfl⟩ := ri
  obtain ⟨its, n, r, ho, hz⟩ := I.lst hp
  obtain ⟨h1, h2, h3, h4⟩ := ixN_seq hj
  have hl := r.length
  have hn := line63
  have I' : Inv X pins σ (upd H p (.lst (xs.set j v))) { s with heap := s.heap.update p (Obj.mapSeq (·.setIfInBounds j u)) } :=
    I.lstUpd hp ho (mapSeq_set its n j u) (r.set rv j) (by rw [List.length_set]; exact hz) s.toks
  by_cases h0 : 0 ≤ k
  · have hk : k.toNat = j := by
      rw [seqIndex_of h0 h4] at h1
      exact Option.some.inj h1
    exact PySem.W.ki_setAt ho h0 (by omega) (by rw [List.size_toArray, ← hl]; exact h4) (by rw [hk]; exact ⟨_, I', q⟩)
  · have hk : (k + (its.toArray.size : Int)).toNat = j := by
      rw [seqIndex_neg (by omega) h3] at h1
      rw [List.size_toArray, ← hl]
      exact Option.some.inj h1
    exact PySem.W.ki_setBack ho (by omega) (by rw [List.size_toArray, ← hl]; exact h3) (by omega) (by rw [hk]; exact ⟨_, I', q⟩)
def flatV : V → Bool
  | .non => true
  | .bl _ => true
  | .int _ => true
  | .str _ => true
  | _ => false
def eqV : V → V → Bool
  | .non, .non => true
  | .bl a, .bl b => a == b
  | .bl a, .int b => (if a then 1 else 0) == b
  | .int a, .bl b => a == (if b then 1 else 0)
  | .int a, .int b => a == b
  | .str a, .str b => a == b
  | _, _ => false
theorem eqAt_V {A : Around} {s : Shared} {y x : V} {u v : Value} (ry : RelV y u) (rx : RelV x v) (fy : flatV y = true) (fx : flatV x = true) : SeqAt.EqAt A s u v (eqV y x) := by
  cases y with
  | non =>
    cases ry
    cases x with
    | non => cases rx; exact SeqAt.EqAt.same _
    | bl b => cases rx; exact SeqAt.EqAt.none_bool b
    | int b => obtain ⟨t, rfl⟩ := rx; exact SeqAt.EqAt.none_int b t
    | str b => obtain ⟨t, rfl⟩ := rx; exact SeqAt.EqAt.none_str b t
    | _ => exact absurd (show false = true from fx) Bool.false_ne_true
  | bl a =>
    cases ry
    cases x with
    | non => cases rx; exact SeqAt.EqAt.bool_none a
    | bl b => cases rx; exact SeqAt.EqAt.bool_bool a b
    | int b => obtain ⟨t, rfl⟩ := rx; exact SeqAt.EqAt.bool_int a b t
    | str b => obtain ⟨t, rfl⟩ := rx; exact SeqAt.EqAt.bool_str a b t
    | _ => exact absurd (show false = true from fx) Bool.false_ne_true
  | int a =>
    obtain ⟨t', rfl⟩ := ry
    cases x with
    | non => cases rx; exact SeqAt.EqAt.int_none a t'
    | bl b => cases rx; exact SeqAt.EqAt.int_bool a t' b
    | int b => obtain ⟨t, rfl⟩ := rx; exact SeqAt.EqAt.int_int a t' b t
    | str b => obtain ⟨t, rfl⟩ := rx; exact SeqAt.EqAt.int_str a t' b t
    | _ => exact absurd (show false = true from fx) Bool.false_ne_true
  | str a =>
    obtain ⟨t', rfl⟩ := ry
    cases x with
    | non => cases rx; exact SeqAt.EqAt.str_none a t'
    | bl b => cases rx; exact SeqAt.EqAt.str_bool a t' b
    | int b => obtain ⟨t, rfl⟩ := rx; exact SeqAt.EqAt.str_int a t' b t
    | str b => obtain ⟨t, rfl⟩ := rx; exact SeqAt.EqAt.str_str a t' b t
    | _ => exact absurd (show false = true from fx) Bool.false_ne_true
  | _ => exact absurd (show false = true from fy) Bool.false_ne_true
theorem call_len_seq : CallR X (.builtin "len") (fun xs H Q => ∃ p ys, xs = [.ref p] ∧ (SqL X.K H p ys ∨ SqT X.K H p ys) ∧ Q (.int ys.length) H) := by
  intro pins s σ H xs us Q I r h
  obtain ⟨p, ys, rfl, hq, q⟩ := h
  obtain ⟨u, rfl, rx⟩ := vals1 r
  cases rx
  have hn := line63
  rcases hq with hq | hq
  · obtain ⟨its, r', pl, hz⟩ := I.list hq
    have hlen := r'.length
    exact Calls.call_len_list pl.isList (by simp only [List.size_toArray] <;> omega) ⟨.int ys.length, H, I.tok _, ⟨s.toks + 1, by rw [List.size_toArray, hlen]⟩, q⟩
  · obtain ⟨its, r', pl, hz⟩ := I.tuple hq
    have hlen := r'.length
    exact len_tuple pl (by simp only [List.size_toArray] <;> omega) ⟨.int ys.length, H, I.tok _, ⟨s.toks + 1, by rw [List.size_toArray, hlen]⟩, q⟩
theorem call_len_str : CallR X (.builtin "len") (fun xs H Q => ∃ z, xs = [.str z] ∧ z.length ≤ sizeLine ∧ Q (.int z.length) H) := by
  intro pins s σ H xs us Q I r h
  obtain ⟨z, rfl, hz, q⟩ := h
  obtain ⟨u, rfl, t, rfl⟩ := vals1 r
  have hn := line63
  exact len_str (by omega) ⟨.int z.length, H, I.tok _, ⟨_, rfl⟩, q⟩
def tyV (K : PySem.W.Frag) (T : String) (x : V) (H : Hp) : Prop := match x with
  | .str _ => T = "str"
  | .int _ => T = "int"
  | .ref p => (T = "list" ∧ ∃ xs, SqL K H p xs) ∨ (T = "tuple" ∧ ∃ o, K.lookup p = some o ∧ o.cls = .type "tuple" ∧ o.dict = none) ∨
      (T = "dict" ∧ ((∃ kvs, H p = some (.dK kvs)) ∨ ∃ kvs, H p = some (.dT kvs))) ∨ (T = "set" ∧ ∃ S n, H p = some (.set S n))
  | _ => False
theorem tyV_is {pins : List (Addr × Obj)} {σ : St} {H : Hp} {s : Shared} {T : String} {x : V} {v : Value} (I : Inv X pins σ H s) (r : RelV x v) (ty : tyV X.K T x H) :
    s.TypeIs v T ∧ ∀ a, v = .ref a → ∃ ob, s.heap.get? a = some ob ∧ ob.dict = none := by
  cases x with
  | str z =>
    obtain ⟨t, rfl⟩ := r
    cases (show T = "str" from ty)
    exact ⟨typeIs_str s z t, fun _ e => nomatch e⟩
  | int i =>
    obtain ⟨t, rfl⟩ := r
    cases (show T = "int" from ty)
    exact ⟨typeIs_int s i t, fun _ e => nomatch e⟩
  | ref p =>
    cases r
    rcases ty with ⟨rfl, xs, hq⟩ | ⟨rfl, o, hk, hc, hd⟩ | ⟨rfl, hk⟩ | ⟨rfl, S, n, hk⟩
    · obtain ⟨its, _, pl, _⟩ := I.list hq
      refine ⟨pl.isList.typeIs, fun a e => ?_⟩
      cases e
      obtain ⟨o, n, e, c, hd, _⟩ := pl
      exact ⟨o, e, hd⟩
    · refine ⟨⟨o, I.kIn p o hk, hc⟩, fun a e => ?_⟩
      cases e
      exact ⟨o, I.kIn _ o hk, hd⟩
    · have z : ∃ o, s.heap.get? p = some o ∧ o.ExactDict := by
        rcases hk with ⟨kvs, hk⟩ | ⟨kvs, hk⟩
        · obtain ⟨_, _, _, _, o, _, _, e, ex, _⟩ := I.hok p _ hk
          exact ⟨o, e, ex⟩
        · obtain ⟨_, _, _, _, o, _, _, e, ex, _⟩ := I.hok p _ hk
          exact ⟨o, e, ex⟩
      obtain ⟨o, e, ex⟩ := z
      refine ⟨⟨o, e, ex.1⟩, fun a e2 => ?_⟩
      cases e2
      exact ⟨o, e, ex.2.1⟩
    · obtain ⟨o, _, _, _, e, ex, _⟩ := I.hok p _ hk
      refine ⟨⟨o, e, ex.1⟩, fun a e2 => ?_⟩
      cases e2
      exact ⟨o, e, ex.2.1⟩
  | _ => exact False.elim ty
def tBM0 (K : PySem.W.Frag) (T : String) (r : V → List V → Hp → VK → Prop) (to : TE) : TE := fun σ H Q => to σ H fun x H1 => tyV K T x H1 ∧ r x [] H1 Q
def tBM (K : PySem.W.Frag) (T : String) (r : V → List V → Hp → VK → Prop) (to : TE) (t : TA) : TE := fun σ H Q => to σ H fun x H1 => tyV K T x H1 ∧ t σ H1 fun xs H2 => r x xs H2 Q
variable {o e : Expr} {es : List Expr} {to : TE} {t : TA} {name : Str} {apos cpos : Pos} {T id : String} {r : V → List V → Hp → VK → Prop}
theorem pe_bm0 (pa : PlainAttrs T) (slot : Slot T name id) (hty : typeOf (.builtin id) = pure (.type "method_descriptor")) (hm : MtR X id r) (ho : PE X o to)
    (hbase : attributeBase o name X.env (eval o X.env) = eval o X.env := by rfl) (hline : (apos.endLine == cpos.line) = true := by rfl) : PE X (.Call (.Attribute o name apos) [] [] cpos) (tBM0 X.K T r to) := by
  intro pins s σ H Q I h
  refine wpAny_Call_method0_late hbase hline (thn (ho pins s σ H _ I h) fun v s1 ⟨x, H1, I1, r1, ty, q1⟩ => ?_)
  obtain ⟨h1, h2⟩ := tyV_is I1 r1 ty
  exact ⟨T, id, pa, slot, hty, h1, h2, Calls.callWith_builtin rfl (PySem.evalArgs_none (hm pins s1 σ H1 x [] v [] Q I1 r1 .nil q1))⟩
theorem pe_bm (pa : PlainAttrs T) (slot : Slot T name id) (hty : typeOf (.builtin id) = pure (.type "method_descriptor")) (hm : MtR X id r) (ho : PE X o to) (ha : PA X (e :: es) t)
    (hbase : attributeBase o name X.env (eval o X.env) = eval o X.env := by rfl)
    (hfew : ((backTo cpos (starEach (e :: es) X.env)).all (fun x => !x.1) && (backToKw cpos (keywordEach [] X.env)).all (fun x => x.1.isSome)
      && decide ((e :: es).length + ([] : List Keyword).length + (if ([] : List Keyword).isEmpty then 0 else 1) < 30)) = true := by rfl)
    (hline : (apos.endLine == cpos.line) = true := by rfl) (hs : starEach (e :: es) X.env = (false, eval e X.env) :: starEach es X.env := by rfl) (hplain : (backTo cpos (starEach es X.env)).any (·.1) = false := by rfl) :
    PE X (.Call (.Attribute o name apos) (e :: es) [] cpos) (tBM X.K T r to t) := by
  intro pins s σ H Q I h
  refine wpAny_Call_method_late hbase hfew hline rfl (thn (ho pins s σ H _ I h) fun v s1 ⟨x, H1, I1, r1, ty, q1⟩ => ?_)
  obtain ⟨h1, h2⟩ := tyV_is I1 r1 ty
  refine ⟨T, id, pa, slot, hty, h1, h2, ?_⟩
  have hA := ha cpos pins s1 σ H1 _ I1 q1
  rw [hs] at hA ⊢
  refine Calls.callWith_builtin (by show (false || (backTo cpos (starEach es X.env)).any (·.1)) = false; rw [hplain] <;> rfl) (Calls.evalArgs_plain ?_)
  exact thn hA fun us s2 ⟨vs, H2, I2, r2, q2⟩ => hm pins s2 σ H2 x vs v us Q I2 r1 r2 q2
/- xs.append(e), list.index on a module's tuple .. are MtR facts of 06m -/
end
end L2
namespace L2
open PySem PySem.Spec PyProof.Rows
def MtM (X : Cx) (id : String) (r : V → List V → Hp → VK → Prop) : Prop :=
  ∀ (pins : List (Addr × Obj)) (s : Shared) (σ : St) (H : Hp) (x : V) (xs : List V) (v : Value) (us : List Value) (Q : VK), Inv X pins σ H s → RelV x v → Vals xs us → r x xs H Q →
    wpAny (model X.prog X.w) X.A (call (.builtin id) (v :: us)) (EP X pins σ Q) X.xe s
theorem Vals.one : ∀ {x : V} {us : List Value}, Vals [x] us → ∃ u, us = [u] ∧ RelV x u
  | _, _, .cons r .nil => ⟨_, rfl, r⟩
theorem Vals.zero : ∀ {us : List Value}, Vals [] us → us = []
  | _, .nil => rfl
section
variable {X : Cx} {pins : List (Addr × Obj)} {σ : St} {H : Hp} {s : Shared} {l b : Addr} {xs ys zs : List V}
theorem Inv.lset {its its' : List Value} {n : Nat} {f : Array Value → Array Value} {t' : Nat} (I : Inv X pins σ H s) (hH : H l = some (.lst xs))
    (e : s.heap.get? l = some { cls := .type "list", data := .seq its.toArray n }) (hf : f its.toArray = its'.toArray) (hv : Vals ys its') (hz : ys.length ≤ sizeLine) :
    Inv X pins σ (upd H l (.lst ys)) { s with heap := s.heap.update l (Obj.mapSeq f), toks := t' } := by
  have q := PySem.IsL.update e f
  rw [hf] at q
  refine I.write (x := l) (e := l) (by rw [hH]; exact trivial) (.inl rfl) (fun b' u hb hu => (Heap.get?_update_other s.heap (Obj.mapSeq f) (Ne.symm hb)).trans hu) ⟨_, q⟩ ?_
  exact ⟨hz, its', _, hv, q⟩
theorem Inv.lnew {its : List Value} {t' : Nat} (I : Inv X pins σ H s) (hv : Vals ys its) (hz : ys.length ≤ sizeLine) :
    Inv X pins σ (upd H s.heap.objs.size (.lst ys)) { s with heap := s.heap.push { cls := .type "list", data := .seq its.toArray }, toks := t' } :=
  I.laid (fun _ _ q => Heap.get?_push_of_some _ q) (Nat.le_refl _) ⟨hz, its, 0, hv, Heap.get?_push_size _ rfl⟩
theorem Inv.fresh (I : Inv X pins σ H s) : H s.heap.objs.size = none := I.hok.fresh (Nat.le_refl _)
theorem Inv.lstM (I : Inv X pins σ H s) (hH : H l = some (.lst xs)) : xs.length ≤ sizeLine ∧ ∃ (its : List Value) (n : Nat), Vals xs its ∧ xs.length = its.length ∧ s.heap.get? l = some { cls := .type "list", data := .seq its.toArray n } := by
  obtain ⟨z, its, n, r, e⟩ := I.hok l _ hH
  exact ⟨z, its, n, r, r.length, e⟩
end
section
variable {X : Cx}
def rAppend : V → List V → Hp → VK → Prop := fun x vs H Q => ∃ l xs y, x = .ref l ∧ vs = [y] ∧ H l = some (.lst xs) ∧ xs.length < sizeLine ∧ Q .non (upd H l (.lst (xs ++ [y])))
theorem mt_append : MtM X "list.append" rAppend := by
  intro pins s σ H x vs v us Q I rx rv h
  obtain ⟨l, xs, y, rfl, rfl, hH, hz, q⟩ := h
  cases rx
  obtain ⟨u, rfl, ru⟩ := rv.one
  obtain ⟨z, its, n, r, hl, e⟩ := I.lstM hH
  refine call_meets F.slot_list_append ⟨_, e, rfl⟩ F.entry_list_append (F.args_list_append_2 _ _) (PySem.list_append l its.toArray n u (by rw [List.size_toArray]; omega)) ⟨e, ?_⟩
  refine ⟨.non, _, I.lset (its' := its ++ [u]) hH e (by simp) (r.append (.cons ru .nil)) ?_, rfl, q⟩
  rw [List.length_append, List.length_singleton]
  omega
end
section
variable {prog : Program} {w : World} {A : Around} {E : Value → Shared → Prop} {s : Shared}
end
section
variable {X : Cx}
end
end L2
namespace L2
open PySem PySem.Spec PyProof.Rows
section
variable {κ : Type} [DecidableEq κ]
def valV (kvs : List (κ × V)) (k : κ) : Option V := (kvs.find? fun kv => decide (kv.1 = k)).map (·.2)
def putK (kvs : List (κ × V)) (k : κ) (v : V) : List (κ × V) :=
  if (kvs.any fun kv => decide (kv.1 = k)) = true then kvs.map (fun kv => if kv.1 = k then (kv.1, v) else kv) else kvs ++ [(k, v)]
def dropK (kvs : List (κ × V)) (k : κ) : List (κ × V) := kvs.filter fun kv => decide (kv.1 ≠ k)
theorem valV_pos {p : κ × V} {r : List (κ × V)} {k : κ} (e : p.1 = k) : valV (p :: r) k = some p.2 := by simp [valV, List.find?_cons, e]
theorem valV_neg {p : κ × V} {r : List (κ × V)} {k : κ} (e : ¬ p.1 = k) : valV (p :: r) k = valV r k := by simp [valV, List.find?_cons, e]
theorem valV_any (k : κ) : ∀ kvs : List (κ × V), (kvs.any fun kv => decide (kv.1 = k)) = (valV kvs k).isSome
  | [] => rfl
  | p :: r => by
    rw [List.any_cons]
    by_cases e : p.1 = k
    · simp only [valV_pos e, decide_eq_true e, Bool.true_or, Option.isSome_some]
    · rw [valV_neg e, decide_eq_false e, Bool.false_or]; exact valV_any k r
theorem valV_snoc (k j : κ) (y : V) : ∀ kvs : List (κ × V), valV kvs k = none → valV (kvs ++ [(k, y)]) j = if j = k then some y else valV kvs j
  | [], _ => by
    by_cases e : k = j
    · rw [if_pos e.symm]; exact valV_pos (p := (k, y)) e
    · rw [if_neg (fun z => e z.symm)]; exact valV_neg (p := (k, y)) e
  | p :: r, hn => by
    rw [List.cons_append]
    have hk : ¬ p.1 = k := fun z => by rw [valV_pos z] at hn; cases hn
    rw [valV_neg hk] at hn
    have ih := valV_snoc k j y r hn
    by_cases e : p.1 = j
    · rw [valV_pos e, valV_pos e, if_neg (fun z => hk (e.trans z))]
    · rw [valV_neg e, valV_neg e, ih]
theorem length_putK (kvs : List (κ × V)) (k : κ) (v : V) : (putK kvs k v).length ≤ kvs.length + 1 := by
  unfold putK
  split
  · rw [List.length_map]; omega
  · rw [List.length_append, List.length_cons, List.length_nil]; omega
theorem putK_new {kvs : List (κ × V)} {k : κ} (v : V) (h : valV kvs k = none) : putK kvs k v = kvs ++ [(k, v)] := by
  unfold putK
  rw [valV_any, h]
  exact if_neg (by decide)
theorem RelO.isSome_eq {o : Option V} {u : Option Value} (r : RelO o u) : o.isSome = u.isSome := by
  cases o with
  | none => cases u with
    | none => rfl
    | some _ => exact (show False from r).elim
  | some _ => cases u with
    | none => exact (show False from r).elim
    | some _ => rfl
theorem KV.val {kvs : List (κ × V)} {vs : List (κ × Value)} (r : KV kvs vs) (k : κ) : RelO (valV kvs k) (valueAt vs k) := by
  unfold KV at r
  induction r with
  | nil => exact True.intro
  | @cons p q ps qs h t ih =>
    obtain ⟨h1, h2⟩ := h
    by_cases e : p.1 = k
    · have e' : q.1 = k := h1.symm.trans e
      have b : valueAt (q :: qs) k = some q.2 := by simp [valueAt, List.find?_cons, e']
      rw [valV_pos e, b]; exact h2
    · have e' : ¬ q.1 = k := fun z => e (h1.trans z)
      have b : valueAt (q :: qs) k = valueAt qs k := by simp [valueAt, List.find?_cons, e']
      rw [valV_neg e, b]; exact ih
theorem KV.any {kvs : List (κ × V)} {vs : List (κ × Value)} (r : KV kvs vs) (k : κ) : (kvs.any fun kv => decide (kv.1 = k)) = vs.any fun kv => decide (kv.1 = k) := by
  unfold KV at r
  induction r with
  | nil => rfl
  | cons h t ih => rw [List.any_cons, List.any_cons, ih, h.1]
theorem KV.repl {kvs : List (κ × V)} {vs : List (κ × Value)} (r : KV kvs vs) (k : κ) {y : V} {u : Value} (ry : RelV y u) :
    KV (kvs.map fun kv => if kv.1 = k then (kv.1, y) else kv) (vs.map fun kv => if kv.1 = k then (kv.1, u) else kv) := by
  unfold KV at r ⊢
  induction r with
  | nil => exact .nil
  | @cons p q ps qs h t ih =>
    rw [List.map_cons, List.map_cons]
    refine .cons ?_ ih
    obtain ⟨h1, h2⟩ := h
    by_cases e : p.1 = k
    · rw [if_pos e, if_pos (h1.symm.trans e)]; exact ⟨h1, ry⟩
    · rw [if_neg e, if_neg (fun z => e (h1.trans z))]; exact ⟨h1, h2⟩
theorem KV.put {kvs : List (κ × V)} {vs : List (κ × Value)} (r : KV kvs vs) (k : κ) {y : V} {u : Value} (ry : RelV y u) : KV (putK kvs k y) (stored vs k u) := by
  unfold putK stored
  rw [r.any k]
  by_cases e : (vs.any fun kv => decide (kv.1 = k)) = true
  · rw [if_pos e, if_pos e]; exact r.repl k ry
  · rw [if_neg e, if_neg e]; exact Paired.snoc r ⟨rfl, ry⟩
theorem KV.drop {kvs : List (κ × V)} {vs : List (κ × Value)} (r : KV kvs vs) (k : κ) : KV (dropK kvs k) (without vs k) := by
  unfold KV at r ⊢
  unfold dropK without
  induction r with
  | nil => exact .nil
  | @cons p q ps qs h t ih =>
    obtain ⟨h1, h2⟩ := h
    rw [List.filter_cons, List.filter_cons]
    by_cases e : p.1 = k
    · have a : ¬ decide (p.1 ≠ k) = true := by simp [e]
      have b : ¬ decide (q.1 ≠ k) = true := by simp [h1.symm.trans e]
      rw [if_neg a, if_neg b]; exact ih
    · have e' : ¬ q.1 = k := fun z => e (h1.trans z)
      have a : decide (p.1 ≠ k) = true := by simp [e]
      have b : decide (q.1 ≠ k) = true := by simp [e']
      rw [if_pos a, if_pos b]; exact .cons ⟨h1, h2⟩ ih
theorem KV.length {kvs : List (κ × V)} {vs : List (κ × Value)} (r : KV kvs vs) : kvs.length = vs.length := Paired.length r
theorem dropK_le (kvs : List (κ × V)) (k : κ) : (dropK kvs k).length ≤ kvs.length := List.length_filter_le _ _
end
theorem kV_is {P : Program} {w : World} {k : Key} {u : Value} (r : RelV (kV k) u) : (mixKind P w).is k u = true := by
  cases k with
  | inl i => obtain ⟨t, e⟩ := (show ∃ t, u = Value.int i t from r); subst e; exact mixKind_int P w i t
  | inr x => obtain ⟨t, e⟩ := (show ∃ t, u = Value.str x t from r); subst e; exact mixKind_str P w x t
theorem kV_inj {a b : Key} (e : kV a = kV b) : a = b := by
  cases a with
  | inl i => cases b with
    | inl j => have e' : V.int i = V.int j := e; injection e' with e'; rw [e']
    | inr y => exact nomatch (show V.int i = V.str y from e)
  | inr x => cases b with
    | inl j => exact nomatch (show V.str x = V.int j from e)
    | inr y => have e' : V.str x = V.str y := e; injection e' with e'; rw [e']
theorem items_are {P : Program} {w : World} : ∀ {ks : List Key} {us : List Value}, Vals (ks.map kV) us → ItemsAre (mixKind P w) ks us
  | [], _, r => by rw [List.map_nil] at r; cases r; exact .nil
  | k :: ks, _, r => by
    rw [List.map_cons] at r
    cases r with
    | cons h t => exact .cons (kV_is h) (items_are t)
abbrev KT (H : Hp) : List (List Key × V) → List (List Key × Addr × Value) → Prop := Paired fun p q => p.1 = q.1 ∧ H q.2.1 = some (.tup (p.1.map kV)) ∧ RelV p.2 q.2.2
theorem KT.val {H : Hp} {kvs : List (List Key × V)} {xs : List (List Key × Addr × Value)} (r : KT H kvs xs) (k : List Key) : RelO (valV kvs k) ((atKey xs k).map (·.2)) := by
  induction r with
  | nil => exact True.intro
  | @cons p q ps qs h t ih =>
    obtain ⟨h1, _, h2⟩ := h
    by_cases e : p.1 = k
    · have e' : q.1 = k := h1.symm.trans e
      have b : atKey (q :: qs) k = some q.2 := by simp [atKey, List.find?_cons, e']
      rw [valV_pos e, b]; exact h2
    · have e' : ¬ q.1 = k := fun z => e (h1.trans z)
      have b : atKey (q :: qs) k = atKey qs k := by simp [atKey, List.find?_cons, e']
      rw [valV_neg e, b]; exact ih
theorem KT.repl {H : Hp} {kvs : List (List Key × V)} {xs : List (List Key × Addr × Value)} (r : KT H kvs xs) (k : List Key) {y : V} {u : Value} (ry : RelV y u) :
    KT H (kvs.map fun kv => if kv.1 = k then (kv.1, y) else kv) (xs.map (putAt k u)) := by
  induction r with
  | nil => exact .nil
  | @cons p q ps qs h t ih =>
    rw [List.map_cons, List.map_cons]
    refine .cons ?_ ih
    obtain ⟨h1, h2, h3⟩ := h
    unfold putAt
    by_cases e : p.1 = k
    · rw [if_pos e, if_pos (h1.symm.trans e)]; exact ⟨h1, h2, ry⟩
    · rw [if_neg e, if_neg (fun z => e (h1.trans z))]; exact ⟨h1, h2, h3⟩
theorem KT.put {H : Hp} {kvs : List (List Key × V)} {xs : List (List Key × Addr × Value)} (r : KT H kvs xs) (k : List Key) {b : Addr} {y : V} {u : Value} (hb : H b = some (.tup (k.map kV))) (ry : RelV y u) :
    KT H (putK kvs k y) (storedH xs k b u) := by
  have e : (kvs.any fun kv => decide (kv.1 = k)) = (atKey xs k).isSome := by
    rw [valV_any, (r.val k).isSome_eq, Option.isSome_map]
  unfold putK storedH
  rw [e]
  by_cases q : (atKey xs k).isSome = true
  · rw [if_pos q, if_pos q]; exact r.repl k ry
  · rw [if_neg q, if_neg q]; exact Paired.snoc r ⟨rfl, hb, ry⟩
theorem KT.keeps {H H' : Hp} {kvs : List (List Key × V)} {xs : List (List Key × Addr × Value)} (r : KT H kvs xs) (ht : ∀ b ys, H b = some (.tup ys) → H' b = some (.tup ys)) : KT H' kvs xs :=
  Paired.mapP r fun _ _ z => ⟨z.1, ht _ _ z.2.1, z.2.2⟩
section
variable {P : Program} {w : World} {H : Hp} {h : Heap} {a : Addr}
theorem rd_of {u : HO} (ok : HOk P w H h) (e : Rd H a u) : ObjOk P w H h a u := e.ok ok
theorem dk_rd {kvs : List (Key × V)} (ok : HOk P w H h) (e : Rd H a (.dK kvs)) : kvs.length ≤ sizeLine ∧ (a == sysModules) = false ∧ ∃ vs, KV kvs vs ∧ h.DictOf (mixKind P w) a vs :=
  show ObjOk P w H h a (.dK kvs) from rd_of ok e
theorem dk_of {kvs : List (Key × V)} (ok : HOk P w H h) (e : H a = some (.dK kvs)) : kvs.length ≤ sizeLine ∧ (a == sysModules) = false ∧ ∃ vs, KV kvs vs ∧ h.DictOf (mixKind P w) a vs := dk_rd ok (.inl e)
theorem key_of {ks : List Key} (ok : HOk P w H h) (e : H a = some (.tup (ks.map kV))) : (tupleKind (mixKind P w)).is h ks a := by
  obtain ⟨_, its, r, o, h1, h2, n, h3⟩ := (show ObjOk P w H h a (.tup (ks.map kV)) from ok a _ e)
  exact ⟨o, its.toArray, n, h1, h2, h3, by simpa using items_are r⟩
theorem dt_rd {kvs : List (List Key × V)} (ok : HOk P w H h) (e : Rd H a (.dT kvs)) : kvs.length ≤ sizeLine ∧ (a == sysModules) = false ∧
    ∃ xs, KT H kvs xs ∧ h.DictOfH (tupleKind (mixKind P w)) a xs := by
  obtain ⟨z, y, xs, r, o, es, ep, h1, h2, h3, h4, h5⟩ := (show ObjOk P w H h a (.dT kvs) from rd_of ok e)
  refine ⟨z, y, xs, r, o, es, ep, h1, h2, h3, h4, fun x hx => ?_, h5⟩
  have all : ∀ {l : List (List Key × V)} {m : List (List Key × Addr × Value)}, KT H l m → ∀ x ∈ m, (tupleKind (mixKind P w)).is h x.1 x.2.1 := by
    intro l m q
    induction q with
    | nil => intro x hx; exact nomatch hx
    | @cons p q ps qs hq t ih =>
      intro x hx
      rcases List.mem_cons.mp hx with e | hx
      · subst e
        exact key_of ok (by rw [← hq.1]; exact hq.2.1)
      · exact ih x hx
  exact all r x hx
theorem dt_of {kvs : List (List Key × V)} (ok : HOk P w H h) (e : H a = some (.dT kvs)) : kvs.length ≤ sizeLine ∧ (a == sysModules) = false ∧
    ∃ xs, KT H kvs xs ∧ h.DictOfH (tupleKind (mixKind P w)) a xs := dt_rd ok (.inl e)
end
def DGet (H : Hp) (a : Addr) (y : V) (r : Option V) : Prop :=
  (∃ kvs k, Rd H a (.dK kvs) ∧ y = kV k ∧ r = valV kvs k) ∨ ∃ kvs k b, Rd H a (.dT kvs) ∧ y = .ref b ∧ H b = some (.tup (k.map kV)) ∧ r = valV kvs k
def DPut (H : Hp) (a : Addr) (y v : V) (H' : Hp) : Prop :=
  (∃ kvs k, H a = some (.dK kvs) ∧ y = kV k ∧ kvs.length < sizeLine ∧ H' = upd H a (.dK (putK kvs k v))) ∨
  ∃ kvs k b, H a = some (.dT kvs) ∧ y = .ref b ∧ H b = some (.tup (k.map kV)) ∧ kvs.length < sizeLine ∧ H' = upd H a (.dT (putK kvs k v))
theorem DGet.k {H : Hp} {a : Addr} {kvs : List (Key × V)} {k : Key} (e : H a = some (.dK kvs)) : DGet H a (kV k) (valV kvs k) := .inl ⟨kvs, k, .inl e, rfl, rfl⟩
theorem DGet.t {H : Hp} {a b : Addr} {kvs : List (List Key × V)} {k : List Key} (e : H a = some (.dT kvs)) (eb : H b = some (.tup (k.map kV))) : DGet H a (.ref b) (valV kvs k) := .inr ⟨kvs, k, b, .inl e, rfl, eb, rfl⟩
theorem DPut.k {H : Hp} {a : Addr} {kvs : List (Key × V)} {k : Key} {v : V} (e : H a = some (.dK kvs)) (hl : kvs.length < sizeLine) : DPut H a (kV k) v (upd H a (.dK (putK kvs k v))) := .inl ⟨kvs, k, e, rfl, hl, rfl⟩
theorem DPut.t {H : Hp} {a b : Addr} {kvs : List (List Key × V)} {k : List Key} {v : V} (e : H a = some (.dT kvs)) (eb : H b = some (.tup (k.map kV))) (hl : kvs.length < sizeLine) :
    DPut H a (.ref b) v (upd H a (.dT (putK kvs k v))) := .inr ⟨kvs, k, b, e, rfl, eb, hl, rfl⟩
section
variable {X : Cx} {pins : List (Addr × Obj)} {σ : St} {H : Hp} {s : Shared} {a : Addr} {y v : V} {u r : Value} {o : Option V} {A : Around} {E : Value → Shared → Prop}
theorem Inv.big (I : Inv X pins σ H s) : sysModules < s.heap.objs.size := by
  have h : mainGlobals < s.heap.objs.size := (I.mod.glob.keeps I.bk).lt
  exact Nat.lt_trans (by decide) h
theorem d_getItem {Q : Value → Shared → Prop} (hu : A.units + 1 < cLine) (I : Inv X pins σ H s) (g : DGet H a y (some v)) (ry : RelV y u) (h : ∀ w' s', Inv X pins σ H s' → RelV v w' → Q w' s') :
    wpAny (model X.prog X.w) A (getItem (.ref a) u) Q E s := by
  rcases g with ⟨kvs, k, e, ey, l⟩ | ⟨kvs, k, b, e, ey, eb, l⟩
  · subst ey
    obtain ⟨z, hd, vs, rel, dd⟩ := dk_rd I.hok e
    obtain ⟨w', hw, rw'⟩ := RelO.some_of (v := v) (o := valueAt vs k) (by rw [l]; exact rel.val k)
    exact wpAny_getItem_of (kV_is ry) dd.mapOf hw (h w' _ (I.tok _) rw')
  · subst ey
    cases (show u = Value.ref b from ry)
    obtain ⟨z, hd, xs, rel, dd⟩ := dt_rd I.hok e
    obtain ⟨w', hw, rw'⟩ := RelO.some_of (v := v) (o := (atKey xs k).map (·.2)) (by rw [l]; exact rel.val k)
    obtain ⟨p, hp, hp2⟩ := Option.map_eq_some_iff.mp hw
    refine wpAny_getItem_heap (tupleKind_room_in1 hu) (key_of I.hok eb) dd hp ?_
    rw [hp2]
    exact h w' _ (I.tok _) rw'
theorem d_in {Q : Value → Shared → Prop} (hu : A.units + 1 < cLine) (I : Inv X pins σ H s) (g : DGet H a y o) (ry : RelV y u) (h : ∀ s', Inv X pins σ H s' → Q (.bool o.isSome) s') :
    wpAny (model X.prog X.w) A (compareOp .In u (.ref a)) Q E s := by
  rcases g with ⟨kvs, k, e, ey, l⟩ | ⟨kvs, k, b, e, ey, eb, l⟩
  · subst ey
    obtain ⟨z, hd, vs, rel, dd⟩ := dk_rd I.hok e
    refine wpAny_in_of (kV_is ry) hd dd.mapOf ?_
    rw [← (rel.val k).isSome_eq, ← l]
    exact h _ (I.tok _)
  · subst ey
    cases (show u = Value.ref b from ry)
    obtain ⟨z, hd, xs, rel, dd⟩ := dt_rd I.hok e
    refine wpAny_in_heap (tupleKind_room_in1 hu) (key_of I.hok eb) hd dd ?_
    have q := (rel.val k).isSome_eq
    rw [Option.isSome_map] at q
    rw [← q, ← l]
    exact h _ (I.tok _)
theorem d_notIn {Q : Value → Shared → Prop} (hu : A.units + 1 < cLine) (I : Inv X pins σ H s) (g : DGet H a y o) (ry : RelV y u) (h : ∀ s', Inv X pins σ H s' → Q (.bool (!o.isSome)) s') :
    wpAny (model X.prog X.w) A (compareOp .NotIn u (.ref a)) Q E s := by
  rcases g with ⟨kvs, k, e, ey, l⟩ | ⟨kvs, k, b, e, ey, eb, l⟩
  · subst ey
    obtain ⟨z, hd, vs, rel, dd⟩ := dk_rd I.hok e
    refine wpAny_notIn_of (kV_is ry) hd dd.mapOf ?_
    rw [← (rel.val k).isSome_eq, ← l]
    exact h _ (I.tok _)
  · subst ey
    cases (show u = Value.ref b from ry)
    obtain ⟨z, hd, xs, rel, dd⟩ := dt_rd I.hok e
    refine wpAny_notIn_heap (tupleKind_room_in1 hu) (key_of I.hok eb) hd dd ?_
    have q := (rel.val k).isSome_eq
    rw [Option.isSome_map] at q
    rw [← q, ← l]
    exact h _ (I.tok _)
theorem d_write {h' : Heap} {t' : Nat} {ob : HO} (I : Inv X pins σ H s) (mu : Mut (H a)) (hs : Heap.SameBut a s.heap h') (he : ∃ q, h'.get? a = some q) (new : ObjOk X.prog X.w (upd H a ob) h' a ob) :
    Inv X pins σ (upd H a ob) { s with heap := h', toks := t' } :=
  I.write (x := a) (e := a) mu (.inl rfl) (fun b q hb z => (hs.2 b hb).trans z) he new
theorem dk_new {P : Program} {w : World} {H' : Hp} {h' : Heap} {kvs : List (Key × V)} {vs : List (Key × Value)} (z : kvs.length ≤ sizeLine) (hd : (a == sysModules) = false) (rel : KV kvs vs) (dd : h'.DictOf (mixKind P w) a vs) :
    ObjOk P w H' h' a (.dK kvs) := ⟨z, hd, vs, rel, dd⟩
theorem d_setItem {H' : Hp} {Q : Unit → Shared → Prop} (hu : A.units + 1 < cLine) (I : Inv X pins σ H s) (g : DPut H a y v H') (ry : RelV y u) (rv : RelV v r) (h : ∀ s', Inv X pins σ H' s' → Q () s') :
    wpAny (model X.prog X.w) A (setItem (.ref a) u r) Q E s := by
  rcases g with ⟨kvs, k, e, ey, l, eH⟩ | ⟨kvs, k, b, e, ey, eb, l, eH⟩
  · subst ey eH
    obtain ⟨z, hd, vs, rel, dd⟩ := dk_of I.hok e
    have hz : vs.length ≤ sizeLine := by rw [← rel.length]; exact z
    have hl : (putK kvs k v).length ≤ sizeLine := by have := length_putK kvs k v; omega
    refine wpAny_setItem_pairs (hsz := hz) (kV_is ry) dd fun h' dd' hs => h _ ?_
    have he : ∃ q, h'.get? a = some q := let ⟨q, _, _, hq, _⟩ := dd'; ⟨q, hq⟩
    exact d_write I (by rw [e]; exact True.intro) hs he (dk_new hl hd (rel.put k rv) dd')
  · subst ey eH
    cases (show u = Value.ref b from ry)
    obtain ⟨z, hd, xs, rel, dd⟩ := dt_of I.hok e
    have hz : xs.length ≤ sizeLine := by rw [← Paired.length rel]; exact z
    have hl : (putK kvs k v).length ≤ sizeLine := by have := length_putK kvs k v; omega
    refine wpAny_setItem_heap (hsz := hz) (tupleKind_room_in1 hu) (key_of I.hok eb) dd fun h' dd' hs => h _ ?_
    obtain ⟨q, es, ep, hq, h2, h3, h4, _, h5⟩ := dd'
    refine d_write I (by rw [e]; exact True.intro) hs ⟨q, hq⟩ ⟨hl, hd, _, (rel.put k eb rv).keeps fun c ys ec => ?_, q, es, ep, hq, h2, h3, h4, h5⟩
    rw [upd_ne (ne_of ec e (fun z => nomatch z))]
    exact ec
end
section
variable {X : Cx} {pins : List (Addr × Obj)} {σ : St} {H : Hp} {s : Shared} {a : Addr} {kvs : List (Key × V)} {k : Key} {u : Value} {A : Around} {E : Value → Shared → Prop}
theorem d_pop {v : V} {more : List Value} {Q : Value → Shared → Prop} (I : Inv X pins σ H s) (e : H a = some (.dK kvs)) (ry : RelV (kV k) u) (l : valV kvs k = some v) (hm : more = [] ∨ ∃ x, more = [x])
    (h : ∀ w' s', Inv X pins σ (upd H a (.dK (dropK kvs k))) s' → RelV v w' → Q w' s') : wpAny (model X.prog X.w) A (call (.builtin "dict.pop") (.ref a :: u :: more)) Q E s := by
  obtain ⟨z, hd, vs, rel, dd⟩ := dk_of I.hok e
  obtain ⟨w', hw, rw'⟩ := RelO.some_of (v := v) (o := valueAt vs k) (by rw [← l]; exact rel.val k)
  have hp : (keyPart u).isSome = true := by
    cases k with
    | inl i => obtain ⟨t, q⟩ := (show ∃ t, u = Value.int i t from ry); subst q; rfl
    | inr x => obtain ⟨t, q⟩ := (show ∃ t, u = Value.str x t from ry); subst q; rfl
  have ha : argsOk "dict.pop" ⟨.ref a :: u :: more, []⟩ := by
    rcases hm with q | ⟨x, q⟩
    · subst q; exact PySem.F.args_dict_pop_2 _ _
    · subst q; exact PySem.F.args_dict_pop_3 _ _ _
  refine call_meetsIn PySem.F.slot_dict_pop dd.typeIs PySem.F.entry_dict_pop ha (meets_dict_pop_there (mixKind X.prog X.w) a (kV_is ry) more hm hp)
    ⟨vs, w', dd, by rw [← rel.length]; exact z, hw, fun h' dd' hs => h w' _ ?_ rw'⟩
  have he : ∃ q, h'.get? a = some q := let ⟨q, _, _, hq, _⟩ := dd'; ⟨q, hq⟩
  exact d_write I (by rw [e]; exact True.intro) hs he (dk_new (Nat.le_trans (dropK_le kvs k) z) hd (rel.drop k) dd')
end
def NoSl (i : Expr) : Prop := ∀ ov iv, subscripted i false ov iv = operate [ov, iv] (getItem ov iv)
theorem subD_of {prog : Program} {w : World} {A : Around} {E : Value → Shared → Prop} {s : Shared} {env : Env} {value slice : Expr} {pos : Pos} {T id : String} {Q : Value → Shared → Prop}
    (hl : typeLookup (.type T) "__getitem__" = pure (some (.builtin id))) (hs : NoSl slice)
    (h : wpAny (model prog w) A (eval value env) (fun o s₁ => wpAny (model prog w) A (eval slice env) (fun i s₂ => s₂.TypeIs o T ∧ wpAny (model prog w) A (getItem o i) Q E s₂) E s₁) E s) :
    wpAny (model prog w) A (eval (.Subscript value slice pos) env) Q E s := by
  refine Subscript_ (wpAny_mono h (fun o s₁ h₁ => wpAny_mono h₁ (fun i s₂ h₂ => ?_) fun _ _ x => x) fun _ _ x => x)
  obtain ⟨hT, h₂⟩ := h₂
  unfold subscriptTail
  refine wpAny_bind ?_
  rw [getitemInPython_of_ne hT.not_modules]
  refine wpAny_bind (wpAny_specialOf hT hl ?_)
  have fin : wpAny (model prog w) A (subscripted slice false o i) (fun r s₃ => wpAny (model prog w) A (letTemporaryGo value o r >>= fun _ => pure r) Q E s₃) E s₂ := by
    rw [hs o i]
    exact wpAny_operating (wpAny_mono h₂ (fun r s₃ h₃ => wpAny_bind (wpAny_letTemporaryGo (wpAny_pure h₃))) fun _ _ x => x)
  first
    | exact wpAny_pure (wpAny_bind fin)
    | exact wpAny_bind (wpAny_pure (wpAny_bind fin))
    | exact wpAny_bind fin
theorem dict_typeIs {X : Cx} {pins : List (Addr × Obj)} {σ : St} {H : Hp} {s : Shared} {a : Addr} {y : V} {o : Option V} (I : Inv X pins σ H s) (g : DGet H a y o) : s.TypeIs (.ref a) "dict" := by
  rcases g with ⟨kvs, k, e, _, _⟩ | ⟨kvs, k, b, e, _, _, _⟩
  · obtain ⟨_, _, vs, _, dd⟩ := dk_rd I.hok e
    exact dd.typeIs
  · obtain ⟨_, _, xs, _, dd⟩ := dt_rd I.hok e
    exact dd.typeIs
def tDGet (td ty : TE) : TE := fun σ H Q => td σ H fun x H1 => ty σ H1 fun y H2 => ∃ a v, x = .ref a ∧ DGet H2 a y (some v) ∧ Q v H2
def tDIn (ty td : TE) : TE := fun σ H Q => ty σ H fun y H1 => td σ H1 fun x H2 => ∃ a o, x = .ref a ∧ DGet H2 a y o ∧ Q (.bl o.isSome) H2
def tDNotIn (ty td : TE) : TE := fun σ H Q => ty σ H fun y H1 => td σ H1 fun x H2 => ∃ a o, x = .ref a ∧ DGet H2 a y o ∧ Q (.bl (!o.isSome)) H2
def sDPut (td ty tv : TE) : TS := fun D σ H => tv σ H fun v H1 => td σ H1 fun x H2 => ty σ H2 fun y H3 => ∃ a H4, x = .ref a ∧ DPut H3 a y v H4 ∧ D.nx σ H4
section
variable {X : Cx} {o i e value : Expr} {pos pos' tpos : Pos} {td ty tv : TE}
theorem pe_dget (hu : X.A.units + 1 < cLine) (ho : PE X o td) (hi : PE X i ty) (hs : NoSl i) : PE X (.Subscript o i pos) (tDGet td ty) := by
  intro pins s σ H Q I h
  refine subD_of PySem.F.slot_dict_getitem.lookup hs (thn (ho pins s σ H _ I h) fun u s1 ⟨x, H1, I1, rx, q1⟩ => thn (hi pins s1 σ H1 _ I1 q1) fun iv s2 ⟨y, H2, I2, ry, a, v, ex, g, q2⟩ => ?_)
  subst ex
  obtain rfl : u = Value.ref a := rx
  exact ⟨dict_typeIs I2 g, d_getItem hu I2 g ry fun w' s3 I3 rw' => ⟨v, H2, I3, rw', q2⟩⟩
theorem pc_din (hu : X.A.units + 1 < cLine) (hi : PE X i ty) (ho : PE X o td) : PC X .In i o (tDIn ty td) := by
  intro pins s σ H Q I h
  refine thn (hi pins s σ H _ I h) fun iv s1 ⟨y, H1, I1, ry, q1⟩ => thn (ho pins s1 σ H1 _ I1 q1) fun u s2 ⟨x, H2, I2, rx, a, ov, ex, g, q2⟩ => ?_
  subst ex
  obtain rfl : u = Value.ref a := rx
  exact d_in hu I2 g ry fun s3 I3 => ⟨.bl ov.isSome, H2, I3, rfl, q2⟩
theorem pc_dnotin (hu : X.A.units + 1 < cLine) (hi : PE X i ty) (ho : PE X o td) : PC X .NotIn i o (tDNotIn ty td) := by
  intro pins s σ H Q I h
  refine thn (hi pins s σ H _ I h) fun iv s1 ⟨y, H1, I1, ry, q1⟩ => thn (ho pins s1 σ H1 _ I1 q1) fun u s2 ⟨x, H2, I2, rx, a, ov, ex, g, q2⟩ => ?_
  subst ex
  obtain rfl : u = Value.ref a := rx
  exact d_notIn hu I2 g ry fun s3 I3 => ⟨.bl (!ov.isSome), H2, I3, rfl, q2⟩
theorem ps_dput (hu : X.A.units + 1 < cLine) (ho : PE X o td) (hi : PE X i ty) (hv : PE X value tv) (hs : swapsWith value (some (.Subscript o i pos')) pos.line X.env = pure false) :
    PS X (.Assign [.Subscript o i pos'] value pos) (sDPut td ty tv) := by
  intro pins s σ H D I h
  refine wpAny_Assign_Subscript (thn (hv pins s σ H _ I h) fun r s1 ⟨v, H1, I1, rv, q1⟩ => thn (ho pins s1 σ H1 _ I1 q1) fun u s2 ⟨x, H2, I2, rx, q2⟩ => thn (hi pins s2 σ H2 _ I2 q2) fun iv s3 ⟨y, H3, I3, ry, a, H4, ex, g, q3⟩ => ?_) hs
  subst ex
  obtain rfl : u = Value.ref a := rx
  exact d_setItem hu I3 g ry rv fun s4 I4 => ⟨σ, H4, I4, q3⟩
end
theorem dk_empty {P : Program} {w : World} {H : Hp} (h : Heap) (hb : sysModules < h.objs.size) : ObjOk P w H (h.push { cls := .type "dict", data := .dict #[] }) h.objs.size (.dK []) :=
  ⟨Nat.zero_le _, beq_eq_false_iff_ne.mpr (Ne.symm (Nat.ne_of_lt hb)), [], .nil, Heap.DictOf.new h⟩
theorem dt_empty {P : Program} {w : World} {H : Hp} (h : Heap) (hb : sysModules < h.objs.size) : ObjOk P w H (h.push { cls := .type "dict", data := .dict #[] }) h.objs.size (.dT []) :=
  ⟨Nat.zero_le _, beq_eq_false_iff_ne.mpr (Ne.symm (Nat.ne_of_lt hb)), [], .nil, _, #[], 0, Heap.get?_push_size _ rfl, ⟨rfl, rfl, rfl⟩, rfl, rfl, List.nodup_nil⟩
def tDNewK : TE := fun _ H Q => ∀ p, H p = none → Q (.ref p) (upd H p (.dK []))
def tDNewT : TE := fun _ H Q => ∀ p, H p = none → Q (.ref p) (upd H p (.dT []))
section
variable {X : Cx} {pos : Pos}
theorem pe_dnewK : PE X (.Dict [] [] pos) tDNewK := fun pins s σ H Q I h =>
  wpAny_Dict_empty ⟨.ref s.heap.objs.size, _, I.laid (a := s.heap.objs.size) (o := .dK []) (t' := s.toks) (fun _ _ q => Heap.get?_push_of_some _ q) (Nat.le_refl _) (dk_empty s.heap I.big), rfl, h _ (I.hok.fresh (Nat.le_refl _))⟩
theorem pe_dnewT : PE X (.Dict [] [] pos) tDNewT := fun pins s σ H Q I h =>
  wpAny_Dict_empty ⟨.ref s.heap.objs.size, _, I.laid (a := s.heap.objs.size) (o := .dT []) (t' := s.toks) (fun _ _ q => Heap.get?_push_of_some _ q) (Nat.le_refl _) (dt_empty s.heap I.big), rfl, h _ (I.hok.fresh (Nat.le_refl _))⟩
end
structure M1 (X : Cx) (o : Expr) (m : Str) (apos : Pos) (e : Expr) (cpos : Pos) : Prop where
  base : attributeBase o m X.env (eval o X.env) = eval o X.env
  few : ((backTo cpos (starEach [e] X.env)).all (fun x => !x.1) && (backToKw cpos (keywordEach [] X.env)).all (fun x => x.1.isSome)
    && decide (([e] : List Expr).length + ([] : List Keyword).length + (if ([] : List Keyword).isEmpty then 0 else 1) < 30)) = true
  line : (apos.endLine == cpos.line) = true
  trees : backTo cpos (starEach [e] X.env) = [(false, eval e X.env)]
def IsD (H : Hp) (a : Addr) : Prop := (∃ kvs, Rd H a (.dK kvs)) ∨ ∃ kvs, Rd H a (.dT kvs)
theorem isD_at {X : Cx} {pins : List (Addr × Obj)} {σ : St} {H : Hp} {s : Shared} {a : Addr} (I : Inv X pins σ H s) (d : IsD H a) :
    s.TypeIs (.ref a) "dict" ∧ (∀ b, Value.ref a = .ref b → ∃ ob, s.heap.get? b = some ob ∧ ob.dict = none) ∧ (a == sysModules) = false := by
  rcases d with ⟨kvs, e⟩ | ⟨kvs, e⟩
  · obtain ⟨_, hd, vs, _, dd⟩ := dk_rd I.hok e
    refine ⟨dd.typeIs, fun b q => ?_, hd⟩
    cases q
    obtain ⟨ob, _, _, h1, h2, _⟩ := dd
    exact ⟨ob, h1, h2.2.1⟩
  · obtain ⟨_, hd, xs, _, dd⟩ := dt_rd I.hok e
    refine ⟨dd.typeIs, fun b q => ?_, hd⟩
    cases q
    obtain ⟨ob, _, _, h1, h2, _⟩ := dd
    exact ⟨ob, h1, h2.2.1⟩
section
variable {X : Cx} {pins : List (Addr × Obj)} {σ : St} {H : Hp} {s : Shared} {a : Addr} {y d : V} {u r : Value} {o : Option V} {A : Around} {E : Value → Shared → Prop}
end
def tDPop1 (td ty : TE) : TE := fun σ H Q => td σ H fun x H1 => ∃ a, x = .ref a ∧ IsD H1 a ∧ ty σ H1 fun y H2 => ∃ kvs k v, H2 a = some (.dK kvs) ∧ y = kV k ∧ valV kvs k = some v ∧ Q v (upd H2 a (.dK (dropK kvs k)))
section
variable {X : Cx} {o e f : Expr} {apos cpos : Pos} {td ty tx : TE}
theorem pe_dpop1 (ho : PE X o td) (he : PE X e ty) (m : M1 X o "pop" apos e cpos) : PE X (.Call (.Attribute o "pop" apos) [e] [] cpos) (tDPop1 td ty) := by
  intro pins s σ H Q I h
  refine wpAny_Call_method m.base m.few m.line PySem.F.plainAttrs_dict PySem.F.slot_dict_pop PySem.F.type_dict_pop (thn (ho pins s σ H _ I h) fun u s1 ⟨x, H1, I1, rx, a, ex, d, q1⟩ => ?_)
  subst ex
  obtain rfl : u = Value.ref a := rx
  obtain ⟨t1, t2, _⟩ := isD_at I1 d
  refine ⟨t1, t2, ?_⟩
  rw [m.trees]
  refine Calls.callWith_builtin rfl (Calls.evalArgs_plain (Calls.spliced_cons (thn (he pins s1 σ H1 _ I1 q1) fun iv s2 ⟨y, H2, I2, ry, kvs, k, v, ea, ey, l, q2⟩ => Calls.spliced_nil ?_)))
  subst ey
  exact d_pop I2 ea ry l (.inl rfl) fun w' s3 I3 rw' => ⟨v, _, I3, rw', q2⟩
end
section
variable {X : Cx} {pins : List (Addr × Obj)} {σ : St} {H : Hp} {s : Shared} {a : Addr} {kvs : List (Key × V)} {A : Around} {E : Value → Shared → Prop}
theorem d_copyOf {Q : Value → Shared → Prop} (I : Inv X pins σ H s) (e : Rd H a (.dK kvs)) (h : ∀ p s', H p = none → Inv X pins σ (upd H p (.dK kvs)) s' → Q (.ref p) s') : wpAny (model X.prog X.w) A (call (.type "dict") [.ref a]) Q E s := by
  obtain ⟨z, hd, vs, rel, dd⟩ := dk_rd I.hok e
  refine kt_call_dict hd dd (by rw [← rel.length]; exact z) fun h' dd' hs => ?_
  refine h _ _ (I.hok.fresh (Nat.le_refl _)) (I.laid (a := s.heap.objs.size) (o := .dK kvs) (t' := s.toks) (fun b q hq => ?_) (Nat.le_refl _) (dk_new z (beq_eq_false_iff_ne.mpr (Ne.symm (Nat.ne_of_lt I.big))) rel dd'))
  exact (hs.2 b (Nat.ne_of_lt (Heap.lt_size hq))).trans (Heap.get?_push_of_some _ hq)
end
section
variable {X : Cx} {pins : List (Addr × Obj)} {σ : St} {H : Hp} {s : Shared} {a : Addr} {y : V} {u : Value} {A : Around} {E : Value → Shared → Prop}
end
end L2
namespace Att
open PySem PySem.W PySem.Calls PyProof.Rows
theorem ints_of_wellAll {P : Params} {h : Heap} : ∀ (ns : List Int) (vs : List Value), WellAll P h vs (ns.map WData.int) → IntsAre vs ns := by
  intro ns
  induction ns with
  | nil =>
    intro vs w
    rw [List.map_nil] at w
    cases w
    exact .nil
  | cons n ns ih =>
    intro vs w
    rw [List.map_cons] at w
    cases w with
    | cons a b =>
      cases a
      exact .cons _ _ (ih _ b)
theorem script_of {l : OpenLaw} {n : Nat} (hn : l.most = some n) {P : Params} {h : Heap} {args : List WData} {vals : List Value}
    (hpre : l.row.toRowW.claim.pre args = true) (hwl : WellAll P h vals args) :
    ∃ a vs ns, vals = [Value.ref a] ∧ args = [WData.list (ns.map WData.int)] ∧ h.get? a = some { cls := .type "list", data := .seq vs.toArray } ∧ IntsAre vs ns ∧ ns.length ≤ n := by
  have hsh : WShape.hasAll [] args [.list .int] = true := (pre_splitW hpre).1
  have hc : l.pre.holds [] { args := args } = true := (pre_splitW hpre).2
  obtain ⟨d, r, rfl, h1, h2⟩ := hasAllW_cons hsh
  obtain rfl := hasAllW_nil h2
  obtain ⟨xs, rfl, h3⟩ := hasW_list h1
  obtain ⟨ns, rfl⟩ := items_int h3
  have hlen : ns.length ≤ n := by
    unfold OpenLaw.pre at hc
    have h4 : (WTm.not (.lt (.lit (.int (n : Int))) (.len (.arg 0)))).holds [] { args := [.list (ns.map .int)] } = true := by
      have h4 := (holds_andW hc).1
      rw [hn] at h4
      exact h4
    have h5 := condW_of h4 (w_not (w_lt w_lit (w_len_list (w_arg rfl))))
    rw [List.length_map] at h5
    refine Nat.le_of_not_lt fun q => ?_
    have q' : (n : Int) < ((ns.length : Nat) : Int) := by omega
    first
      | (rw [decide_eq_true q'] at h5; exact absurd h5 (by decide))
      | (simp at h5; omega)
  cases hwl with
  | cons w1 w2 =>
    cases w2
    cases w1 with
    | list ho hall => exact ⟨_, _, ns, rfl, rfl, ho, ints_of_wellAll ns _ hall, hlen⟩
theorem post_true (l : OpenLaw) (args : List WData) : l.row.toRowW.claim.post args (.bool true) args = true :=
  postW_of (r := l.row.toRowW) (X := (true == true))
    (show WShape.has [] (.bool true) .bool = true by first | rfl | decide | simp [WShape.has, WShape.arms, WShape.armsAll])
    (show (WTm.eq .res (.lit (.bool true))).value [] { args := args, res := some (.bool true), after := args } = some (.bool (true == true)) from w_eq_bool (w_res rfl) w_lit) rfl
theorem attach_call {l : OpenLaw} {n : Nat} {q : Program} {loose : List Str} {XP : (Str → Option Value) → Heap → Prop} {YP : World → Heap → Prop} {d : DefRec}
    (hn : l.most = some n) (hdf : d.params.defaults = [])
    (call : ∀ (w : World) (s₀ s₁ : Shared) (mg mb : Str → Option Value) (fa : Addr) (o : Obj) (pm cd doc : Value) (a : Addr) (vs : List Value) (ns : List Int),
      Ground q loose [] XP w s₀ mg mb s₁.heap → YP w s₁.heap →
      s₁.heap.get? fa = some o → o.data = .func (docDef d.name d.params d.body d.scope pm cd doc) → s₁.heap.CodeRec cd d.name → mg d.name = some (.ref fa) →
      s₁.heap.get? a = some { cls := .type "list", data := .seq vs.toArray } → IntsAre vs ns → ns.length ≤ n → s₁.gens = #[] →
      codeAny (model l.prog w) callerA (.call (.ref fa) ⟨[.ref a], []⟩) (fun r s' => r = .ok (.ret (.bool true)) ∧ OldK s₁.heap s'.heap ∧ s'.os = s₁.os ∧ AllBare s'.gens) s₁) :
    WalkO q loose XP YP l.row.toRowW d [] (fun f vs => PySem.call f vs) := by
  intro w s₀ s₁ mg mb G Y fa o pm cd doc dV kV ho hd hcd hD hmg hg args vals as hpre hlay hrd hwl hlo
  obtain rfl : dV = .none := Dflts.none hD hdf
  obtain rfl : kV = .none := Dflts.noKw hD
  obtain ⟨a, vs, ns, rfl, rfl, hobj, hints, hlen⟩ := script_of hn hpre hwl
  refine enter_call (codeAny_mono (call w s₀ s₁ mg mb fa o pm cd doc a vs ns G Y ho (fd_plain hd) hcd hmg hobj hints hlen hg) fun r s' hq => ?_)
  obtain ⟨rfl, h2, h3, h4⟩ := hq
  exact ⟨.inl ⟨.bool true, .bool true, [], rfl, fun _ => rfl, .bool true, post_true l _, fun _ => ⟨List.Pairwise.nil, fun _ hm => (nomatch hm)⟩⟩, h2, h3, h4⟩
section
variable {prog : Program} {w : World} {A : Around} {E : Value → Shared → Prop} {s : Shared} {K : Frag}
def ledger (h : Heap) (L d : Addr) : List (Addr × Obj) := (List.range h.objs.size).filterMap fun a => if a = L ∨ a = d then none else (h.get? a).map fun o => (a, o)
end
end Att
namespace L2
open PySem PySem.Spec PyProof.Rows
theorem vals_ints : ∀ {vs : List Value} {ns : List Int}, IntsAre vs ns → Vals (ns.map V.int) vs
  | _, _, .nil => .nil
  | _, _, .cons n t h => .cons ⟨t, rfl⟩ (vals_ints h)
end L2
namespace L2
open PySem PySem.Spec PyProof.Rows
abbrev KOf {K : PySem.W.Frag} {h : Heap} (_ : K.In h) : PySem.W.Frag := K
end L2
/- THE LAST THEOREM (shape; LID, My.* are yours):
   My.Adr: a structure of the addresses that your layer names (classes, functions); My.Txt K t: a structure (Prop) of the equations over K;
   My.txt_mk : {K} {implicit addresses ..} (e1 : nsIn K mainGlobals "law" = some (some (.ref f))) (e2 : K.lookup f = some ⟨oc, od, .func (fnOf "law" "law" params body scope dV kV doc pm an cdv ct), sl⟩) (e3 : codeIn K cdv "law" = true) .. : ∃ t, My.Txt K t
set_option maxRecDepth 100000 in
set_option maxHeartbeats 0 in
theorem PySem.Challenge.cw_LID_holds : PySem.Challenge.rw_LID.Holds := by
  w_on; o_law; k_head; (case hw => w_witness2)
  k_fill
  refine L2.walk_of (l := PySem.Challenge.rw_LID) (n := 63) (k := 40) (x := "script") (CX := fun w => ..) (sp := fun _ => My.sp_law) rfl (by decide) rfl ⟨rfl, by decide, by decide⟩ (fun w h Y => PySem.W.kIn_of Y) ?F ?S ?C
  case F =>
    intro w mg fa h KX G hmg
    have T : ∃ t, My.Txt (L2.KOf KX) t := by
      dsimp only [L2.KOf]                          -- K must stand as «<heap const> w.params» for k_is
      refine' My.txt_mk ?e1 ?e2 ?e3 ..
      (case e1 => PySem.W.k_is)                    -- in the order: a name -> its address -> its object -> its parts
      (case e2 => PySem.W.k_is)
      ..
    obtain ⟨t, T⟩ := T
    have e0 := hmg.symm.trans (PySem.W.mg_of KX G T.law)
    cases e0                                       -- fa is the law's own address
    exact ⟨_, fun s u => .of_eq rfl, fun base kb nb => My.law_fn T kb nb⟩     -- if «.of_eq rfl» comes too early: refine' ⟨_, ?b, fun base kb nb => My.law_fn T kb nb⟩; exact fun s u => .of_eq rfl
  case S => exact fun w H a ns hl hO hS => ..
  case C => exact ..
(the tactic k_is has no namespace: write k_is) -/
namespace L2
open PySem PySem.Spec PyProof.Rows
def inClass (s : Stmt) (j : Nat) : Stmt := match s with
  | .ClassDef _ _ _ body _ _ _ _ _ _ _ => body.getD j (.Pass ⟨0, 0, 0, 0⟩)
  | _ => .Pass ⟨0, 0, 0, 0⟩
def defArgs (s : Stmt) : Arguments := match s with
  | .FunctionDef _ a _ _ _ _ _ _ _ _ => a
  | _ => { posonlyargs := [], args := [], vararg := none, kwonlyargs := [], kw_defaults := [], kwarg := none, defaults := [] }
def defBody (s : Stmt) : List Stmt := match s with
  | .FunctionDef _ _ b _ _ _ _ _ _ _ => b
  | _ => []
def defScope (s : Stmt) : Scope := match s with
  | .FunctionDef _ _ _ _ _ _ sc _ _ _ => sc
  | _ => { kind := .function, names := [], isGenerator := false, isCoroutine := false }
abbrev CX0 : CXT := fun _ _ _ _ _ _ => False
abbrev E0 : XK := fun _ _ _ => False
theorem pass0 {X : Cx} : Passes CX0 X E0 := fun _ _ _ _ _ _ _ h => h.elim
structure Fun (K : PySem.W.Frag) (x qual : Str) (st : Stmt) (f : Addr) (fd : FuncData) : Prop where
  ex : ∃ (oc : Value) (od : Option Addr) (kV doc pm : Value) (an : Option Addr) (cdv ct : Value) (osl : Array (Option Value)),
    fd = PySem.W.fnOf x qual (defArgs st) (defBody st) (defScope st) .none kV doc pm an cdv ct ∧ K.lookup f = some ⟨oc, od, .func fd, osl⟩ ∧ PySem.W.codeIn K cdv qual = true
  kp : PySem.W.keepIn K (.ref f) = true
section
variable {P : Program} {w : World} {K : PySem.W.Frag} {mg : Str → Option Value} {base : Heap}
theorem Fun.ok {x qual : Str} {st : Stmt} {f : Addr} {fd : FuncData} {N ps : List Str} {k : Nat} {sp : Sp} (F : Fun K x qual st f fd) (S : FnScope N ps (defScope st)) (len : ∀ vs H Q E, sp vs H Q E → vs.length = ps.length)
    (hbody : ∀ (cdv : Value) (A : Around) (outer : List Env) (s : Shared) (H : Hp) (vs : List V) (Q : VK) (E : XK), Room k (A.deeper (envOfC qual (defScope st) s.heap.objs.size f cdv)) → sp vs H Q E →
      ∃ t, PSs (cxOf CX0 P w K mg base N qual (defScope st) f cdv A outer s H E).nox (defBody st) t ∧ t { nx := fun _ H' => Q .non H', rt := Q } (start N vs) H) : FnOk P w K mg base CX0 (k + 1) f fd ps sp := by
  obtain ⟨oc, od, kV, doc, pm, an, cdv, ct, osl, rfl, lk, hcd⟩ := F.ex
  refine fn_of lk hcd S len fun A outer s H vs Q E hr hsp => ?_
  obtain ⟨t, h, q⟩ := hbody cdv A outer s H vs Q E hr hsp
  exact ⟨t, h.nox, q⟩
theorem Fun.binds {x qual : Str} {st : Stmt} {f : Addr} {fd : FuncData} {ps : List Str} (F : Fun K x qual st f fd)
    (h : ∀ (kV doc pm : Value) (an : Option Addr) (cdv ct : Value) (us : List Value), us.length = ps.length → bindArgs (PySem.W.fnOf x qual (defArgs st) (defBody st) (defScope st) .none kV doc pm an cdv ct) ⟨us, []⟩ = pure (ps.zip us)) : Binds K fd ps [] := by
  obtain ⟨oc, od, kV, doc, pm, an, cdv, ct, osl, rfl, lk, hcd⟩ := F.ex
  exact .all (h kV doc pm an cdv ct)
theorem fun_mk {x qual : Str} {st : Stmt} {f : Addr} {oc : Value} {od an : Option Addr} {osl : Array (Option Value)} {kV doc pm cdv ct : Value} (l : K.lookup f = some ⟨oc, od, .func (PySem.W.fnOf x qual (defArgs st) (defBody st) (defScope st) .none kV doc pm an cdv ct), osl⟩)
    (c : PySem.W.codeIn K cdv qual = true) (k : PySem.W.keepIn K (.ref f) = true) : Fun K x qual st f (PySem.W.fnOf x qual (defArgs st) (defBody st) (defScope st) .none kV doc pm an cdv ct) := ⟨⟨oc, od, kV, doc, pm, an, cdv, ct, osl, rfl, l, c⟩, k⟩
end
theorem hu_of {A : Around} {k : Nat} (hr : Room k A) : A.units + 1 < cLine := Nat.lt_of_le_of_lt (Nat.add_le_add_left (by decide : 1 ≤ 64) _) hr.units
section
variable {X : Cx}
theorem pv (i : Nat) {x : Str} {pos : Pos} (hN : X.N[i]? = some x := by rfl) (hv : Vis X.env.scope x := by first | exact Or.inl rfl | exact Or.inr (Or.inl rfl) | exact Or.inr (Or.inr rfl)) (hd : (x == ("__debug__" : Str)) = false := by decide)
    (hcd : (x == ("__classdict__" : Str)) = false := by decide) : PE X (.Name x pos) (tVar i) := pe_var hN hv hd hcd
end
theorem iteF {A B : Prop} (h : B) : if false = true then A else B := by
  rw [if_neg Bool.false_ne_true]
  exact h
theorem iteT {A B : Prop} (h : A) : if true = true then A else B := by
  rw [if_pos rfl]
  exact h
theorem ite2 {c A B : Prop} [Decidable c] (h1 : c → A) (h2 : ¬ c → B) : if c then A else B := by
  by_cases h : c
  · rw [if_pos h]
    exact h1 h
  · rw [if_neg h]
    exact h2 h
section
variable {κ : Type} [DecidableEq κ]
theorem valV_not {kvs : List (κ × V)} {k : κ} (h : valV kvs k = none) : ¬ k ∈ kvs.map (·.1) := by
  intro m
  obtain ⟨p, hp, e⟩ := List.mem_map.mp m
  have q : (kvs.any fun kv => decide (kv.1 = k)) = true := List.any_eq_true.mpr ⟨p, hp, decide_eq_true e⟩
  rw [valV_any, h] at q
  exact absurd q (by simp)
theorem nd_snoc : ∀ {l : List κ} {k : κ}, l.Nodup → ¬ k ∈ l → (l ++ [k]).Nodup
  | [], k, _, _ => by simp
  | a :: r, k, h, hk => by
    obtain ⟨h1, h2⟩ := List.nodup_cons.mp h
    show (a :: (r ++ [k])).Nodup
    refine List.nodup_cons.mpr ⟨fun m => ?_, nd_snoc h2 fun m => hk (List.mem_cons.mpr (Or.inr m))⟩
    rcases List.mem_append.mp m with q | q
    · exact h1 q
    · exact hk (List.mem_cons.mpr (Or.inl (List.mem_singleton.mp q).symm))
theorem nd_putK {kvs : List (κ × V)} {k : κ} (v : V) (hn : (kvs.map (·.1)).Nodup) (h : valV kvs k = none) : ((putK kvs k v).map (·.1)).Nodup := by
  rw [putK_new v h, List.map_append]
  exact nd_snoc hn (valV_not h)
theorem dropK_pos {p : κ × V} {r : List (κ × V)} {k : κ} (e : p.1 = k) : dropK (p :: r) k = dropK r k := by
  unfold dropK
  rw [List.filter_cons, if_neg (by simp [e])]
theorem dropK_neg {p : κ × V} {r : List (κ × V)} {k : κ} (e : ¬ p.1 = k) : dropK (p :: r) k = p :: dropK r k := by
  unfold dropK
  rw [List.filter_cons, if_pos (by simp [e])]
theorem dropK_mem {kvs : List (κ × V)} {k : κ} {p : κ × V} (h : p ∈ dropK kvs k) : p ∈ kvs := (List.mem_filter.mp h).1
theorem nd_dropK : ∀ {kvs : List (κ × V)} {k : κ}, (kvs.map (·.1)).Nodup → ((dropK kvs k).map (·.1)).Nodup
  | [], _, _ => List.nodup_nil
  | p :: r, k, h => by
    have h : (p.1 :: r.map (·.1)).Nodup := h
    obtain ⟨h1, h2⟩ := List.nodup_cons.mp h
    by_cases e : p.1 = k
    · rw [dropK_pos e]
      exact nd_dropK h2
    · rw [dropK_neg e]
      show (p.1 :: (dropK r k).map (·.1)).Nodup
      refine List.nodup_cons.mpr ⟨fun m => h1 ?_, nd_dropK h2⟩
      obtain ⟨q, hq, eq⟩ := List.mem_map.mp m
      exact List.mem_map.mpr ⟨q, dropK_mem hq, eq⟩
end
end L2
namespace Gb
section
variable {α : Type} (nl : α) (pr : α → α → α)
end
end Gb
namespace Gb
section
variable {α : Type} (nl : α) (pr : α → α → α)
def hp (n : Nat) : Nat := 2 ^ Nat.log2 n
def fr : List α → α
  | [] => nl
  | [x] => x
  | x :: y :: r => pr x (fr (y :: r))
end
end Gb
namespace L2
open PySem PySem.Spec PyProof.Rows
def Fny (K : PySem.W.Frag) (H : Hp) (f : Addr) : Prop :=
  (∃ oc od fd sl, K.lookup f = some ⟨oc, od, .func fd, sl⟩) ∨ ∃ oc od fd sl u, H f = some (.frz ⟨oc, od, .func fd, sl⟩ u)
section
variable {X : Cx} {CX : CXT} {k : Nat} {f : Addr} {sp : Addr → Sp} {E : XK} {x : Str} {p pos : Pos} {e : Expr} {es : List Expr} {t : TA} {i : Nat}
theorem Inv.fnAt {pins : List (Addr × Obj)} {σ : St} {H : Hp} {s : Shared} (I : Inv X pins σ H s) (h : Fny X.K H f) : PySem.W.FnAt f s.heap := by
  rcases h with ⟨oc, od, fd, sl, e⟩ | ⟨oc, od, fd, sl, u, e⟩
  · exact ⟨oc, od, fd, sl, I.kIn _ _ e⟩
  · exact ⟨oc, od, fd, sl, (I.hok _ _ e).1⟩
def tCallV (K : PySem.W.Frag) (i : Nat) (sp : Addr → Sp) (E : XK) (t : TA) : TE := fun σ H Q => ∃ f, σ[i]? = some (some (.ref f)) ∧ Fny K H f ∧ t σ H fun vs H1 => Fny K H1 f ∧ sp f vs H1 Q E
end
section
variable {X : Cx}
theorem mt_bitlen : MtR X "int.bit_length" (fun x vs H Q => ∃ i, x = .int i ∧ vs = [] ∧ Q (.int (Builtin.Int.intBits i : Nat)) H) := by
  intro pins s σ H x vs v us Q I rx rv h
  obtain ⟨i, rfl, rfl, q⟩ := h
  obtain ⟨t, rfl⟩ := rx
  cases rv.zero
  exact call_int_bit_length ⟨.int _, H, I.tok _, ⟨_, rfl⟩, q⟩
theorem call_isinst : CallR X (.builtin "isinstance") (fun xs H Q => ∃ x t c b, xs = [x, .ty c] ∧ TyOf X.K H x t ∧ PySem.W.kitOne X.K t (.type c) = some b ∧ Q (.bl b) H) := by
  intro pins s σ H xs us Q I r h
  obtain ⟨x, t, c, b, rfl, ty, e, q⟩ := h
  obtain ⟨u, w', rfl, rx, rc⟩ := vals2 r
  obtain rfl : w' = Value.type c := rc
  exact isinst_ok I rx ty e fun tk => ⟨.bl b, H, I.tok tk, rfl, q⟩
def Scr (K : PySem.W.Frag) (H : Hp) (a : Addr) (xs : List V) : Prop :=
  ∃ (its : List Value) (n : Nat), Vals xs its ∧ xs.length ≤ sizeLine ∧ ((∃ u, H a = some (.frz { cls := .type "list", data := .seq its.toArray n } u)) ∨ K.lookup a = some { cls := .type "list", data := .seq its.toArray n })
end
end L2
namespace L2
open PySem PySem.Spec PyProof.Rows
def EqV (H : Hp) : Nat → V → V → Prop
  | 0, x, y => x = y ∧ flatV x = true
  | n + 1, x, y => (x = y ∧ flatV x = true) ∨ ∃ a b xs ys, x = .ref a ∧ y = .ref b ∧ H a = some (.tup xs) ∧ H b = some (.tup ys) ∧ xs.length = ys.length ∧ ∀ (i : Nat) u v, xs[i]? = some u → ys[i]? = some v → EqV H n u v
theorem EqV.flat {H : Hp} {x : V} (h : flatV x = true) : ∀ n, EqV H n x x
  | 0 => ⟨rfl, h⟩
  | _ + 1 => .inl ⟨rfl, h⟩
theorem EqV.up {H : Hp} : ∀ {n m : Nat} {x y : V}, n ≤ m → EqV H n x y → EqV H m x y
  | 0, m, x, y, _, h => by obtain ⟨rfl, f⟩ := h; exact EqV.flat f m
  | n + 1, 0, _, _, h, _ => by omega
  | n + 1, m + 1, x, y, h, q => by
    rcases q with q | ⟨a, b, xs, ys, e1, e2, e3, e4, e5, e6⟩
    · exact .inl q
    · exact .inr ⟨a, b, xs, ys, e1, e2, e3, e4, e5, fun i u v h1 h2 => EqV.up (Nat.le_of_succ_le_succ h) (e6 i u v h1 h2)⟩
theorem eqV_self {x : V} (h : flatV x = true) : eqV x x = true := by
  cases x <;> first | rfl | exact beq_self_eq_true _ | cases h
theorem all_true (n : Nat) : (List.range n).all (fun _ => true) = true := by simp
theorem Vals.at {xs : List V} {its : List Value} (r : Vals xs its) {j : Nat} (h : j < its.toArray.size) : ∃ x, xs[j]? = some x ∧ RelV x its.toArray[j] := by
  have hl := r.length
  have hj : j < xs.length := by simp at h; omega
  obtain ⟨u, hu, ru⟩ := r.get (i := j) (x := xs[j]) (by simp [hj])
  refine ⟨xs[j], by simp [hj], ?_⟩
  have : its.toArray[j] = u := by
    have h2 : j < its.length := by simpa using h
    rw [List.getElem_toArray]
    rw [List.getElem?_eq_getElem h2] at hu
    exact Option.some.inj hu
  rw [this]; exact ru
theorem eqAt_of {P : Program} {w : World} {H : Hp} {s : Shared} (ok : HOk P w H s.heap) : ∀ (n : Nat) (x y : V) (u v : Value) (A : Around), EqV H n x y → RelV x u → RelV y v → A.units + n < cLine → SeqAt.EqAt A s u v true
  | 0, x, y, u, v, A, h, rx, ry, _ => by
    obtain ⟨rfl, f⟩ := h
    have := eqAt_V (A := A) (s := s) rx ry f f
    rw [eqV_self f] at this
    exact this
  | n + 1, x, y, u, v, A, h, rx, ry, hu => by
    rcases h with ⟨rfl, f⟩ | ⟨a, b, xs, ys, rfl, rfl, ha, hb, hl, hi⟩
    · have := eqAt_V (A := A) (s := s) rx ry f f
      rw [eqV_self f] at this
      exact this
    · obtain rfl : u = Value.ref a := rx
      obtain rfl : v = Value.ref b := ry
      by_cases e : a = b
      · subst e; exact SeqAt.EqAt.same _
      obtain ⟨za, its, r, pa⟩ := ok _ _ ha
      obtain ⟨zb, its2, r2, pb⟩ := ok _ _ hb
      have q := SeqAt.RcAt.tuples (A := A) (s := s) (e := fun _ => true) (show s.heap.IsTuple a its.toArray from pa) (show s.heap.IsTuple b its2.toArray from pb) (by omega) fun j h1 h2 => by
        obtain ⟨x1, e1, q1⟩ := r.at h1
        obtain ⟨y1, e2, q2⟩ := r2.at h2
        exact eqAt_of ok n x1 y1 _ _ A.in1 (hi j x1 y1 e1 e2) q1 q2 (by show A.units + 1 + n < cLine; omega)
      have e3 : ((List.range (min its.toArray.size its2.toArray.size)).all (fun _ => true) && its.toArray.size == its2.toArray.size) = true := by
        have h1 := r.length; have h2 := r2.length
        rw [all_true, Bool.true_and]
        simp; omega
      rw [e3] at q
      exact SeqAt.EqAt.of_refs e q
section
variable {X : Cx}
theorem op_eqT : OpR X (compareOp .Eq) (fun x y H Q => ∃ n, EqV H n x y ∧ X.A.units + n + 1 < cLine ∧ Q (.bl true) H) := by
  intro pins s σ H x y v u Q I rx ry h
  obtain ⟨n, h, hu, q⟩ := h
  have flat : ∀ {x : V} {v u : Value}, flatV x = true → RelV x v → RelV x u → Q (.bl true) H → wpAny (model X.prog X.w) X.A (compareOp .Eq v u) (EP X pins σ Q) X.xe s := fun {x v u} f rx ry q => by
    refine op_eq pins s σ H x x v u Q I rx ry ⟨?_, ?_⟩
    · cases x <;> first | rfl | cases f
    · rw [decide_eq_true (rfl : x = x)]; exact q
  cases n with
  | zero => obtain ⟨rfl, f⟩ := h; exact flat f rx ry q
  | succ n =>
    rcases h with ⟨rfl, f⟩ | ⟨a, b, xs, ys, rfl, rfl, ha, hb, hl, hi⟩
    · exact flat f rx ry q
    obtain rfl : v = Value.ref a := rx
    obtain rfl : u = Value.ref b := ry
    obtain ⟨za, its, r, pa⟩ := I.hok _ _ ha
    obtain ⟨zb, its2, r2, pb⟩ := I.hok _ _ hb
    have q2 := SeqAt.RcAt.tuples (A := X.A) (s := s) (e := fun _ => true) (show s.heap.IsTuple a its.toArray from pa) (show s.heap.IsTuple b its2.toArray from pb) (by omega) fun j h1 h2 => by
      obtain ⟨x1, e1, q1⟩ := r.at h1
      obtain ⟨y1, e2, q2⟩ := r2.at h2
      exact eqAt_of I.hok n x1 y1 _ _ X.A.in1 (hi j x1 y1 e1 e2) q1 q2 (by show X.A.units + 1 + n < cLine; omega)
    have e3 : ((List.range (min its.toArray.size its2.toArray.size)).all (fun _ => true) && its.toArray.size == its2.toArray.size) = true := by
      have h1 := r.length; have h2 := r2.length
      rw [all_true, Bool.true_and]
      simp; omega
    rw [e3] at q2
    exact q2 X.prog X.w X.xe _ ⟨.bl true, H, I, rfl, q⟩
end
theorem meets_lenH {prog : Program} {w : World} {d : Addr} (hd : (d == sysModules) = false) :
    MeetsIn prog w (Builtin.«dict.__len__» ⟨[.ref d], []⟩) (fun _ R s => ∃ o es ep, s.heap.get? d = some o ∧ o.data = .dict es ep ∧ R (.ok (.ret (.int es.size s.toks))) { s with toks := s.toks + 1 }) :=
  .of_wp fun A R s ⟨o, es, ep, ho, hdat, h⟩ => by
    show wpAny _ _ (dictSize d >>= _) _ _ s
    unfold dictSize
    refine wpAny_bind (wpAny_bind (wpAny_dictEntries ho hdat (wpAny_pure ?_)))
    show wpAny _ _ (Builtin.Dict.pendingCount d >>= _) _ _ s
    refine wpAny_bind (wpAny_pendingCount_other hd ?_)
    refine wpAny_ret_mkInt ?_
    rw [Nat.add_zero]; exact h
theorem wpAny_len_dictH {prog : Program} {w : World} {A : Around} {E : Value → Shared → Prop} {s : Shared} {d : Addr} {o : Obj} {es : Array DictEntry} {ep : Nat} {Q : Value → Shared → Prop} (hd : (d == sysModules) = false) (ho : s.heap.get? d = some o)
    (hx : o.ExactDict) (hdt : o.data = .dict es ep) (hfit : (es.size : Int) < 2 ^ 63) (h : Q (.int es.size (s.toks + 1)) { s with toks := s.toks + 1 + 1 }) : wpAny (model prog w) A (call (.builtin "len") [.ref d]) Q E s := by
  refine Calls.call_function_entry kind_len plain_len entry_len (args_len1 _) ?_
  unfold Builtin.«len»
  have ty : s.TypeIs (.ref d) "dict" := ⟨o, ho, hx.1⟩
  refine wpAny_bind (m := oneArg "len" _) (wpAny_pure ?_)
  refine wpAny_bind (m := callSpecial? (.ref d) (Str.ofString "__len__")) (wpAny_callSpecial?_slot (name := Str.ofString "__len__") ty F.slot_dict_len
    (call_meetsIn F.slot_dict_len ty F.entry_dict_len (F.args_dict_len_1 _) (meets_lenH hd) ⟨o, es, ep, ho, hdt, ?_⟩))
  show wpAny _ _ _ _ _ { s with toks := s.toks + 1 }
  refine wpAny_bind (wpAny_holding (wpAny_pure ?_))
  refine wpAny_bind (wpAny_letGo ?_)
  show wpAny _ _ (if ((es.size : Nat) : Int) < 0 then _ else _) _ _ _
  rw [if_neg (by omega)]
  show wpAny _ _ (if ((es.size : Nat) : Int) ≥ 2 ^ 63 then _ else _) _ _ _
  rw [if_neg (by omega)]
  exact wpAny_bind (wpAny_mkInt (wpAny_pure ⟨_, rfl, h⟩))
theorem call_lenT {X : Cx} : CallR X (.builtin "len") (fun xs H Q => ∃ a kvs, xs = [V.ref a] ∧ H a = some (.dT kvs) ∧ Q (.int kvs.length) H) := by
  intro pins s σ H xs us Q I r h
  obtain ⟨a, kvs, rfl, ha, q⟩ := h
  obtain ⟨u, rfl, ru⟩ := vals1 r
  cases ru
  obtain ⟨z, hd, ys, rel, o, es, ep, ho, hx, hdt, hes, hnd⟩ := I.hok _ _ ha
  have e : es.size = kvs.length := by
    have h1 := congrArg List.length hes
    have h2 := Paired.length rel
    simp at h1; omega
  refine wpAny_len_dictH hd ho hx hdt (by rw [sizeLine_eq] at z; omega) ?_
  rw [e]
  exact ⟨.int kvs.length, H, I.tok _, ⟨_, rfl⟩, q⟩
end L2
namespace L2
open PySem PySem.Spec PyProof.Rows
section
variable {P : Program} {w : World} {K : PySem.W.Frag} {mg : Str → Option Value} {base : Heap}
def cxCl (P : Program) (w : World) (K : PySem.W.Frag) (mg : Str → Option Value) (base : Heap) (N : List Str) (qual : Str) (scope : Scope) (f : Addr) (cd : Value) (cl : List (Str × Addr)) (A : Around) (outer : List Env) (s : Shared) (H : Hp) : Cx where
  prog := P
  w := w
  K := K
  mg := mg
  base := base
  A := A.deeper (PySem.W.envX qual scope s.heap.objs.size f cd cl)
  N := N
  s₀ := s
  H₀ := H
  env := PySem.W.envX qual scope s.heap.objs.size f cd cl
  outer := outer
  stack := PySem.W.envX qual scope s.heap.objs.size f cd cl :: outer
  ex := []
  calm := true
  fn := fun _ => false
  pn := []
  xe := fun _ _ => False
structure ClScope (ps : List Str) (y : Str) (sc : Scope) : Prop where
  kind : sc.kind = .function
  co : sc.isCoroutine = false
  gen : sc.isGenerator = false
  nd : (ps ++ [y]).Nodup
  par : ∀ x ∈ ps, sc.names.lookup x = some .local
  nocell : ∀ z ∈ sc.names, z.2 ≠ .cell
  free : ∀ x, sc.names.lookup x = some .free → x = y
  isfree : sc.names.lookup y = some .free
theorem lookup_rev_zip {ps : List Str} (hn : ps.Nodup) : ∀ {us : List Value} {i : Nat} {x : Str} {u : Value}, ps[i]? = some x → us[i]? = some u → ps.length = us.length → (ps.zip us).reverse.lookup x = some u := by
  intro us i x u h1 h2 hl
  have key : ∀ (l : List (Str × Value)), (l.map (·.1)).Nodup → (x, u) ∈ l → l.lookup x = some u := by
    intro l
    induction l with
    | nil => intro _ h; cases h
    | cons p r ih =>
      intro hn hm
      obtain ⟨a, b⟩ := p
      have hn' := List.nodup_cons.mp hn
      rw [List.lookup_cons]
      rcases List.mem_cons.mp hm with e | hm2
      · cases e; simp
      · have hne : (x == a) = false := by
          rw [beq_eq_false_iff_ne]
          intro e
          exact hn'.1 (List.mem_map.mpr ⟨(x, u), hm2, e⟩)
        rw [hne]
        exact ih hn'.2 hm2
  refine key _ ?_ ?_
  · rw [List.map_reverse]
    have e : (ps.zip us).map (·.1) = ps := by rw [List.map_fst_zip (by omega)]
    rw [e]
    exact List.pairwise_reverse.mpr (hn.imp Ne.symm)
  · refine List.mem_reverse.mpr (List.mem_of_getElem? (i := i) ?_)
    rw [List.getElem?_zip_eq_some]
    exact ⟨h1, h2⟩
end
theorem HOk.track {P : Program} {w : World} {H : Hp} {h : Heap} {a : Addr} {o : Obj} (x : HOk P w H h) (ho : h.get? a = some o) (hn : H a = none) : HOk P w (upd H a (.frz o (.own 0))) h := fun b u e => by
  by_cases hb : b = a
  · subst hb; rw [upd_same] at e; cases e; exact ⟨ho, o, ho⟩
  · rw [upd_ne hb] at e
    exact (x b u e).stay (fun c v _ q => q) (fun c q => by rw [upd_ne (ne_of_none q hn)]; exact q) fun c xs q => by rw [upd_ne (ne_of_none q hn)]; exact q
theorem Un.track {fs ex : List Addr} {H H1 : Hp} {h h1 : Heap} {a : Addr} {o : HO} (u : Un fs ex H H1 h h1) (hs : h.objs.size ≤ a) (hn : H1 a = none) : Un fs ex H (upd H1 a o) h h1 :=
  ⟨u.keep, u.slot, fun b o q n hx => by rw [upd_ne (Nat.ne_of_lt (Nat.lt_of_lt_of_le (Heap.lt_size q) hs))]; exact u.free b o q n hx, u.there,
    fun b xs q => by have z := u.tups b xs q; rw [upd_ne (ne_of_none z hn)]; exact z, fun b o v q => by have z := u.frzs b o v q; rw [upd_ne (ne_of_none z hn)]; exact z,
    fun b ps q => by obtain ⟨m, z⟩ := u.tbls b ps q; exact ⟨m, by rw [upd_ne (ne_of_none z hn)]; exact z⟩⟩
theorem Inv.track {X : Cx} {pins : List (Addr × Obj)} {σ : St} {H : Hp} {s : Shared} {a : Addr} {o : Obj} (I : Inv X pins σ H s) (ho : s.heap.get? a = some o) (fp : FpOk X pins H a) (hs : X.s₀.heap.objs.size ≤ a) :
    Inv X pins σ (upd H a (.frz o (.own 0))) s := by
  obtain ⟨f0, f1, f2, f3, f4, f5⟩ := fp
  refine ⟨I.ok, I.os, I.bare, I.base.track hs f0, I.loc, I.cell, ?_, fun x c e => ?_, fun p hp => ?_, I.hok.track ho f0, I.len⟩
  · rw [upd_ne (Ne.symm f1)]; exact I.free
  · rcases I.freeC x c e with z | ⟨z1, ob, z⟩
    · left; rw [upd_ne (f4 x c e)]; exact z
    · right; exact ⟨z1, ob, by rw [upd_ne (f4 x c e)]; exact z⟩
  · obtain ⟨e, n, ne, nf, d⟩ := I.pin p hp
    exact ⟨e, by rw [upd_ne (f5 p hp)]; exact n, ne, nf, d⟩
theorem fn_ofR {P : Program} {w : World} {K : PySem.W.Frag} {mg : Str → Option Value} {base : Heap} {k : Nat} {f : Addr} {name qual : Str} {params : Arguments} {body : List Stmt} {scope : Scope} {dV kV doc pm cdv ct oc : Value} {an od : Option Addr}
    {osl : Array (Option Value)} {N ps : List Str} {sp : Sp} (lk : K.lookup f = some ⟨oc, od, .func (PySem.W.fnOf name qual params body scope dV kV doc pm an cdv ct), osl⟩) (hcd : PySem.W.codeIn K cdv qual = true) (S : FnScope N ps scope)
    (len : ∀ vs H Q E, sp vs H Q E → vs.length = ps.length)
    (hbody : ∀ (A : Around) (outer : List Env) (s s1 : Shared) (H : Hp) (vs : List V) (Q : VK) (E : XK), Room k (A.deeper (envOfC qual scope s.heap.objs.size f cdv)) → sp vs H Q E →
      Inv (cxOf CX0 P w K mg base N qual scope f cdv A outer s H E) [] (start N vs) H s1 →
      wpAny (model P w) (A.deeper (envOfC qual scope s.heap.objs.size f cdv)) (execs body (envOfC qual scope s.heap.objs.size f cdv)) (fun fl s' => match fl with | .ret u => CE outer P w H s Q u s' | .next => CE outer P w H s Q .none s' | _ => False)
        (cxOf CX0 P w K mg base N qual scope f cdv A outer s H E).xe s1) :
    FnOk P w K mg base CX0 (k + 1) f (PySem.W.fnOf name qual params body scope dV kV doc pm an cdv ct) ps sp := by
  refine ⟨len, fun A outer s H args us vs Q E hr e0 hb r hsp => ?_⟩
  have hl := len _ _ _ _ hsp
  have KX : K.In s.heap := e0.mod.kin.keeps fun b o e => (e0.bs b o e).1
  have lim : s.heap.NoLimit := e0.mod.nolimit.keeps fun b o e => (e0.bs b o e).1
  have hkind : ∀ y ∈ ps.zip us, scope.names.lookup y.1 = some .local ∨ (scope.names.lookup y.1 = some .cell ∧ ((cellsFrom (s.heap.objs.size + 1) scope.names []).lookup y.1).isSome = true) := fun ⟨n, v⟩ hy => by
    rcases S.par n (List.of_mem_zip hy).1 with q | q
    · exact .inl q
    · exact .inr ⟨q, PySem.W.cellsFrom_some _ _ _ (.inl q)⟩
  refine codeAny_call_function hr.depth (KX _ _ lk) rfl S.co S.gen rfl (PySem.W.codeRec_of KX hcd) (hb _ _ _ _ ?_)
  refine wpAny_newFunctionEnv_cells S.kind hkind fun env he s1 x => ?_
  subst he
  refine ⟨lim.keeps x.toInCall.keep, codeAny_func ?_⟩
  have I : Inv (cxOf CX0 P w K mg base N qual scope f cdv A outer s H E) [] (start N vs) H s1 := inv_start S hr.hd e0 hl r x
  refine wpAny_mono (hbody A outer s s1 H vs Q E (hr.deeper _) hsp I) (fun fl s' hs => ?_) fun e s' hs => hs
  cases fl with
  | ret u => exact hs
  | next => exact hs
  | brk => exact False.elim hs
  | cont => exact False.elim hs
section
variable {X : Cx} {name : Str} {params : Arguments} {body : List Stmt} {scope : Scope} {pos : Pos} {i : Nat} {Pt c0 : Addr} {clos : List (Str × Addr)}
def tDef (Pt : Addr) (i : Nat) (name qual : Str) (params : Arguments) (body : List Stmt) (scope : Scope) (clos : List (Str × Addr)) (pos : Pos) : TS := fun D σ H => ∃ ps : Array Value, H Pt = some (.tbl ps) ∧ TriplesOk ps.toList ∧ codeAmong pos ps.toList = none ∧
  ∀ (f c' : Addr) (ob : Obj) (cvs : Array Value) (tk : Tok) (ctv doc pm : Value), H f = none → H c' = none → c' ≠ f → Pt ≠ f → Pt ≠ c' → ob.data = .fields cvs → cvs[1]? = some (.str qual tk) →
    D.nx (σ.set i (some (.ref f))) (upd (upd (upd H Pt (.tbl (ps ++ #[rawInt pos.line, rawInt pos.col, .ref c']))) c' (.frz ob (.own 0))) f (.frz (PySem.W.fnMade name qual params body scope clos doc pm c' ctv) (.own 0)))
theorem HOk.tbl {P : Program} {w : World} {H : Hp} {h h' : Heap} {p : Addr} {ps more : Array Value} (x : HOk P w H h) (hp : H p = some (.tbl ps)) (k : ∀ b o, b ≠ p → h.get? b = some o → h'.get? b = some o) (hp' : h'.get? p = some (PySem.W.tabObj (ps ++ more))) :
    HOk P w (upd H p (.tbl (ps ++ more))) h' := fun b u e => by
  by_cases hb : b = p
  · subst hb; rw [upd_same] at e; cases e; exact hp'
  · rw [upd_ne hb] at e
    refine (x b u e).stay (fun c v hc q => k c v ?_ q) (fun c q => ?_) fun c xs q => ?_
    · rcases hc with rfl | hc
      · exact hb
      · rintro rfl; rw [hp] at hc; cases hc
    · rw [upd_ne (by rintro rfl; rw [hp] at q; cases q)]; exact q
    · rw [upd_ne (by rintro rfl; rw [hp] at q; cases q)]; exact q
theorem ps_def {qual : Str} (hd0 : params.defaults = []) (hk0 : params.kw_defaults = []) (ha : PySem.annTrees params none X.env = []) (hqual : qualnameIn X.env name name = qual) (hcl : closureFor scope X.env = pure clos) (hcode : X.env.code = .ref c0)
    (C : PySem.W.CodeHd X.base c0 Pt) (hbm : ∃ bm ob, X.mg "__builtins__" = some (.ref bm) ∧ bm ≠ builtinsNs ∧ X.base.get? bm = some ob ∧ ob.cls = .type "module" ∧ ob.dict = some builtinsNs ∧ ob.data = .plain)
    (hN : X.N.Nodup) (hi : X.N[i]? = some name) (hx : Loc X.env.scope name) (hf : X.fn name = true ∨ X.env.scope.names.lookup name = some .local) :
    PS X (.FunctionDef name params body [] none [] scope none name pos) (tDef Pt i name qual params body scope clos pos) := by
  intro pins s σ H D I h
  obtain ⟨ps, hP, ht, hnf, h⟩ := h
  have hPo : s.heap.get? Pt = some (PySem.W.tabObj ps) := I.hok _ _ hP
  have hgs := I.mod.glob.keeps I.bk
  obtain ⟨bm, ob, b1, b2, b3, b4, b5, b6⟩ := hbm
  have b3' := I.bk _ _ b3
  have hgP : mainGlobals ≠ Pt := fun q => by
    obtain ⟨o, es, ep, e, hd, _⟩ := hgs
    rw [q, hPo] at e; cases e; cases hd
  have hbP : bm ≠ Pt := fun q => by rw [q, hPo] at b3'; cases b3'; cases b4
  have hbG : bm ≠ mainGlobals := fun q => by
    obtain ⟨o, es, ep, e, hd, _⟩ := hgs
    rw [q, e] at b3'; cases b3'; rw [hd] at b6; cases b6
  refine PySem.W.nestDef_K hd0 hk0 ha ?_
  rw [hqual]
  refine PySem.W.makeFunction_K (mg := X.mg) hcl I.ok.glob hgs hcode (C.keeps I.bk) hPo ht hnf hgP ⟨bm, ob, b1, b2, hbG, hbP, b3', b4, b5, b6⟩ fun c' ctv doc h' tk hx' hge hlt hrec htb => ?_
  obtain ⟨c2, oc, vs, t, e2, hoc, hd, hv⟩ := hrec
  cases e2
  -- the table grown
  have hszle : s.heap.objs.size ≤ h'.objs.size := Nat.le_of_lt (Nat.lt_of_le_of_lt hge hlt)
  have hPlt : Pt < s.heap.objs.size := Heap.lt_size hPo
  have hPm : ∀ x a, X.env.cells.lookup x = some a → a ≠ Pt := fun x a e z => by
    obtain ⟨v, o, ho, hd⟩ := I.cell x a e
    rw [z, hPo] at ho; cases ho; cases hd
  have Un1 : Un X.fs [] H (upd H Pt (.tbl (ps ++ #[rawInt pos.line, rawInt pos.col, .ref c']))) s.heap h' := by
    refine ⟨fun b o q n _ _ => hx' b o (by rintro rfl; rw [hP] at n; cases n) q, fun b o q n _ _ => ⟨o.slots, hx' b o (by rintro rfl; rw [hP] at n; cases n) q⟩, fun b o q n _ => ?_, fun b o q _ => ?_, fun b xs q => ?_, fun b o u q => ?_, fun b qs q => ?_⟩
    · rw [upd_ne (by rintro rfl; rw [hP] at n; cases n)]; exact n
    · by_cases hb : b = Pt
      · subst hb; exact ⟨_, htb⟩
      · exact ⟨o, hx' b o hb q⟩
    · rw [upd_ne (by rintro rfl; rw [hP] at q; cases q)]; exact q
    · rw [upd_ne (by rintro rfl; rw [hP] at q; cases q)]; exact q
    · by_cases hb : b = Pt
      · subst hb; rw [hP] at q; cases q; exact ⟨_, upd_same⟩
      · exact ⟨#[], by rw [upd_ne hb, q]; simp⟩
  have I1 : Inv X pins σ (upd H Pt (.tbl (ps ++ #[rawInt pos.line, rawInt pos.col, .ref c']))) { s with heap := h', toks := tk } :=
    I.un Un1 (I.hok.tbl hP (fun b o hb q => hx' b o hb q) htb)
  -- the code object is tracked
  have hcn : upd H Pt (.tbl (ps ++ #[rawInt pos.line, rawInt pos.col, .ref c'])) c' = none := by
    rw [upd_ne (Nat.ne_of_gt (Nat.lt_of_lt_of_le hPlt hge))]; exact I.hok.fresh hge
  have I2 : Inv X pins σ (upd (upd H Pt (.tbl (ps ++ #[rawInt pos.line, rawInt pos.col, .ref c']))) c' (.frz oc (.own 0))) { s with heap := h', toks := tk } := by
    have f2 := I.fpOk (H' := upd H Pt (.tbl (ps ++ #[rawInt pos.line, rawInt pos.col, .ref c']))) hge hcn
    exact I1.track hoc f2 (Nat.le_trans I.sz hge)
  have hfn : (upd (upd H Pt (.tbl (ps ++ #[rawInt pos.line, rawInt pos.col, .ref c']))) c' (.frz oc (.own 0))) h'.objs.size = none := I2.hok.fresh (Nat.le_refl _)
  have I3 := I2.laid (a := h'.objs.size) (o := .frz (PySem.W.fnMade name qual params body scope clos doc ((X.mg "__name__").getD .none) c' ctv) (.own 0)) (t' := tk)
    (fun b o q => Heap.get?_push_of_some (PySem.W.fnMade name qual params body scope clos doc ((X.mg "__name__").getD .none) c' ctv) q) (Nat.le_refl _) ⟨Heap.get?_push_size _ rfl, _, Heap.get?_push_size _ rfl⟩
  refine store_ok I3 hN hi hx (v := .ref h'.objs.size) rfl (fun s' I' => ⟨_, _, I', ?_⟩) hf
  exact h h'.objs.size c' oc vs t ctv doc _ (I.hok.fresh hszle) (I.hok.fresh hge) (Nat.ne_of_lt hlt) (Nat.ne_of_lt (Nat.lt_of_lt_of_le hPlt hszle)) (Nat.ne_of_lt (Nat.lt_of_lt_of_le hPlt hge)) hd hv
end
end L2
namespace L2
open PySem PySem.Spec PyProof.Rows
def cxComp (X : Cx) (s₂ : Shared) (H₂ : Hp) (fp : List Addr) (sc : Scope) (cl : List (Str × Addr)) (N' : List Str) : Cx :=
  { X with N := N', s₀ := s₂, H₀ := H₂, env := compEnvC sc cl s₂.heap.objs.size X.env, outer := X.stack, stack := X.stack, ex := fp, fn := fun _ => false, pn := [], xe := fun _ _ => False }
def PTs (X : Cx) (ifs : List Expr) (tt : TT) : Prop :=
  ∀ (pins : List (Addr × Obj)) (s : Shared) (σ : St) (H : Hp) (Q : Bool → Hp → Prop) (E : Value → Shared → Prop), X.xe = (fun _ _ => False) → Inv X pins σ H s → tt σ H Q →
    wpAny (model X.prog X.w) X.A (forIn ifs true fun c r => if r = true then do let ok ← isTrue c X.env (eval c X.env); pure (ForInStep.yield ok) else pure (ForInStep.yield r)) (TP X pins σ Q) E s
theorem pts_nil {X : Cx} : PTs X [] (fun _ H Q => Q true H) := fun pins s σ H Q E _ I h => wpAny_tests_nil ⟨H, I, h⟩
theorem pts_one {X : Cx} {c : Expr} {t : TT} (h : PT X c t) : PTs X [c] t := fun pins s σ H Q E hx I q => wpAny_tests_one (wpAny_mono (h pins s σ H Q I q) (fun _ _ x => x) fun e s' x => by rw [hx] at x; exact x.elim)
def capt (js : List Nat) (σ : St) : St := js.map fun j => (σ[j]?).join
def tComp (wi : TI) (js : List Nat) (tt : TT) (te : TE) : TE := fun σ H Q => wi σ H fun J H1 => ∀ D, H1 D = none → ∃ W : Nat → Nat → List V → Hp → Prop, (∃ m, W 0 m [] (upd H1 D (.lst []))) ∧ ∀ i m ys H, W i m ys H →
  (J.stop i H ∧ Q (.ref D) H) ∨ (J.go i H ∧ ∀ x H', J.yld i H x H' → tt (some x :: capt js σ) H' fun b H2 => if b = true then te (some x :: capt js σ) H2 fun y H3 => H3 D = some (.lst ys) ∧ ys.length < sizeLine ∧ ∃ m', m' < m ∧ W (i + 1) m' (ys ++ [y]) (upd H3 D (.lst (ys ++ [y])))
    else ∃ m', m' < m ∧ W (i + 1) m' ys H2)
structure CompOk (X : Cx) (x : Str) (ys : List Str) (js : List Nat) (sc : Scope) (cl : List (Str × Addr)) : Prop where
  calm : X.calm = true
  clos : closureFor sc X.env = pure cl
  kind : sc.kind = .function
  names : ∀ z ∈ sc.names, z.2 = .local → sc.names.lookup z.1 = some .local
  nocell : ∀ z ∈ sc.names, z.2 ≠ .cell
  own : sc.names.lookup x = some .local
  nd : (x :: ys).Nodup
  same : ∀ z c, cl.lookup z = some c → X.env.cells.lookup z = some c
  has : (relabel sc X.env).names.all (fun p => !(p.2 == .cell || p.2 == .free) || (cl.lookup p.1).isSome) = true
  cap : ∀ (i : Nat) y, ys[i]? = some y → ∃ j, js[i]? = some j ∧ X.N[j]? = some y ∧ X.env.scope.names.lookup y = some .cell ∧ (relabel sc X.env).names.lookup y = some .cell
  len : ys.length = js.length
theorem comp_core {X : Cx} {x : Str} {px : Pos} {ys : List Str} {js : List Nat} {sc : Scope} {cl : List (Str × Addr)} {elt iter : Expr} {ifs : List Expr} {pos : Pos} {wi : TI} {tt : TT} {te : TE} {use : Option (Value → Sem Unit)} {QQ : Value → Shared → Prop}
    (ok : CompOk X x ys js sc cl) (hi : PI X (.Name x px) iter wi)
    (ht : ∀ s₂ H₂ fp, PTs (cxComp X s₂ H₂ fp sc cl (x :: ys)) ifs tt) (he : ∀ s₂ H₂ fp, PE (cxComp X s₂ H₂ fp sc cl (x :: ys)) elt te)
    {pins : List (Addr × Obj)} {s : Shared} {σ : St} {H : Hp} {Q : VK} (I : Inv X pins σ H s) (h : tComp wi js tt te σ H Q)
    (fin : ∀ (D C : Addr) (H' : Hp) (s' : Shared), Inv X pins σ H' s' → Q (.ref D) H' → FpOk X pins H' C → (∃ m, s'.heap.Ns C m) → compPost (model X.prog X.w) X.A X.xe use QQ (.ref D) C (.ok .next) s')
    (hs : ∀ x, foldedSetIterable iter X.env x = pure x) {p2 : Pos} :
    wpAny (model X.prog X.w) X.A (comprehension (.ListComp elt [⟨.Name x px, iter, ifs, 0⟩] sc pos) sc X.env p2 (newList []) false (eval iter X.env) use) QQ X.xe s := by
  refine wpAny_comprehension_free (use := use) rfl hs ok.clos ok.kind ok.names (thn (hi pins s σ H _ I h) fun v s0 h0 => thn h0 fun itv s1 h1 => ?_)
  obtain ⟨it, fp, tn, J, H1, e, I1, T, st1, f1, h1⟩ := h1
  subst e
  -- the new list
  refine wpAny_newObj_type ?_
  have I2 := I1.lnew (ys := []) (its := []) (t' := s1.toks) .nil (by simp)
  obtain ⟨W, ⟨m0, w0⟩, turn⟩ := h1 s1.heap.objs.size I1.fresh
  generalize hs2 : ({ s1 with heap := s1.heap.push { cls := .type "list", data := .seq ([] : List Value).toArray }, toks := s1.toks } : Shared) = s2 at I2
  have es2 : s2.heap = s1.heap.push { cls := .type "list", data := .seq ([] : List Value).toArray } := by rw [← hs2]
  have hD : s1.heap.objs.size < s2.heap.objs.size := by rw [es2, Heap.size_push]; exact Nat.lt_succ_self _
  generalize hH2 : upd H1 s1.heap.objs.size (.lst []) = H2 at I2 w0
  have k12 : ∀ b o, s1.heap.get? b = some o → s2.heap.get? b = some o := fun b o e => by rw [es2]; exact Heap.get?_push_of_some _ e
  have st2 : tn 0 s2.heap := T.keep _ _ _ st1 fun b hb o e => k12 b o e
  have fplt : ∀ b ∈ fp, b < s1.heap.objs.size := fun b hb => by obtain ⟨o, e, _⟩ := T.obj _ _ st1 b hb; exact Heap.lt_size e
  have f2 : ∀ b ∈ fp, FpOk X pins H2 b := fun b hb => ⟨by rw [← hH2, upd_ne (Nat.ne_of_lt (fplt b hb))]; exact (f1 b hb).1, (f1 b hb).2⟩
  -- the block's frame
  refine wpAny_newFunctionEnv ok.nocell (by intro z hz; simp at hz) (fun h3 hns hsb => ?_) ok.kind
  have k23 : ∀ b o, s2.heap.get? b = some o → h3.get? b = some o := fun b o e => hsb.extBut b o (Nat.ne_of_lt (Heap.lt_size e)) (Heap.get?_push_of_some _ e)
  generalize hs3 : ({ s2 with heap := h3, toks := s2.toks + ([] : List (Str × Value)).length } : Shared) = s3
  have es3 : s3.heap = h3 := by rw [← hs3]
  have os3 : s3.os = s2.os := by rw [← hs3]
  have gs3 : s3.gens = s2.gens := by rw [← hs3]
  have hX : (cxComp X s2 H2 fp sc cl (x :: ys)).Ok := by
    refine ⟨I2.mod, ok.kind, I2.ok.glob, I2.ok.blt, Nat.le_refl _, fun a b c e1 e2 => I2.ok.inj a b c (ok.same a c e1) (ok.same b c e2), fun z hz => ?_, fun z c q _ => absurd (show false = true from q) (by simp), I2.ok.hd, I2.ok.frames, .inl rfl,
      fun b hb => ?_, I2.bs, ?_, fun b o e hb => ?_, fun b hb hf => ?_, I2.stack, I2.stkFree⟩
    · have hz : (relabel sc X.env).names.lookup z = some .cell ∨ (relabel sc X.env).names.lookup z = some .free := hz
      have go : ∀ k, (relabel sc X.env).names.lookup z = some k → (k == .cell || k == .free) = true → ∃ c, cl.lookup z = some c := fun k hk hb => by
        have q := List.all_eq_true.mp ok.has (z, k) (PySem.mem_of_lookup hk)
        rw [hb] at q
        exact Option.isSome_iff_exists.mp q
      rcases hz with hz | hz
      · exact go _ hz rfl
      · exact go _ hz rfl
    · refine ⟨?_, fun z c e => (f2 b hb).2.2.2.2.1 z c (ok.same z c e)⟩
      show b ≠ s2.heap.objs.size
      exact Nat.ne_of_lt (Nat.lt_trans (fplt b hb) hD)
    · show X.base.objs.size ≤ s2.heap.objs.size
      exact Nat.le_trans I2.ok.bsz I2.sz
    · rcases (f2 b hb).2.2.2.1 with z | z
      · exact I2.ok.noex b o e z
      · exact absurd (Nat.lt_of_lt_of_le (Heap.lt_size e) (Nat.le_trans I2.ok.bsz z)) (Nat.lt_irrefl _)
    · rcases List.mem_cons.mp (I2.stkSub b hf) with z | z
      · exact (f2 b hb).2.1 z
      · exact (f2 b hb).2.2.1 z
  have hlt2 : ∀ z c, X.env.cells.lookup z = some c → c < s2.heap.objs.size := fun z c e => by obtain ⟨v, q⟩ := I2.cell z c e; exact q.lt
  have I3 : ∀ o : Option V, Inv (cxComp X s2 H2 fp sc cl (x :: ys)) [] (none :: capt js σ) H2 s3 := fun _ => by
    refine ⟨hX, os3, by rw [gs3]; exact I2.bare, Un.kept (by rw [es3]; exact k23), ⟨_, by rw [es3]; exact hns, fun i y v e1 e2 e3 => ?_⟩, fun z c e => ?_, I2.hok.fresh (Nat.le_refl _), fun z c e => ?_, fun p hp => absurd (show p ∈ ([] : List (Addr × Obj)) from hp) (by simp), by rw [es3]; exact I2.hok.kept k23, ?_⟩
    · cases i with
      | zero => simp at e2
      | succ i =>
        have e1 : ys[i]? = some y := by simpa [cxComp] using e1
        obtain ⟨j, hj, hN, hk, hk2⟩ := ok.cap i y e1
        have e2 : (capt js σ)[i]? = some (some v) := by simpa using e2
        unfold capt at e2
        rw [List.getElem?_map, hj] at e2
        have e2' : (σ[j]?).join = some v := by simpa using e2
        have e4 : σ[j]? = some (some v) := by
          cases q : σ[j]? with
          | none => rw [q] at e2'; cases e2'
          | some w => rw [q] at e2'; simp at e2'; rw [e2']
        obtain ⟨m, hn, hl⟩ := I2.loc
        obtain ⟨u, r, l⟩ := hl j y v hN e4 (.inr (.inl hk))
        refine ⟨u, r, ?_⟩
        rcases l with ⟨k, _⟩ | ⟨_, c, hc, z⟩
        · exact absurd ((show X.env.scope.names.lookup y = some .local from k).symm.trans hk) (by simp)
        · have q := List.all_eq_true.mp ok.has (y, .cell) (PySem.mem_of_lookup hk2)
          obtain ⟨c', hc'⟩ : ∃ c', cl.lookup y = some c' := Option.isSome_iff_exists.mp (by simpa using q)
          have e5 := ok.same y c' hc'
          rw [hc] at e5
          cases e5
          refine .inr ⟨.inl hk2, c, hc', ?_⟩
          rw [es3]
          exact z.keeps k23
    · obtain ⟨v, q⟩ := I2.cell z c (ok.same z c e)
      exact ⟨v, by rw [es3]; exact q.keeps k23⟩
    · rcases I2.freeC z c (ok.same z c e) with q | ⟨_, ob, q⟩
      · exact .inl q
      · exact .inr ⟨rfl, ob, q⟩
    · show _ = (x :: ys).length
      unfold capt
      simp; exact ok.len.symm
  -- the loop
  have stat : ∀ {H' : Hp}, (∀ b ∈ fp, H' b = none) → ∀ b ∈ fp, FpOk (cxComp X s2 H2 fp sc cl (x :: ys)) [] H' b := fun {H'} hn b hb => by
    refine ⟨hn b hb, Nat.ne_of_lt (Nat.lt_trans (fplt b hb) hD), fun hf => ?_, .inl hb, fun z c e => (f2 b hb).2.2.2.2.1 z c (ok.same z c e), fun p hp => absurd (show p ∈ ([] : List (Addr × Obj)) from hp) (by simp)⟩
    rcases List.mem_cons.mp (I2.stkSub b hf) with z | z
    · exact (f2 b hb).2.1 z
    · exact (f2 b hb).2.2.1 z
  have loop : codeAny (model X.prog X.w) X.A (.compLoop (.ListComp elt [⟨.Name x px, iter, ifs, 0⟩] sc pos) 0 (.ref it) (.ref s1.heap.objs.size) (compEnvC sc cl s2.heap.objs.size X.env)) (compPost (model X.prog X.w) X.A X.xe use QQ (.ref s1.heap.objs.size) s2.heap.objs.size) s3 := by
    refine codeAny_compLoop_tests (fun n s' => ∃ i o zs H', Inv (cxComp X s2 H2 fp sc cl (x :: ys)) [] (o :: capt js σ) H' s' ∧ tn i s'.heap ∧ (∀ b ∈ fp, H' b = none) ∧ W i n zs H') ?_ m0 ⟨0, none, [], H2, I3 none, T.keep _ _ _ st2 fun b hb o e => by rw [es3]; exact k23 b o e, fun b hb => (f2 b hb).1, w0⟩
    rintro n s4 ⟨i, o, zs, H4, I4, st4, fr4, w4⟩
    rcases turn i n zs H4 w4 with ⟨stop, qn⟩ | ⟨go, step⟩
    · refine wpAny_mono (T.done (cxComp X s2 H2 fp sc cl (x :: ys)) rfl rfl rfl ok.calm i [] s4 _ H4 (fun _ _ => False) I4 (stat fr4) st4 stop) (fun r s5 ⟨hr, I5⟩ => ?_) fun _ _ e => e.elim
      subst hr
      have I6 : Inv X pins σ H4 s5 := I2.call' (ch := fp) I5.os I5.base I5.hok I5.bare fun b hb => ⟨(f2 b hb).2.2.2.1, (f2 b hb).2.1, (f2 b hb).2.2.2.2.1, (f2 b hb).2.2.2.2.2⟩
      obtain ⟨m, hn, _⟩ := I5.loc
      exact fin _ _ H4 s5 I6 qn (I2.fpOk (Nat.le_refl _) I5.free) ⟨m, hn⟩
    · refine wpAny_mono (T.item (cxComp X s2 H2 fp sc cl (x :: ys)) rfl rfl rfl ok.calm i [] s4 _ H4 (fun _ _ => False) I4 (stat fr4) st4 go) (fun r s5 ⟨u, hr, h5⟩ => ?_) fun _ _ e => e.elim
      subst hr
      -- the store
      have asg : ∀ (Q2 : Unit → Shared → Prop), (∀ s6 v H6, Inv (cxComp X s2 H2 fp sc cl (x :: ys)) ([] ++ pinsAt fp s6.heap) (some v :: capt js σ) H6 s6 → J.yld i H4 v H6 → tn (i + 1) s6.heap → (∀ b ∈ fp, H6 b = none) → Q2 () s6) →
          wpAny (model X.prog X.w) X.A (assign (.Name x px) (compEnvC sc cl s2.heap.objs.size X.env) u) Q2 (fun _ _ => False) s5 := fun Q2 hQ2 => by
        have z : wpAny (model X.prog X.w) X.A (letOwnedTupleGo (.Name x px) (.ref it) u >>= fun _ => assign (.Name x px) (compEnvC sc cl s2.heap.objs.size X.env) u) Q2 (fun _ _ => False) s5 := by
          refine wpAny_bind (wpAny_mono h5 (fun _ s6 ⟨v, H6, I6, r6, y6, st6, fr6⟩ => ?_) fun _ _ e => e)
          have I6' := I6.pinned (stat fr6) (T.obj _ _ st6)
          refine wpAny_assign_Name (store_ok (X := cxComp X s2 H2 fp sc cl (x :: ys)) (i := 0) I6' ok.nd rfl (.inl (lookup_relabel_local ok.own)) r6 (fun s7 I7 => ?_) (.inr (lookup_relabel_local ok.own)))
          have e7 : ∀ b ∈ fp, ∀ o, s6.heap.get? b = some o → s7.heap.get? b = some o := fun b hb o e => (I7.pin (b, o) (List.mem_append_right _ (List.mem_append_right _ (mem_pinsAt hb e)))).1
          have st7 : tn (i + 1) s7.heap := T.keep _ _ _ st6 e7
          refine hQ2 s7 v H6 ?_ y6 st7 fr6
          have I8 := I7.unpinned
          exact I8.pinned (stat fr6) (T.obj _ _ st7)
        have e : letOwnedTupleGo (.Name x px) (.ref it) u = pure () := rfl
        rw [e, pure_bind] at z
        exact z
      refine wpAny_mono (asg _ fun s6 v H6 I6 y6 st6 fr6 => ?_) (fun _ _ q => q) fun _ _ e => e.elim
      have keepI : ∀ {H7 : Hp} {s7 : Shared} {σ7 : St}, Inv (cxComp X s2 H2 fp sc cl (x :: ys)) ([] ++ pinsAt fp s6.heap) σ7 H7 s7 → tn (i + 1) s7.heap ∧ ∀ b ∈ fp, H7 b = none := fun {H7 s7 σ7} I7 =>
        ⟨T.keep _ _ _ st6 fun b hb o e => (I7.pin (b, o) (List.mem_append_right _ (List.mem_append_right _ (mem_pinsAt hb e)))).1, fun b hb => by
          obtain ⟨o, e, d⟩ := T.obj _ _ st6 b hb
          exact (I7.pin (b, o) (List.mem_append_right _ (List.mem_append_right _ (mem_pinsAt hb e)))).2.1⟩
      refine wpAny_mono (ht s2 H2 fp _ s6 _ H6 _ (fun _ _ => False) rfl I6 (step v H6 y6)) (fun b s7 ⟨H7, I7, q7⟩ => ?_) fun _ _ e => e.elim
      cases b with
      | false =>
        rw [if_neg Bool.false_ne_true] at q7 ⊢
        obtain ⟨m', hm, w7⟩ := q7
        obtain ⟨st7, fr7⟩ := keepI I7
        exact ⟨m', hm, i + 1, some v, zs, H7, I7.unpinned, st7, fr7, w7⟩
      | true =>
        rw [if_pos rfl] at q7 ⊢
        refine wpAny_mono (he s2 H2 fp _ s7 _ H7 _ I7 q7) (fun y s8 ⟨yv, H8, I8, r8, hD8, hz8, m', hm, w8⟩ => ?_) fun _ _ (e : False) => e.elim
        refine wpAny_mono (mt_append (X := cxComp X s2 H2 fp sc cl (x :: ys)) _ s8 _ H8 (.ref s1.heap.objs.size) [yv] (.ref s1.heap.objs.size) [y] (fun v H9 => H9 = upd H8 s1.heap.objs.size (.lst (zs ++ [yv]))) I8 rfl (.cons r8 .nil) ⟨_, zs, yv, rfl, rfl, hD8, hz8, rfl⟩)
          (fun _ s9 ⟨_, H9, I9, _, e9⟩ => ?_) fun _ _ (e : False) => e.elim
        subst e9
        obtain ⟨st9, fr9⟩ := keepI I9
        exact ⟨m', hm, i + 1, some v, zs ++ [yv], _, I9.unpinned, st9, fr9, w8⟩
  have self3 : tn 0 s3.heap := T.keep _ _ _ st2 fun b hb o e => by rw [es3]; exact k23 b o e
  exact codeAny_compStart_list loop (T.self X.A 0 _ _ _ self3 loop)
theorem pe_comp {X : Cx} {x : Str} {px : Pos} {ys : List Str} {js : List Nat} {sc : Scope} {cl : List (Str × Addr)} {elt iter : Expr} {ifs : List Expr} {pos : Pos} {wi : TI} {tt : TT} {te : TE} (ok : CompOk X x ys js sc cl) (hi : PI X (.Name x px) iter wi)
    (ht : ∀ s₂ H₂ fp, PTs (cxComp X s₂ H₂ fp sc cl (x :: ys)) ifs tt) (he : ∀ s₂ H₂ fp, PE (cxComp X s₂ H₂ fp sc cl (x :: ys)) elt te) (hs : ∀ x, foldedSetIterable iter X.env x = pure x := by intro _; rfl) :
    PE X (.ListComp elt [⟨.Name x px, iter, ifs, 0⟩] sc pos) (tComp wi js tt te) := by
  intro pins s σ H Q I h
  rw [eval_ListComp]
  refine comp_core (use := none) ok hi ht he I h (fun D C H' s' I' q fc ⟨m, hn⟩ => ⟨m, hn, fun h' hs' => ?_⟩) hs
  obtain ⟨f0, f1, f2, f3, f4, f5⟩ := fc
  exact ⟨.ref D, H', I'.turned (t' := s'.toks) (fun b o hb e => (hs'.2 b hb).trans e) f0 f1 f3 f4 f5, rfl, q⟩
theorem ps_setComp {X : Cx} {x z : Str} {px pz : Pos} {iz : Nat} {ys : List Str} {js : List Nat} {sc : Scope} {cl : List (Str × Addr)} {elt iter : Expr} {ifs : List Expr} {pos spos : Pos} {wi : TI} {tt : TT} {te : TE} (ok : CompOk X x ys js sc cl) (hi : PI X (.Name x px) iter wi)
    (ht : ∀ s₂ H₂ fp, PTs (cxComp X s₂ H₂ fp sc cl (x :: ys)) ifs tt) (he : ∀ s₂ H₂ fp, PE (cxComp X s₂ H₂ fp sc cl (x :: ys)) elt te)
    (hN : X.N.Nodup) (hiz : X.N[iz]? = some z) (hz : Loc X.env.scope z) (hf : X.fn z = true ∨ X.env.scope.names.lookup z = some .local)
    (hsw : swapsWith (.ListComp elt [⟨.Name x px, iter, ifs, 0⟩] sc pos) (some (.Name z pz)) spos.line X.env = pure true) (hs : ∀ x, foldedSetIterable iter X.env x = pure x := by intro _; rfl) :
    PS X (.Assign [.Name z pz] (.ListComp elt [⟨.Name x px, iter, ifs, 0⟩] sc pos) spos) (tAsg (tComp wi js tt te) (gName iz)) := by
  intro pins s σ H D I h
  rw [exec_Assign_Name_used _ _ _ _ hsw]
  refine wpAny_bind (wpAny_standAt (wpAny_bind ?_))
  show wpAny _ X.A (do let _ ← comprehension (.ListComp elt [⟨.Name x px, iter, ifs, 0⟩] sc pos) sc X.env _ (newList []) false (eval iter X.env) (some (assign (.Name z pz) X.env))) _ _ s
  refine wpAny_bind (wpAny_mono (comp_core (use := some (assign (.Name z pz) X.env)) (QQ := fun _ s' => SP X pins D .next s') ok hi ht he I h (fun d C H' s' I' q fc ⟨m, hn⟩ => ?_) hs) (fun _ s' hq => wpAny_pure (wpAny_pure hq)) fun _ _ e => e)
  obtain ⟨f0, f1, f2, f3, f4, f5⟩ := fc
  show wpAny _ _ (assign (.Name z pz) X.env (.ref d)) _ _ s'
  refine wpAny_assign_Name (store_ok2 I' hN hiz hz (v := .ref d) rfl (fun s2 I2 ⟨a, hsb, ha⟩ => ?_) hf)
  have hCa : C ≠ a := by
    rcases ha with rfl | ha
    · exact f1
    · exact fun e => f4 z a ha e.symm
  refine ⟨m, hn.sameBut hsb hCa, fun h' hs' => ⟨_, H', I2.turned (t' := s2.toks) (fun b o hb e => (hs'.2 b hb).trans e) f0 f1 f3 f4 f5, q⟩⟩
end L2
namespace L2
open PySem PySem.Spec PyProof.Rows
inductive Tm where
  | int (i : Int) | str (x : Str) | nd (m : Str) (a b : Tm)
def Tm.dep : Tm → Nat
  | .nd _ a b => max a.dep b.dep + 1
  | _ => 0
inductive Sl where
  | plain | turned | num (d : Addr)
def Sl.d : Sl → Option Addr
  | .num d => some d
  | _ => none
def isT (S : Sl) (H : Hp) : Tm → V → Prop
  | .int i, v => v = .int i
  | .str x, v => v = .str x
  | .nd m a b, v => match S with
    | .plain => ∃ p va vb, v = .ref p ∧ H p = some (.tup [.str m, va, vb]) ∧ isT S H a va ∧ isT S H b vb
    | .turned => ∃ p va vb, v = .ref p ∧ H p = some (.tup [.str "seal of", vb, va, .str m]) ∧ isT S H a va ∧ isT S H b vb
    | .num d => ∃ kvs ka kb n, H d = some (.dT kvs) ∧ isT S H a (kV ka) ∧ isT S H b (kV kb) ∧ valV kvs [.inr m, ka, kb] = some (.int n) ∧ v = .int n
def imm : HO → Bool
  | .tup _ => true
  | .frz _ _ => true
  | .rng _ _ => true
  | _ => false
def Ints (l : List (List Key × V)) : Prop := ∀ (j : Nat) p, l[j]? = some p → p.2 = V.int (j : Nat)
theorem Ints.nil : Ints [] := fun j p h => by simp at h
theorem Ints.snoc {l : List (List Key × V)} (x : Ints l) (k : List Key) : Ints (l ++ [(k, V.int l.length)]) := fun j p h => by
  by_cases hj : j < l.length
  · rw [List.getElem?_append_left hj] at h; exact x j p h
  · rw [List.getElem?_append_right (by omega)] at h
    have e : j - l.length = 0 := by
      cases q : j - l.length with
      | zero => rfl
      | succ m => rw [q] at h; simp at h
    rw [e] at h
    simp at h
    rw [← h, show j = l.length by omega]
theorem valV_place {l : List (List Key × V)} {k : List Key} {v : V} (h : valV l k = some v) : ∃ (j : Nat) (p : List Key × V), l[j]? = some p ∧ p.1 = k ∧ p.2 = v := by
  induction l with
  | nil => cases h
  | cons p r ih =>
    by_cases e : p.1 = k
    · rw [valV_pos e] at h; exact ⟨0, p, rfl, e, Option.some.inj h⟩
    · rw [valV_neg e] at h
      obtain ⟨j, q, e1, e2, e3⟩ := ih h
      exact ⟨j + 1, q, by simpa using e1, e2, e3⟩
theorem Ints.val {l : List (List Key × V)} (x : Ints l) {k : List Key} {v : V} (h : valV l k = some v) : ∃ i, v = V.int i := by
  obtain ⟨j, p, e1, _, e3⟩ := valV_place h
  exact ⟨_, e3.symm.trans (x j p e1)⟩
structure Gn (S : Sl) (n : Nat) (H H' : Hp) : Prop where
  keep : ∀ b o, H b = some o → imm o = true → H' b = some o
  told : ∀ d, S.d = some d → ∃ kvs more, H d = some (.dT kvs) ∧ H' d = some (.dT (kvs ++ more)) ∧ more.length ≤ n ∧ (Ints kvs → Ints (kvs ++ more))
structure Gr (S : Sl) (n : Nat) (H H' : Hp) : Prop where
  gn : Gn S n H H'
  all : ∀ b o, H b = some o → S.d ≠ some b → H' b = some o
def Told (S : Sl) (H : Hp) : Prop := ∀ d, S.d = some d → ∃ kvs, H d = some (.dT kvs)
theorem Gn.told2 {S : Sl} {n : Nat} {H H' : Hp} (g : Gn S n H H') : Told S H' := fun d e => by obtain ⟨kvs, more, _, h, _, _⟩ := g.told d e; exact ⟨_, h⟩
theorem Gn.refl {S : Sl} {H : Hp} (t : Told S H) : Gn S 0 H H := ⟨fun _ _ h _ => h, fun d e => by obtain ⟨kvs, h⟩ := t d e; exact ⟨kvs, [], h, by simpa using h, Nat.le_refl _, fun z => by simpa using z⟩⟩
theorem Gr.refl {S : Sl} {H : Hp} (t : Told S H) : Gr S 0 H H := ⟨.refl t, fun _ _ h _ => h⟩
theorem Gn.trans {S : Sl} {a b : Nat} {H H1 H2 : Hp} (g : Gn S a H H1) (g2 : Gn S b H1 H2) : Gn S (a + b) H H2 :=
  ⟨fun c o h i => g2.keep c o (g.keep c o h i) i, fun d e => by
    obtain ⟨kvs, more, h1, h2, h3, h4⟩ := g.told d e
    obtain ⟨kvs', more', h1', h2', h3', h4'⟩ := g2.told d e
    rw [h2] at h1'; cases h1'
    exact ⟨kvs, more ++ more', h1, by rw [h2', List.append_assoc], by rw [List.length_append]; omega, fun z => by rw [← List.append_assoc]; exact h4' (h4 z)⟩⟩
theorem Gr.trans {S : Sl} {a b : Nat} {H H1 H2 : Hp} (g : Gr S a H H1) (g2 : Gr S b H1 H2) : Gr S (a + b) H H2 := ⟨g.gn.trans g2.gn, fun c o h n => g2.all c o (g.all c o h n) n⟩
theorem Gn.up {S : Sl} {a b : Nat} {H H1 : Hp} (g : Gn S a H H1) (h : a ≤ b) : Gn S b H H1 := ⟨g.keep, fun d e => by obtain ⟨k, m, h1, h2, h3, h4⟩ := g.told d e; exact ⟨k, m, h1, h2, Nat.le_trans h3 h, h4⟩⟩
theorem Gr.up {S : Sl} {a b : Nat} {H H1 : Hp} (g : Gr S a H H1) (h : a ≤ b) : Gr S b H H1 := ⟨g.gn.up h, g.all⟩
theorem Gr.new {S : Sl} {H : Hp} {p : Addr} {o : HO} (t : Told S H) (h : H p = none) : Gr S 0 H (upd H p o) :=
  ⟨⟨fun b u q _ => by rw [upd_ne (ne_of_none q h)]; exact q, fun d e => by
    obtain ⟨kvs, q⟩ := t d e
    exact ⟨kvs, [], q, by rw [upd_ne (ne_of_none q h)]; simpa using q, Nat.le_refl _, fun z => by simpa using z⟩⟩, fun b u q _ => by rw [upd_ne (ne_of_none q h)]; exact q⟩
theorem Gn.chg {S : Sl} {H : Hp} {p : Addr} {o o' : HO} (t : Told S H) (h : H p = some o) (hi : imm o = false) (hd : ∀ kvs, o ≠ .dT kvs) : Gn S 0 H (upd H p o') :=
  ⟨fun b u q i => by
    rw [upd_ne (by rintro rfl; rw [h] at q; cases q; rw [hi] at i; cases i)]; exact q, fun d e => by
    obtain ⟨kvs, q⟩ := t d e
    exact ⟨kvs, [], q, by rw [upd_ne (by rintro rfl; rw [h] at q; exact hd _ (Option.some.inj q))]; simpa using q, Nat.le_refl _, fun z => by simpa using z⟩⟩
theorem Gr.own {S : Sl} {n : Nat} {H H' : Hp} {p : Addr} {o : HO} (g : Gr S n H H') (h : H p = none) : Gr S n H (upd H' p o) :=
  ⟨⟨fun b u q i => by rw [upd_ne (ne_of_none q h)]; exact g.gn.keep b u q i, fun d e => by
    obtain ⟨kvs, more, h1, h2, h3, h4⟩ := g.gn.told d e
    exact ⟨kvs, more, h1, by rw [upd_ne (ne_of_none h1 h)]; exact h2, h3, h4⟩⟩, fun b u q hd => by rw [upd_ne (ne_of_none q h)]; exact g.all b u q hd⟩
theorem Gr.free {S : Sl} {n : Nat} {H H' : Hp} (g : Gr S n H H') {p : Addr} (h : H' p = none) : H p = none := by
  cases q : H p with
  | none => rfl
  | some o =>
    by_cases hd : S.d = some p
    · obtain ⟨kvs, more, h1, h2, _, _⟩ := g.gn.told p hd
      rw [h2] at h; cases h
    · rw [g.all p o q hd] at h; cases h
theorem Gr.lst {S : Sl} {n : Nat} {H H' : Hp} (g : Gr S n H H') {p : Addr} {xs : List V} (h : H p = some (.lst xs)) : H' p = some (.lst xs) := g.all p _ h fun e => by
  obtain ⟨kvs, more, h1, _, _, _⟩ := g.gn.told p e
  rw [h] at h1; cases h1
theorem Gr.same {S : Sl} {n : Nat} {H H' : Hp} (g : Gr S n H H') {p : Addr} {o : HO} (h : H p = some o) (hd : ∀ kvs, o ≠ .dT kvs) : H' p = some o := g.all p _ h fun e => by
  obtain ⟨kvs, more, h1, _, _, _⟩ := g.gn.told p e
  rw [h] at h1; exact hd _ (Option.some.inj h1)
theorem Gr.sq {S : Sl} {n : Nat} {H H' : Hp} (g : Gr S n H H') {K : PySem.W.Frag} {p : Addr} {xs : List V} (h : SqL K H p xs) : SqL K H' p xs := by
  rcases h with (h | ⟨o, h⟩) | h
  · exact .inl (.inl (g.lst h))
  · exact .inl (.inr ⟨o, g.same h (fun _ e => nomatch e)⟩)
  · exact .inr h
theorem valV_app {κ : Type} [DecidableEq κ] {kvs more : List (κ × V)} {k : κ} {v : V} (h : valV kvs k = some v) : valV (kvs ++ more) k = some v := by
  induction kvs with
  | nil => cases h
  | cons p r ih =>
    rw [List.cons_append]
    by_cases e : p.1 = k
    · rw [valV_pos e] at h ⊢; exact h
    · rw [valV_neg e] at h ⊢; exact ih h
theorem isT_up {S : Sl} {n : Nat} {H H' : Hp} (g : Gn S n H H') : ∀ {t : Tm} {v : V}, isT S H t v → isT S H' t v
  | .int _, _, h => h
  | .str _, _, h => h
  | .nd m a b, v, h => by
    cases S with
    | plain => obtain ⟨p, va, vb, e, hp, ha, hb⟩ := h; exact ⟨p, va, vb, e, g.keep _ _ hp rfl, isT_up g ha, isT_up g hb⟩
    | turned => obtain ⟨p, va, vb, e, hp, ha, hb⟩ := h; exact ⟨p, va, vb, e, g.keep _ _ hp rfl, isT_up g ha, isT_up g hb⟩
    | num d =>
      obtain ⟨kvs, ka, kb, n, hd, ha, hb, hv, e⟩ := h
      obtain ⟨kvs', more, h1, h2, _, _⟩ := g.told d rfl
      rw [hd] at h1; cases h1
      exact ⟨_, ka, kb, n, h2, isT_up g ha, isT_up g hb, valV_app hv, e⟩
theorem Paired.imp2 {α β : Type} {F G : α → β → Prop} (f : ∀ a b, F a b → G a b) : ∀ {l₁ : List α} {l₂ : List β}, Paired F l₁ l₂ → Paired G l₁ l₂
  | _, _, .nil => .nil
  | _, _, .cons r t => .cons (f _ _ r) (Paired.imp2 f t)
theorem pr_len {α β : Type} {F : α → β → Prop} : ∀ {l₁ : List α} {l₂ : List β}, Paired F l₁ l₂ → l₁.length = l₂.length
  | _, _, .nil => rfl
  | _, _, .cons _ t => by simp [pr_len t]
theorem pr_app {α β : Type} {F : α → β → Prop} : ∀ {l₁ l₂ : List α} {m₁ m₂ : List β}, Paired F l₁ m₁ → Paired F l₂ m₂ → Paired F (l₁ ++ l₂) (m₁ ++ m₂)
  | _, _, _, _, .nil, s => s
  | _, _, _, _, .cons r t, s => .cons r (pr_app t s)
theorem pr_get {α β : Type} {F : α → β → Prop} : ∀ {l₁ : List α} {l₂ : List β} {i : Nat} {a : α} {b : β}, Paired F l₁ l₂ → l₁[i]? = some a → l₂[i]? = some b → F a b
  | _, _, 0, _, _, .cons r _, h1, h2 => by simp at h1 h2; subst h1 h2; exact r
  | _, _, i + 1, _, _, .cons _ t, h1, h2 => pr_get (i := i) t (by simpa using h1) (by simpa using h2)
theorem isT_fun {d : Addr} {H : Hp} : ∀ {t : Tm} {v v' : V}, isT (.num d) H t v → isT (.num d) H t v' → v = v'
  | .int _, _, _, h, h' => (show _ = _ from h).trans (show _ = _ from h').symm
  | .str _, _, _, h, h' => (show _ = _ from h).trans (show _ = _ from h').symm
  | .nd m a b, v, v', h, h' => by
    obtain ⟨kvs, ka, kb, n, hd, ha, hb, hv, e⟩ := h
    obtain ⟨kvs', ka', kb', n', hd', ha', hb', hv', e'⟩ := h'
    rw [hd] at hd'; cases hd'
    have e1 := kV_inj (isT_fun ha ha')
    have e2 := kV_inj (isT_fun hb hb')
    subst e1 e2
    rw [hv] at hv'; cases hv'
    rw [e, e']
theorem isT_key {d : Addr} {H : Hp} : ∀ {t : Tm} {v : V}, isT (.num d) H t v → ∃ k, v = kV k
  | .int i, _, h => ⟨.inl i, h⟩
  | .str x, _, h => ⟨.inr x, h⟩
  | .nd m a b, v, h => by
    obtain ⟨kvs, ka, kb, n, hd, ha, hb, hv, e⟩ := h
    exact ⟨.inl n, e⟩
theorem flat_key (k : Key) : flatV (kV k) = true := by cases k <;> rfl
theorem isT_eq {S : Sl} {H : Hp} : ∀ {t : Tm} {v v' : V}, isT S H t v → isT S H t v' → EqV H t.dep v v'
  | .int _, _, _, h, h' => by cases (show _ = _ from h); cases (show _ = _ from h'); exact EqV.flat rfl _
  | .str _, _, _, h, h' => by cases (show _ = _ from h); cases (show _ = _ from h'); exact EqV.flat rfl _
  | .nd m a b, v, v', h, h' => by
    cases S with
    | num d =>
      have e := isT_fun h h'
      subst e
      obtain ⟨k, rfl⟩ := isT_key h
      exact EqV.flat (flat_key k) _
    | plain =>
      obtain ⟨p, va, vb, rfl, hp, ha, hb⟩ := h
      obtain ⟨p', va', vb', rfl, hp', ha', hb'⟩ := h'
      refine .inr ⟨p, p', _, _, rfl, rfl, hp, hp', rfl, fun i u v h1 h2 => ?_⟩
      match i, h1, h2 with
      | 0, h1, h2 => simp at h1 h2; subst h1 h2; exact EqV.flat rfl _
      | 1, h1, h2 => simp at h1 h2; subst h1 h2; exact EqV.up (Nat.le_max_left _ _) (isT_eq ha ha')
      | 2, h1, h2 => simp at h1 h2; subst h1 h2; exact EqV.up (Nat.le_max_right _ _) (isT_eq hb hb')
      | i + 3, h1, h2 => simp at h1
    | turned =>
      obtain ⟨p, va, vb, rfl, hp, ha, hb⟩ := h
      obtain ⟨p', va', vb', rfl, hp', ha', hb'⟩ := h'
      refine .inr ⟨p, p', _, _, rfl, rfl, hp, hp', rfl, fun i u v h1 h2 => ?_⟩
      match i, h1, h2 with
      | 0, h1, h2 => simp at h1 h2; subst h1 h2; exact EqV.flat rfl _
      | 1, h1, h2 => simp at h1 h2; subst h1 h2; exact EqV.up (Nat.le_max_right _ _) (isT_eq hb hb')
      | 2, h1, h2 => simp at h1 h2; subst h1 h2; exact EqV.up (Nat.le_max_left _ _) (isT_eq ha ha')
      | 3, h1, h2 => simp at h1 h2; subst h1 h2; exact EqV.flat rfl _
      | i + 4, h1, h2 => simp at h1
def Cap (S : Sl) (H : Hp) (n : Nat) : Prop := ∀ d kvs, S.d = some d → H d = some (.dT kvs) → kvs.length + n ≤ 10000000
theorem Cap.dn {S : Sl} {H : Hp} {a b : Nat} (c : Cap S H a) (h : b ≤ a) : Cap S H b := fun d kvs e q => Nat.le_trans (Nat.add_le_add_left h _) (c d kvs e q)
theorem Cap.go {S : Sl} {H H' : Hp} {a b n : Nat} (c : Cap S H n) (g : Gn S a H H') (h : a + b ≤ n) : Cap S H' b := fun d kvs e q => by
  obtain ⟨k, m, h1, h2, h3, _⟩ := g.told d e
  rw [h2] at q; cases q
  have := c d k e h1
  rw [List.length_append]; omega
abbrev nlT : Tm := .nd "none" (.int 0) (.int 0)
end L2
namespace L2
open PySem PySem.Spec PyProof.Rows
def FunAt (K : PySem.W.Frag) (mg : Str → Option Value) (x : Str) (st : Stmt) : Prop := ∃ f fd, mg x = some (.ref f) ∧ Fun K x x st f fd
theorem funAt_mk {K : PySem.W.Frag} {mg : Str → Option Value} {h : Heap} {x : Str} {st : Stmt} (X : K.In h) (G : h.Ns mainGlobals mg) {f : Addr} {oc : Value} {od an : Option Addr} {osl : Array (Option Value)} {kV doc pm cdv ct : Value}
    (a : PySem.W.nsIn K mainGlobals x = some (some (.ref f))) (l : K.lookup f = some ⟨oc, od, .func (PySem.W.fnOf x x (defArgs st) (defBody st) (defScope st) .none kV doc pm an cdv ct), osl⟩)
    (c : PySem.W.codeIn K cdv x = true) (k : PySem.W.keepIn K (.ref f) = true) : FunAt K mg x st := ⟨f, _, PySem.W.mg_of X G a, fun_mk l c k⟩
def FnP (P : Program) (w : World) (K : PySem.W.Frag) (mg : Str → Option Value) (base : Heap) (k : Nat) (x : Str) (ps : List Str) (sp : Sp) : Prop :=
  ∃ f fd, mg x = some (.ref f) ∧ PySem.W.keepIn K (.ref f) = true ∧ Binds K fd ps [] ∧ FnOk P w K mg base CX0 k f fd ps sp ∧ ∃ oc od sl, K.lookup f = some ⟨oc, od, .func fd, sl⟩
section
variable {P : Program} {w : World} {K : PySem.W.Frag} {mg : Str → Option Value} {base : Heap}
theorem FunAt.ok {x : Str} {st : Stmt} {N ps : List Str} {k : Nat} {sp : Sp} (F : FunAt K mg x st) (S : FnScope N ps (defScope st))
    (hb : ∀ (kV doc pm : Value) (an : Option Addr) (cdv ct : Value) (us : List Value), us.length = ps.length → bindArgs (PySem.W.fnOf x x (defArgs st) (defBody st) (defScope st) .none kV doc pm an cdv ct) ⟨us, []⟩ = pure (ps.zip us))
    (len : ∀ vs H Q E, sp vs H Q E → vs.length = ps.length)
    (hbody : ∀ (f : Addr) (cdv : Value) (A : Around) (outer : List Env) (s : Shared) (H : Hp) (vs : List V) (Q : VK) (E : XK), Room k (A.deeper (envOfC x (defScope st) s.heap.objs.size f cdv)) → sp vs H Q E →
      ∃ t, PSs (cxOf CX0 P w K mg base N x (defScope st) f cdv A outer s H E).nox (defBody st) t ∧ t { nx := fun _ H' => Q .non H', rt := Q } (start N vs) H) : FnP P w K mg base (k + 1) x ps sp := by
  obtain ⟨f, fd, h1, F⟩ := F
  refine ⟨f, fd, h1, F.kp, F.binds hb, F.ok S len fun cdv A outer s H vs Q E => hbody f cdv A outer s H vs Q E, ?_⟩
  obtain ⟨oc, od, kV, doc, pm, an, cdv, ct, osl, rfl, lk, hcd⟩ := F.ex
  exact ⟨_, _, _, lk⟩
end
section
variable {X : Cx} {k : Nat} {ps : List Str} {sp : Sp} {x : Str} {p pos : Pos} {e : Expr} {es : List Expr} {t : TA}
theorem pe_callN (F : FnP X.prog X.w X.K X.mg X.base k x ps sp) (hr : Room k X.A) (hg : Gl X x) (ha : PA X (e :: es) t) (hdb : (x == ("__debug__" : Str)) = false := by decide)
    (he : starEach (e :: es) X.env = (false, eval e X.env) :: starEach es X.env := by rfl) (hpl : (backTo pos (starEach es X.env)).any (·.1) = false := by rfl) : PE X (.Call (.Name x p) (e :: es) [] pos) (tCall sp [] E0 t) := by
  obtain ⟨f, fd, h1, h2, h3, h4, _⟩ := F
  exact pe_call h4 hr hg h1 h2 h3 .nil pass0 ha hdb he hpl
theorem pe_callN0 (F : FnP X.prog X.w X.K X.mg X.base k x ps sp) (hr : Room k X.A) (hg : Gl X x) (hdb : (x == ("__debug__" : Str)) = false := by decide) : PE X (.Call (.Name x p) [] [] pos) (tCall sp [] E0 tNil) := by
  obtain ⟨f, fd, h1, h2, h3, h4, _⟩ := F
  exact pe_call0 h4 hr hg h1 h2 h3 .nil pass0 hdb
end
theorem pe_ty {X : Cx} {x : Str} {T : String} {pos : Pos} (hg : Gl X x) (hm : X.mg x = none) (hv : bootBuiltins x = some (.type T)) (hn : x ≠ "__name__" := by decide) (hd : (x == ("__debug__" : Str)) = false := by decide) : PE X (.Name x pos) (tC (.ty T)) :=
  pe_bltn (v := .ty T) hg hm hv rfl hn hd
def SealAt (K : PySem.W.Frag) (mg : Str → Option Value) (st : Stmt) (S : Sl) (H : Hp) (f : Addr) : Prop := match S with
  | .plain => mg "_law_plain" = some (.ref f) ∧ ∃ oc od fd sl, K.lookup f = some ⟨oc, od, .func fd, sl⟩
  | .turned => mg "_law_turned" = some (.ref f) ∧ ∃ oc od fd sl, K.lookup f = some ⟨oc, od, .func fd, sl⟩
  | .num d => ∃ (c c' : Addr) (doc pm ct : Value) (ob co : Obj) (cvs : Array Value) (tk : Tok) (kvs : List (List Key × V)),
      H f = some (.frz (PySem.W.fnMade "_law_numbered" "_law_numbering.<locals>._law_numbered" (defArgs st) (defBody st) (defScope st) [("_law_told", c)] doc pm c' ct) (.own 0)) ∧
      H c' = some (.frz ob (.own 0)) ∧ ob.data = .fields cvs ∧ cvs[1]? = some (.str "_law_numbering.<locals>._law_numbered" tk) ∧ H c = some (.frz co (.own 0)) ∧ co.data = .cell (some (.ref d)) ∧ H d = some (.dT kvs) ∧ Ints kvs
section
variable {K : PySem.W.Frag} {mg : Str → Option Value} {st : Stmt} {S : Sl} {H H' : Hp} {f : Addr}
theorem SealAt.told (h : SealAt K mg st S H f) : Told S H := fun d e => by
  cases S with
  | plain => cases e
  | turned => cases e
  | num d' =>
    obtain rfl : d' = d := Option.some.inj e
    obtain ⟨c, c', doc, pm, ct, ob, co, cvs, tk, kvs, _, _, _, _, _, _, h, _⟩ := h
    exact ⟨kvs, h⟩
theorem SealAt.up {n : Nat} (h : SealAt K mg st S H f) (g : Gn S n H H') : SealAt K mg st S H' f := by
  cases S with
  | plain => exact h
  | turned => exact h
  | num d =>
    obtain ⟨c, c', doc, pm, ct, ob, co, cvs, tk, kvs, h1, h2, h3, h4, h5, h6, h7, h8⟩ := h
    obtain ⟨k, m, e1, e2, _, e4⟩ := g.told d rfl
    rw [h7] at e1; cases e1
    exact ⟨c, c', doc, pm, ct, ob, co, cvs, tk, _, g.keep _ _ h1 rfl, g.keep _ _ h2 rfl, h3, h4, g.keep _ _ h5 rfl, h6, e2, e4 h8⟩
theorem SealAt.fny (h : SealAt K mg st S H f) : Fny K H f := by
  cases S with
  | plain => exact .inl h.2
  | turned => exact .inl h.2
  | num d =>
    obtain ⟨c, c', doc, pm, ct, ob, co, cvs, tk, kvs, h1, _⟩ := h
    exact .inr ⟨_, _, _, _, _, h1⟩
end
def spSeal (K : PySem.W.Frag) (mg : Str → Option Value) (st : Stmt) : Addr → Sp := fun f vs H Q _ => ∃ S m t1 t2 v1 v2, SealAt K mg st S H f ∧ Cap S H 1 ∧ vs = [.str m, v1, v2] ∧ isT S H t1 v1 ∧ isT S H t2 v2 ∧
  ∀ v H', Gr S 1 H H' → isT S H' (.nd m t1 t2) v → Q v H'
def spPlain : Sp := fun vs H Q _ => ∃ m v1 v2, vs = [.str m, v1, v2] ∧ ∀ p, H p = none → Q (.ref p) (upd H p (.tup [.str m, v1, v2]))
def spTurned : Sp := fun vs H Q _ => ∃ m v1 v2, vs = [.str m, v1, v2] ∧ ∀ p, H p = none → Q (.ref p) (upd H p (.tup [.str "seal of", v2, v1, .str m]))
abbrev mot : List Str := ["_law_mark", "_law_one", "_law_two"]
end L2
namespace L2
open PySem PySem.Spec PyProof.Rows
def BmAt (mg : Str → Option Value) (h : Heap) : Prop := ∃ bm ob, mg "__builtins__" = some (.ref bm) ∧ bm ≠ builtinsNs ∧ h.get? bm = some ob ∧ ob.cls = .type "module" ∧ ob.dict = some builtinsNs ∧ ob.data = .plain
theorem law_callT {P : Program} {w : World} {K : PySem.W.Frag} {mg mb : Str → Option Value} {k : Nat} {fa a c0 Pt : Addr} {fd : FuncData} {x : Str} {sp : Sp} {s₁ : Shared} {vs : List Value} {ns : List Int}
    (KX : K.In s₁.heap) (hns : s₁.heap.Ns mainGlobals mg) (hb : s₁.heap.Ns builtinsNs mb) (hbb : ∀ x : Str, x ≠ "__name__" → mb x = bootBuiltins x) (hlim : s₁.heap.NoLimit) (hg : s₁.gens = #[])
    (ha : s₁.heap.get? a = some { cls := .type "list", data := .seq vs.toArray }) (hi : IntsAre vs ns) (hl : ns.length ≤ sizeLine) (hr : Room k callerA)
    (hC : PySem.W.CodeHd s₁.heap c0 Pt) (hT : s₁.heap.get? Pt = some (PySem.W.tabObj #[])) (hnt : PySem.W.noTabs K = true) (hbm : BmAt mg s₁.heap)
    (F : ∀ base : Heap, K.In base → base.Ns mainGlobals mg → PySem.W.CodeHd base c0 Pt → BmAt mg base → FnOk P w K mg base CX0 k fa fd [x] sp) (hbind : ∀ (s : Shared) (u : Value), BindsTo s fd ⟨[u], []⟩ [(x, u)])
    (hsp : ∀ H : Hp, SqL K H a (ns.map V.int) → Scr K H a (ns.map V.int) → H Pt = some (.tbl #[]) → sp [.ref a] H (fun v _ => v = .bl true) fun _ _ _ => False) :
    codeAny (model P w) callerA (.call (.ref fa) ⟨[.ref a], []⟩) (fun r s' => r = .ok (.ret (.bool true)) ∧ OldK s₁.heap s'.heap ∧ s'.os = s₁.os ∧ AllBare s'.gens) s₁ := by
  have rv := vals_ints hi
  have lenV := hi.length
  have hKP : K.lookup Pt = none := by
    cases q : K.lookup Pt with
    | none => rfl
    | some o =>
      have e := KX _ _ q
      rw [hT] at e; cases e
      have h2 := List.all_eq_true.mp hnt (Pt, PySem.W.tabObj #[]) (PySem.W.mem_of_lookupK q)
      exact absurd (show false = true from h2) Bool.false_ne_true
  have haP : a ≠ Pt := by rintro rfl; rw [hT] at ha; cases ha
  have core : ∀ H : Hp, SqL K H a (ns.map V.int) → Scr K H a (ns.map V.int) → H Pt = some (.tbl #[]) → HOk P w H s₁.heap → (∀ b, H b ≠ none → b = Pt ∨ (b = a ∧ K.lookup a = none ∧ ∃ o xs, H b = some (.frz o (.lst xs)))) →
      codeAny (model P w) callerA (.call (.ref fa) ⟨[.ref a], []⟩) (fun r s' => r = .ok (.ret (.bool true)) ∧ OldK s₁.heap s'.heap ∧ s'.os = s₁.os ∧ AllBare s'.gens) s₁ := by
    intro H hS hScr hP hok hA
    have base_of : ∀ {b : Addr} {o : Obj}, s₁.heap.get? b = some o → H b = none → (hidT s₁.heap H).get? b = some o := fun e n => hidT_get e n
    have noT : ∀ {b : Addr} {o : Obj}, s₁.heap.get? b = some o → o.cls ≠ .none → o.cls ≠ .type "list" → H b = none := fun {b o} e d1 d2 => by
      cases q : H b with
      | none => rfl
      | some u =>
        rcases hA b (by rw [q]; simp) with z | ⟨z, _⟩
        · subst z; rw [hT] at e; cases e; exact absurd rfl d1
        · subst z; rw [ha] at e; cases e; exact absurd rfl d2
    have noA : ∀ {b : Addr} {o : Obj} {es : Array DictEntry} {ep : Nat}, s₁.heap.get? b = some o → o.data = .dict es ep → H b = none := fun {b o es ep} e d => by
      cases q : H b with
      | none => rfl
      | some u =>
        rcases hA b (by rw [q]; simp) with z | ⟨z, _⟩
        · subst z; rw [hT] at e; cases e; cases d
        · subst z; rw [ha] at e; cases e
          have d' : Data.seq vs.toArray _ = Data.dict es ep := d
          cases d'
    have nsK : ∀ {b : Addr} {m : Str → Option Value}, s₁.heap.Ns b m → (hidT s₁.heap H).Ns b m := fun {b m} ⟨o, es, ep, e, d, r⟩ => ⟨o, es, ep, base_of e (noA e d), d, r⟩
    have hKb : K.In (hidT s₁.heap H) := fun b o e => base_of (KX b o e) (by
      cases q : H b with
      | none => rfl
      | some u =>
        rcases hA b (by rw [q]; simp) with z | ⟨z, z2, _⟩
        · subst z; rw [hKP] at e; cases e
        · subst z; rw [z2] at e; cases e)
    have hCb : PySem.W.CodeHd (hidT s₁.heap H) c0 Pt := by
      obtain ⟨o, vs', file, tf, flags, tg, inF, text, tt, e1, r1, r⟩ := hC
      exact ⟨o, vs', file, tf, flags, tg, inF, text, tt, base_of e1 (noT e1 (by rw [r1]; nofun) (by rw [r1]; decide)), r1, r⟩
    have hBb : BmAt mg (hidT s₁.heap H) := by
      obtain ⟨bm, ob, b1, b2, b3, b4, r⟩ := hbm
      exact ⟨bm, ob, b1, b2, base_of b3 (noT b3 (by rw [b4]; nofun) (by rw [b4]; decide)), b4, r⟩
    have hM : Mod K mg (hidT s₁.heap H) := ⟨hKb, nsK hns, ⟨mb, nsK hb, hbb⟩, let ⟨mc, h1, h2⟩ := hlim; ⟨mc, nsK h1, h2⟩⟩
    have e0 : Env0 P w K mg (hidT s₁.heap H) callerA [] s₁ H := ⟨rfl, hM, fun b o e => of_hidT e, Nat.le_of_eq (hidT_size _ _), trivial, fun b hb => absurd (show b ∈ ([] : List Addr) from hb) (by simp), hok, .of_eq hg⟩
    refine codeAny_mono ((F _ hKb (nsK hns) hCb hBb).run callerA [] s₁ H ⟨[.ref a], []⟩ [.ref a] [.ref a] _ _ hr e0 (hbind s₁ (.ref a)) (.cons rfl .nil) (hsp H hS hScr hP)) fun r s' h => ?_
    cases r with
    | error e => exact (show False from h).elim
    | ok fl =>
      cases fl with
      | next => exact False.elim h
      | brk => exact False.elim h
      | cont => exact False.elim h
      | ret u =>
        obtain ⟨v, H', os, bare, un, hok', r', q⟩ := h
        have q' : v = .bl true := q
        subst q'
        obtain rfl : u = Value.bool true := r'
        have kp : ∀ b o, s₁.heap.get? b = some o → b ≠ Pt → s'.heap.get? b = some o := fun b o e hbP => by
          cases q : H b with
          | none => exact un.keep b o e q (by intro z; exact absurd (show b ∈ ([] : List Addr) from z) (by simp)) (by simp)
          | some u =>
            rcases hA b (by rw [q]; simp) with z | ⟨z, _, ob, xs, z2⟩
            · exact absurd z hbP
            · have z3 := un.frzs b ob _ z2
              obtain ⟨e1, _⟩ := hok b _ z2
              obtain ⟨e2, _⟩ := hok' b _ z3
              rw [e] at e1; cases e1
              exact e2
        obtain ⟨more, hm⟩ := un.tbls Pt #[] hP
        have hP' : s'.heap.get? Pt = some (PySem.W.tabObj (#[] ++ more)) := hok' _ _ hm
        refine ⟨rfl, ⟨fun b o e => ?_, fun b o e => ?_⟩, os, bare⟩
        · by_cases hbP : b = Pt
          · subst hbP
            rw [hT] at e; cases e
            exact .inr (.inl ⟨(hC.tab hT).isCodeTable, rfl, #[], more, rfl, hP'⟩)
          · exact .inl (kp b o e hbP)
        · by_cases hbP : b = Pt
          · subst hbP; exact ⟨_, hP'⟩
          · exact ⟨o, kp b o e hbP⟩
  cases hk : K.lookup a with
  | some o =>
    have e := KX a o hk
    rw [ha] at e
    cases e
    refine core (fun b => if b = Pt then some (.tbl #[]) else none) (.inr ⟨_, vs.toArray, _, hk, rfl, rfl, rfl, by rw [List.size_toArray, lenV]; exact hl, by simpa using rv⟩)
      ⟨vs, _, rv, by rw [List.length_map]; exact hl, .inr hk⟩ (if_pos rfl) (fun b u z => ?_) (fun b z => ?_)
    · by_cases hb : b = Pt
      · have z' := (if_pos hb).symm.trans z
        cases z'; subst hb; exact hT
      · have z' := (if_neg hb).symm.trans z
        cases z'
    · by_cases hb : b = Pt
      · exact .inl hb
      · exact absurd (if_neg hb) z
  | none =>
    have eH : (fun b => if b = Pt then some (.tbl #[]) else if b = a then some (.frz { cls := .type "list", data := .seq vs.toArray } (.lst (ns.map V.int))) else none : Hp) a = some (.frz { cls := .type "list", data := .seq vs.toArray } (.lst (ns.map V.int))) := by
      show (if a = Pt then _ else if a = a then _ else _) = _
      rw [if_neg haP, if_pos rfl]
    refine core (fun b => if b = Pt then some (.tbl #[]) else if b = a then some (.frz { cls := .type "list", data := .seq vs.toArray } (.lst (ns.map V.int))) else none) (.inl (.inr ⟨{ cls := .type "list", data := .seq vs.toArray }, eH⟩))
      ⟨vs, _, rv, by rw [List.length_map]; exact hl, .inl ⟨_, eH⟩⟩ (if_pos rfl) (fun b u z => ?_) (fun b z => ?_)
    · by_cases hb : b = Pt
      · have z' := (if_pos hb).symm.trans z
        cases z'; subst hb; exact hT
      · have z1 := (if_neg hb).symm.trans z
        by_cases hb2 : b = a
        · have z2 := (if_pos hb2).symm.trans z1
          cases z2
          subst hb2
          exact ⟨ha, by rw [List.length_map]; exact hl, vs, _, rv, ha⟩
        · have z2 := (if_neg hb2).symm.trans z1
          cases z2
    · by_cases hb : b = Pt
      · exact .inl hb
      · by_cases hb2 : b = a
        · exact .inr ⟨hb2, hk, _, _, by rw [if_neg hb, if_pos hb2]⟩
        · exact absurd (by rw [if_neg hb, if_neg hb2]) z
theorem walk_ofT {l : PySem.W.OpenLaw} {n k : Nat} {q : Program} {loose : List Str} {XP : (Str → Option Value) → Heap → Prop} {YP : World → Heap → Prop} {d dt : DefRec} {K : Params → PySem.W.Frag} {sp : PySem.W.Frag → (Str → Option Value) → Addr → Sp} {x xn : Str} {c0 Pt : Addr}
    (hn : l.most = some n) (hn2 : n ≤ sizeLine) (hdf : d.params.defaults = []) (hr : Room k callerA)
    (hY : ∀ (w : World) (h : Heap), YP w h → (K w.params).In h) (hrec : (recsOf q).find? (fun e => e.name == xn) = some dt)
    (ht : ∀ w : World, PySem.W.tabIn (K w.params) xn = some (c0, Pt)) (hnt : ∀ w : World, PySem.W.noTabs (K w.params) = true)
    (F : ∀ (w : World) (mg : Str → Option Value) (fa : Addr) (h : Heap), (K w.params).In h → h.Ns mainGlobals mg → mg d.name = some (.ref fa) → PySem.W.tabIn (K w.params) xn = some (c0, Pt) →
      ∃ fd : FuncData, (∀ (s : Shared) (u : Value), BindsTo s fd ⟨[u], []⟩ [(x, u)]) ∧
        ∀ base : Heap, (K w.params).In base → base.Ns mainGlobals mg → PySem.W.CodeHd base c0 Pt → BmAt mg base → FnOk l.prog w (K w.params) mg base CX0 k fa fd [x] (sp (K w.params) mg Pt))
    (hsp : ∀ (K : PySem.W.Frag) (mg : Str → Option Value) (Pt : Addr) (H : Hp) (a : Addr) (ns : List Int), ns.length ≤ n → SqL K H a (ns.map V.int) → Scr K H a (ns.map V.int) → H Pt = some (.tbl #[]) → sp K mg Pt [.ref a] H (fun v _ => v = .bl true) fun _ _ _ => False) :
    PySem.W.WalkO q loose XP YP l.row.toRowW d [] (fun f vs => PySem.call f vs) := by
  refine Att.attach_call hn hdf fun w s₀ s₁ mg mb fa o pm cd doc a vs ns G Y ho hd hcd hmg hobj hints hlen hg => ?_
  have KX := hY w _ Y
  obtain ⟨fd, hb, hF⟩ := F w mg fa _ KX G.T.g hmg (ht w)
  obtain ⟨hC, hT⟩ := PySem.W.tab_of G.T KX hrec (ht w)
  exact law_callT KX G.T.g G.T.b G.T.builtins G.T.nolimit hg hobj hints (Nat.le_trans hlen hn2) hr hC hT (hnt w) G.T.bmain hF hb fun H hS hScr hP => hsp _ mg _ H a ns hlen hS hScr hP
end L2
namespace L2
open PySem PySem.Spec PyProof.Rows
theorem law_fn {P : Program} {w : World} {K : PySem.W.Frag} {mg : Str → Option Value} {c0 Pt : Addr} {k : Nat} {sp : Sp} {x name : Str} {ps : List Str} {st : Stmt} {fa : Addr} (hmg : mg name = some (.ref fa)) (F : FunAt K mg name st)
    (h : ∀ base : Heap, K.In base → base.Ns mainGlobals mg → PySem.W.CodeHd base c0 Pt → BmAt mg base → FnP P w K mg base k name ps sp)
    (hps : ps = [x] := by rfl) (hbind : ∀ (kV doc pm : Value) (an : Option Addr) (cdv ct u : Value), bindArgs (PySem.W.fnOf name name (defArgs st) (defBody st) (defScope st) .none kV doc pm an cdv ct) ⟨[u], []⟩ = pure [(x, u)] := by intros; rfl) :
    ∃ fd : FuncData, (∀ (s : Shared) (u : Value), BindsTo s fd ⟨[u], []⟩ [(x, u)]) ∧ ∀ base : Heap, K.In base → base.Ns mainGlobals mg → PySem.W.CodeHd base c0 Pt → BmAt mg base → FnOk P w K mg base CX0 k fa fd [x] sp := by
  subst hps
  obtain ⟨f, fd, h1, F⟩ := F
  have e := hmg.symm.trans h1
  cases e
  obtain ⟨oc, od, kV, doc, pm, an, cdv, ct, osl, rfl, lk, hcd⟩ := F.ex
  refine ⟨_, fun s u => .of_eq (hbind kV doc pm an cdv ct u), fun base kb nb hC hB => ?_⟩
  obtain ⟨f', fd', h1', h2', h3', h4', oc2, od2, sl2, lk2⟩ := h base kb nb hC hB
  have e := h1.symm.trans h1'
  cases e
  rw [lk] at lk2
  cases lk2
  exact h4'
end L2
namespace L2
open PySem PySem.Spec PyProof.Rows
theorem tabIn_mk {K : PySem.W.Frag} {x : Str} {f c P : Addr} {oc o1 : Value} {od o2 : Option Addr} {fd : FuncData} {sl s2 : Array (Option Value)} {vs : Array Value} (a : PySem.W.nsIn K mainGlobals x = some (some (.ref f))) (l : K.lookup f = some ⟨oc, od, .func fd, sl⟩) (hc : fd.code = .ref c)
    (lc : K.lookup c = some ⟨o1, o2, .fields vs, s2⟩) (v : vs[11]? = some (.ref P)) : PySem.W.tabIn K x = some (c, P) := by
  unfold PySem.W.tabIn
  rw [a]
  dsimp only
  rw [l]
  dsimp only
  rw [hc]
  dsimp only
  rw [lc]
  dsimp only
  rw [v]
end L2
namespace L2
open PySem PySem.Spec PyProof.Rows
theorem ix_tupK {X : Cx} (K : PySem.W.Frag) (hK : X.K = K) : IxR X (rIxT K) := by subst hK; exact ix_tup
end L2
namespace L2
open PySem PySem.Spec PyProof.Rows
def MethAt (K : PySem.W.Frag) (C : Addr) (m qual : Str) (st : Stmt) : Prop := ∃ f fd, Meth K C m f ∧ Fun K m qual st f fd
theorem methAt_mk {K : PySem.W.Frag} {C : Addr} {m qual : Str} {st : Stmt} {f : Addr} {oc : Value} {od an : Option Addr} {osl : Array (Option Value)} {kV doc pm cdv ct : Value} (a : PySem.W.findIn K (.ref C) m = some (some (.ref f))) (i : PySem.W.isFn K (.ref f) = true)
    (l : K.lookup f = some ⟨oc, od, .func (PySem.W.fnOf m qual (defArgs st) (defBody st) (defScope st) .none kV doc pm an cdv ct), osl⟩) (c : PySem.W.codeIn K cdv qual = true) (k : PySem.W.keepIn K (.ref f) = true) : MethAt K C m qual st := ⟨f, _, ⟨a, i, k⟩, fun_mk l c k⟩
def MtP (P : Program) (w : World) (K : PySem.W.Frag) (mg : Str → Option Value) (base : Heap) (C : Addr) (k : Nat) (m : Str) (ps : List Str) (sp : Sp) : Prop := ∃ f fd, Meth K C m f ∧ Binds K fd ps [] ∧ FnOk P w K mg base CX0 k f fd ps sp
section
variable {P : Program} {w : World} {K : PySem.W.Frag} {mg : Str → Option Value} {base : Heap} {C : Addr}
theorem MethAt.ok {m qual : Str} {st : Stmt} {N ps : List Str} {k : Nat} {sp : Sp} (F : MethAt K C m qual st) (S : FnScope N ps (defScope st))
    (hb : ∀ (kV doc pm : Value) (an : Option Addr) (cdv ct : Value) (us : List Value), us.length = ps.length → bindArgs (PySem.W.fnOf m qual (defArgs st) (defBody st) (defScope st) .none kV doc pm an cdv ct) ⟨us, []⟩ = pure (ps.zip us))
    (len : ∀ vs H Q E, sp vs H Q E → vs.length = ps.length)
    (hbody : ∀ (f : Addr) (cdv : Value) (A : Around) (outer : List Env) (s : Shared) (H : Hp) (vs : List V) (Q : VK) (E : XK), Room k (A.deeper (envOfC qual (defScope st) s.heap.objs.size f cdv)) → sp vs H Q E →
      ∃ t, PSs (cxOf CX0 P w K mg base N qual (defScope st) f cdv A outer s H E).nox (defBody st) t ∧ t { nx := fun _ H' => Q .non H', rt := Q } (start N vs) H) : MtP P w K mg base C (k + 1) m ps sp := by
  obtain ⟨f, fd, h1, F⟩ := F
  exact ⟨f, fd, h1, F.binds hb, F.ok S len fun cdv A outer s H vs Q E => hbody f cdv A outer s H vs Q E⟩
end
section
variable {X : Cx} {C : Addr} {k : Nat} {ps : List Str} {sp : Sp} {m : Str} {o e : Expr} {es : List Expr} {ta : TE} {t : TA} {apos pos : Pos}
theorem pe_methN {pl : Sem Bool} (F : MtP X.prog X.w X.K X.mg X.base C k m ps sp) (he : PE X o ta) (c : Cls X.K C) (hr : Room k X.A) (ha : PA X (e :: es) t)
    (hst : starEach (e :: es) X.env = (false, eval e X.env) :: starEach es X.env := by rfl) (hpl : (backTo pos (starEach es X.env)).any (·.1) = false := by rfl)
    (ht : eval (.Call (.Attribute o m apos) (e :: es) [] pos) X.env = (do
      let ov ← eval o X.env
      standAt apos.atName
      let (f, first) ← holding [ov] (getMethod ov m pl)
      callWith pos f first (backTo pos (starEach (e :: es) X.env)) (backToKw pos (keywordEach [] X.env))) := by rfl) :
    PE X (.Call (.Attribute o m apos) (e :: es) [] pos) (tMeth C m sp [] E0 ta t) := by
  obtain ⟨f, fd, h1, h3, h4⟩ := F
  exact pe_meth he c h1 h4 hr h3 .nil pass0 ha hst hpl ht
theorem pe_methN0 {pl : Sem Bool} (F : MtP X.prog X.w X.K X.mg X.base C k m ps sp) (he : PE X o ta) (c : Cls X.K C) (hr : Room k X.A)
    (ht : eval (.Call (.Attribute o m apos) [] [] pos) X.env = (do
      let ov ← eval o X.env
      standAt apos.atName
      let (f, first) ← holding [ov] (getMethod ov m pl)
      callWith pos f first (backTo pos (starEach [] X.env)) (backToKw pos (keywordEach [] X.env))) := by rfl) :
    PE X (.Call (.Attribute o m apos) [] [] pos) (tMeth C m sp [] E0 ta tNil) := by
  obtain ⟨f, fd, h1, h3, h4⟩ := F
  exact pe_meth0 he c h1 h4 hr h3 .nil pass0 ht
end
end L2
namespace Gb
section
variable {α : Type} (nl : α) (pr : α → α → α)
def rise : List Bool → List α → α → α
  | u :: us, o :: os, x => rise us os (if u then pr x o else pr o x)
  | _, _, x => x
end
end Gb
namespace L2
open PySem PySem.Spec PyProof.Rows
theorem ObjOk.there {P : Program} {w : World} {H : Hp} {h : Heap} {a : Addr} {o : HO} (x : ObjOk P w H h a o) : ∃ ob, h.get? a = some ob := by
  cases o with
  | lst xs => obtain ⟨_, _, _, _, e⟩ := x; exact ⟨_, e⟩
  | tup xs => obtain ⟨_, _, _, o, e, _⟩ := x; exact ⟨_, e⟩
  | dK kvs => obtain ⟨_, _, _, _, o, _, _, e, _⟩ := x; exact ⟨_, e⟩
  | dT kvs => obtain ⟨_, _, _, _, o, _, _, e, _⟩ := x; exact ⟨_, e⟩
  | set S n => obtain ⟨o, _, _, _, e, _⟩ := x; exact ⟨_, e⟩
  | ins C dx fs => obtain ⟨_, _, _, e, _⟩ := x; exact ⟨_, e⟩
  | own y => exact x
  | xd fs => obtain ⟨_, ⟨_, _, _, e, _⟩, _⟩ := x; exact ⟨_, e⟩
  | rng lo hi => obtain ⟨_, _, _, e⟩ := x; exact ⟨_, e⟩
  | frz ob u => obtain ⟨e, _⟩ := x; exact ⟨_, e⟩
  | tbl ps => exact ⟨_, (show h.get? a = some _ from x)⟩
  | met f y => exact ⟨_, (show h.get? a = some _ from x)⟩
  | ext φ => obtain ⟨_, e, _⟩ := x; exact e
def quietIn (K : PySem.W.Frag) (N : Addr) : Bool := PySem.W.nsOkIn K N && quietNames.all fun n => PySem.W.nsIn K N n == some none
def tailQ (K : PySem.W.Frag) (bmB : List Value) : List Value → Bool
  | [] => bmB == []
  | v :: r => (v :: r == bmB) || match v with
    | .ref A => (match List.lookup A K with
      | some ⟨_, _, .cls cd, _⟩ => quietIn K cd.ns && tailQ K bmB r
      | _ => false)
    | _ => false
theorem quietIn.ns {K : PySem.W.Frag} {N : Addr} {h : Heap} (X : K.In h) (q : quietIn K N = true) : ∃ mN, h.Ns N mN ∧ ∀ n ∈ quietNames, mN n = none := by
  have q := Bool.and_eq_true_iff.mp q
  have nsI := Heap.Ns.of_isNs (PySem.W.isNs_of_in X q.1)
  refine ⟨_, nsI, fun n hn => ?_⟩
  have z := List.all_eq_true.mp q.2 n hn
  exact PySem.W.nsMap_none_of_in X q.1 (eq_of_beq z)
theorem tailQ.ok {K : PySem.W.Frag} {bmB : List Value} {h : Heap} (X : K.In h) : ∀ {l : List Value}, tailQ K bmB l = true → OwnTailQ h bmB l
  | [], q => by
    have e : bmB = [] := eq_of_beq (show (bmB == []) = true from q)
    subst e; exact .base
  | v :: r, q => by
    unfold tailQ at q
    rcases Bool.or_eq_true_iff.mp q with q | q
    · have e : v :: r = bmB := eq_of_beq q
      subst e; exact .base
    · split at q
      · split at q
        · next A _ c0 dd cd sl lk =>
          have q := Bool.and_eq_true_iff.mp q
          obtain ⟨mA, h1, h2⟩ := quietIn.ns X q.1
          exact .own (X _ _ lk) h1 h2 (tailQ.ok X q.2)
        · cases q
      · cases q
structure XCls (K : PySem.W.Frag) (C : Addr) : Prop where
  ex : ∃ (nm q : Str) (N : Addr) (bs bm bmB : List Value) (hdct : Bool) (sn : List Str) (sub : List Value) (ab : Bool) (col : Option Bool) (dd : Option Addr) (k0 k1 k2 k3 k5 : Option Value) (newId B nid initId Bn inN : String) (bmN : List Value),
    K.lookup C = some (excClassObj nm q C N bs bm hdct sn sub ab col dd k0 k1 k2 k3 k5 newId) ∧ quietIn K N = true ∧ tailQ K bmB bm = true ∧ bm.contains (Value.type "BaseException") = true ∧
    ExcBaseFacts Bn newId inN bmN ∧ bmB.contains (Value.type Bn) = true ∧ ExcBaseFacts B nid initId bmB ∧ ExcAttrBase B bmB
  ga : PySem.W.findIn K (.ref C) "__getattribute__" = some (some (.builtin "BaseException.__getattribute__"))
  gn : PySem.W.findIn K (.ref C) "__getattr__" = some none
  fo : PySem.W.findIn K (.ref C) "__class__" = some (some (.builtin "object.__class__"))
  sp : PySem.W.specialIn K (.builtin "object.__class__") "__get__" = some (some (.builtin "getset_descriptor.__get__"))
  tk : PySem.W.takesIn K (.builtin "object.__class__") = some true
  mo : PySem.W.mroIn K C (.type "object") = some true
theorem xcls_mk {K : PySem.W.Frag} {C : Addr} {nm q : Str} {N : Addr} {bs bm : List Value} {hdct : Bool} {sn : List Str} {sub : List Value} {ab : Bool} {col : Option Bool} {dd : Option Addr} {k0 k1 k2 k3 k5 : Option Value}
    (a : K.lookup C = some (excClassObj nm q C N bs bm hdct sn sub ab col dd k0 k1 k2 k3 k5 "ValueError.__new__")) (b : quietIn K N = true) (c : tailQ K [Value.type "ValueError", Value.type "Exception", Value.type "BaseException", Value.type "object"] bm = true)
    (d : bm.contains (Value.type "BaseException") = true) (ga : PySem.W.findIn K (.ref C) "__getattribute__" = some (some (.builtin "BaseException.__getattribute__"))) (gn : PySem.W.findIn K (.ref C) "__getattr__" = some none)
    (fo : PySem.W.findIn K (.ref C) "__class__" = some (some (.builtin "object.__class__"))) (sp : PySem.W.specialIn K (.builtin "object.__class__") "__get__" = some (some (.builtin "getset_descriptor.__get__")))
    (tk : PySem.W.takesIn K (.builtin "object.__class__") = some true) (mo : PySem.W.mroIn K C (.type "object") = some true) : XCls K C :=
  ⟨⟨nm, q, N, bs, bm, _, hdct, sn, sub, ab, col, dd, k0, k1, k2, k3, k5, _, _, _, _, _, _, _, a, b, c, d, F.excBase_ValueError, by decide, F.excBase_ValueError, F.attrBase_ValueError⟩, ga, gn, fo, sp, tk, mo⟩
structure IsExc (K : PySem.W.Frag) (C : Addr) (oe : Obj) : Prop where
  x : XCls K C
  cls : oe.cls = .ref C
structure Fly (P : Program) (w : World) (outer : List Env) (H H' : Hp) (s : Shared) (C ea t : Addr) (B : Heap) (s' : Shared) : Prop where
  os : s'.os = s.os
  bare : AllBare s'.gens
  fly : B.FlyingW outer ea (.ref C) (.ref t) s'.heap
  un : Un (frs outer) [] H H' s.heap s'.heap
  hok : HOk P w H' s'.heap
  old : ∀ b o, s.heap.get? b = some o → H b = none → b ∉ frs outer → B.get? b = some o
  trk : ∀ b u, H' b = some u → b ∉ frs outer ∧ ∀ o, s'.heap.get? b = some o → B.get? b = some o
  all : ∀ b o, s.heap.get? b = some o → b ∈ frs outer ∨ ∃ o', B.get? b = some o'
theorem funFrames_base {h b1 b2 : Heap} : ∀ {l : List Env}, h.FunFrames b1 l → (∀ a ∈ frs l, b2.get? a = none) → h.FunFrames b2 l
  | [], _, _ => trivial
  | env :: r, x, k => by
    obtain ⟨hk, ⟨L, o, hf, hn, ho, hd⟩, hr⟩ := x
    refine ⟨hk, ⟨L, o, hf, k L (by unfold frs; rw [List.filterMap_cons, hf]; exact List.mem_cons_self), ho, hd⟩, funFrames_base hr fun a ha => k a ?_⟩
    unfold frs; rw [List.filterMap_cons, hf]; exact List.mem_cons_of_mem _ ha
def Raises (X : Cx) (E : XK) : Prop := ∀ (pins : List (Addr × Obj)) (σ : St) (H : Hp) (s : Shared) (h' : Heap) (e C : Addr) (vs : List Value), Inv X pins σ H s → s.heap.MadeExcOf h' e (.ref C) vs → E (.ref C) none H → X.xe (.ref e) { s with heap := h' }
end L2
namespace L2
open PySem PySem.Spec PyProof.Rows
def tRaise (C : Addr) (E : XK) (t : TA) : TS := fun D σ H => t σ H fun vs H1 => vs.length ≤ sizeLine ∧ E (.ref C) none H1
section
variable {X : Cx}
theorem ps_raise {x : Str} {C : Addr} {E : XK} {e : Expr} {es : List Expr} {t : TA} {np cpos pos : Pos} (hx : Raises X E) (hr : X.A.handled = none) (xc : XCls X.K C) (hg : Gl X x) (hm : X.mg x = some (.ref C)) (ha : PA X (e :: es) t)
    (hdb : (x == ("__debug__" : Str)) = false := by decide) (he : starEach (e :: es) X.env = (false, eval e X.env) :: starEach es X.env := by rfl) (hpl : (backTo cpos (starEach es X.env)).any (·.1) = false := by rfl) :
    PS X (.Raise (some (.Call (.Name x np) (e :: es) [] cpos)) none pos) (tRaise C E t) := by
  intro pins s σ H D I h
  obtain ⟨nm, q, N, bs, bm, bmB, hdct, sn, sub, ab, col, dd, k0, k1, k2, k3, k5, newId, B, nid, initId, Bn, inN, bmN, lk, qn, tl, has, F1, F2, F3, F4⟩ := xc.ex
  obtain ⟨mN, hN, hq⟩ := quietIn.ns I.ok.mod.kin qn
  refine wpAny_Raise_call_subU (nm := nm) (q := q) (N := N) (bs := bs) (hdct := hdct) (sn := sn) (sub := sub) (ab := ab) (col := col) (dd := dd) (k0 := k0) (k1 := k1) (k2 := k2) (k3 := k3) (k5 := k5) F1 F2 F3 (mN := mN) has hr ?_ (hq _ (by decide)) (ld_glob I hg hm ⟨rfl, ?_⟩ hdb)
  · rw [he]; simpa [backTo] using hpl
  obtain ⟨x0, hb⟩ : ∃ x0, backTo cpos (starEach (e :: es) X.env) = (false, x0) :: backTo cpos (starEach es X.env) := by rw [he]; exact ⟨_, rfl⟩
  rw [hb]
  refine Calls.evalArgs_plain ?_
  rw [← hb]
  refine thn (ha cpos pins s σ H _ I h) fun us s1 ⟨vs, H1, I1, r, hl, q1⟩ => ?_
  have X1 := I1.kIn
  exact ⟨rfl, by show us.length ≤ _; rw [← r.length]; exact hl, X1 _ _ lk, hN.keeps I1.bk, (tailQ.ok X1 tl).tail, fun h' e' M => hx pins σ H1 s1 h' e' C us I1 M q1⟩
end
section
variable {X : Cx} {pins : List (Addr × Obj)} {σ : St} {H H' : Hp} {s s' : Shared} {C ea t : Addr} {B h2 : Heap}
theorem Inv.fly (I : Inv X pins σ H s) (F : Fly X.prog X.w X.stack H H' s C ea t B s') (f2 : B.StaysIn h2) (up : s'.heap.UpToSlots h2) : Inv X pins σ H' { s' with heap := h2 } := by
  have slot : ∀ b o, s.heap.get? b = some o → H b = none → b ∈ frs X.stack → ∃ sl, h2.get? b = some { o with slots := sl } := fun b o e hn hb => by
    obtain ⟨sl, e1⟩ := F.un.slot b o e hn hb (by simp)
    obtain ⟨_, o2, e2, d2⟩ := I.stack.mem hb
    rw [e] at e2; cases e2
    obtain ⟨sl2, e3⟩ := up b _ e1 d2
    exact ⟨sl2, e3⟩
  refine I.call' (s' := { s' with heap := h2 }) (ch := []) F.os ⟨fun b o e n nf _ => f2 _ _ (F.old b o e n nf), fun b o e n hb _ => slot b o e n hb, F.un.free, fun b o e _ => ?_, F.un.tups, F.un.frzs, F.un.tbls⟩ (fun a u z => ?_) F.bare (fun b z => absurd z (by simp))
  · rcases F.all b o e with hb | ⟨o', z⟩
    · obtain ⟨sl, z⟩ := slot b o e (I.stkFree b hb) hb
      exact ⟨_, z⟩
    · exact ⟨o', f2 _ _ z⟩
  · refine (F.hok a u z).stay (fun b v hb hv => f2 _ _ ?_) (fun _ y => y) fun _ _ y => y
    rcases hb with rfl | hb
    · exact (F.trk _ _ z).2 _ hv
    · exact (F.trk _ _ hb).2 _ hv
end
abbrev XR := St → Addr → Hp → Prop
abbrev TSx := Ends → XR → St → Hp → Prop
section
variable {X : Cx} {e : Expr} {es : List Expr} {st : Stmt} {rest : List Stmt} {pos : Pos}
def txIf (c : TT) (t u : TSx) : TSx := fun D R σ H => c σ H fun b H1 => if b = true then t D R σ H1 else u D R σ H1
end
end L2
namespace L2
open PySem PySem.Spec PyProof.Rows
abbrev Cx.hand (X : Cx) (e : Addr) : Cx := { X with A := X.A.mark (some (.ref e)), calm := false }
section
variable {X : Cx} {pins : List (Addr × Obj)} {σ : St} {H : Hp} {s : Shared} {ea : Addr}
theorem Cx.Ok.hand (ok : X.Ok) (e : Addr) : (X.hand e).Ok :=
  ⟨ok.mod, ok.kind, ok.glob, ok.blt, ok.above, ok.inj, ok.has, ok.cab, (fun z => by cases z), ok.frames, ok.stk, ok.exf, ok.bs, ok.bsz, ok.noex, ok.exfs, ok.funs, ok.frf⟩
theorem Inv.hand (I : Inv X pins σ H s) (e : Addr) : Inv (X.hand e) pins σ H s := ⟨I.ok.hand e, I.os, I.bare, I.base, I.loc, I.cell, I.free, I.freeC, I.pin, I.hok, I.len⟩
theorem Inv.unhand (ok : X.Ok) (I : Inv (X.hand ea) pins σ H s) : Inv X pins σ H s := ⟨ok, I.os, I.bare, I.base, I.loc, I.cell, I.free, I.freeC, I.pin, I.hok, I.len⟩
theorem Inv.track' {a : Addr} {o : Obj} (I : Inv X pins σ H s) (ho : s.heap.get? a = some o) (h0 : H a = none) (h1 : a ≠ X.env.locals) (h4 : ∀ x c, X.env.cells.lookup x = some c → c ≠ a) (h5 : ∀ p ∈ X.pn ++ pins, p.1 ≠ a) (hs : X.s₀.heap.get? a = none) :
    Inv X pins σ (upd H a (.frz o (.own 0))) s := by
  refine ⟨I.ok, I.os, I.bare, ⟨I.base.keep, I.base.slot, fun b ob e n hx => ?_, I.base.there, fun b xs e => ?_, fun b ob u e => ?_, fun b ps e => ?_⟩, I.loc, I.cell, ?_, fun x c e => ?_, fun p hp => ?_, ?_, I.len⟩
  · have z : b ≠ a := fun z => by rw [z, hs] at e; cases e
    rw [upd_ne z]; exact I.base.free b ob e n hx
  · have q := I.base.tups b xs e
    rw [upd_ne (ne_of_none q h0)]; exact q
  · have q := I.base.frzs b ob u e
    rw [upd_ne (ne_of_none q h0)]; exact q
  · obtain ⟨more, q⟩ := I.base.tbls b ps e
    exact ⟨more, by rw [upd_ne (ne_of_none q h0)]; exact q⟩
  · rw [upd_ne (Ne.symm h1)]; exact I.free
  · rcases I.freeC x c e with z | ⟨z1, ob, z⟩
    · left; rw [upd_ne (h4 x c e)]; exact z
    · right; exact ⟨z1, ob, by rw [upd_ne (h4 x c e)]; exact z⟩
  · obtain ⟨e, n, ne, nf, d⟩ := I.pin p hp
    exact ⟨e, by rw [upd_ne (h5 p hp)]; exact n, ne, nf, d⟩
  · exact I.hok.track ho h0
theorem unbind_ok {M : Model} {A : Around} {E : Value → Shared → Prop} {i : Nat} {n : Str} {pos : Pos} {Q : Unit → Shared → Prop} (I : Inv X pins σ H s) (hN : X.N.Nodup) (hi : X.N[i]? = some n) (hk : X.env.scope.names.lookup n = some .local)
    (h : ∀ s', Inv X pins (σ.set i none) H s' → Q () s') : wpAny M A (do bindName X.env n Value.none; unbindBehindTheSuite X.env n pos) Q E s := by
  have hcls : (X.env.scope.kind == .class || (X.env.scope.kind == .module && X.env.locals != X.env.globals)) = false := by rw [I.ok.kind]; rfl
  refine wpAny_bind ?_
  unfold bindName
  refine wpAny_bind (wpAny_holding (wpAny_point (wpAny_bind (store_ok (v := .non) I hN hi (.inl hk) rfl (fun s1 I1 => wpAny_point ?_) (.inr hk)))))
  unfold unbindBehindTheSuite
  refine wpAny_onRaise ?_
  have hiσ : i < σ.length := by rw [I.len]; exact (List.getElem?_eq_some_iff.mp hi).1
  obtain ⟨m, hn, hl⟩ := id I1.loc
  have hmn : ∃ v, m n = some v := by
    obtain ⟨u, _, z⟩ := hl i n .non hi (by rw [List.getElem?_set_self hiσ]) (.inl hk)
    rcases z with ⟨_, z⟩ | ⟨z, _⟩
    · exact ⟨u, z⟩
    · rcases z with z | z <;> (rw [show X.env.kindOf n = some .local from hk] at z; cases z)
  obtain ⟨v, hv⟩ := hmn
  refine wpAny_unbindName_local hk hn hv hcls fun h' u hn' hs => ?_
  have cne := I1.cne
  obtain ⟨oL, _, _, hoL, _⟩ := id hn
  refine h _ ⟨I1.ok, I1.os, I1.bare, ⟨fun b o e n hb hx => ?_, fun b o e n hb hx => ?_, I1.base.free, fun b o e hx => ?_, I1.base.tups, I1.base.frzs, I1.base.tbls⟩, ⟨_, hn', fun j y v' e1 e2 e3 => ?_⟩, fun y c e => ?_, I1.free, I1.freeC, fun p hp => ?_, fun b ob e => ?_, by simpa using I.len⟩
  · exact (hs.2 b (Nat.ne_of_lt (Nat.lt_of_lt_of_le (Heap.lt_size e) I1.ok.above))).trans (I1.base.keep b o e n hb hx)
  · obtain ⟨sl, e1⟩ := I1.base.slot b o e n hb hx
    exact ⟨sl, (hs.2 b (Nat.ne_of_lt (Nat.lt_of_lt_of_le (Heap.lt_size e) I1.ok.above))).trans e1⟩
  · obtain ⟨o', e1⟩ := I1.base.there b o e hx
    exact ⟨o', (hs.2 b (Nat.ne_of_lt (Nat.lt_of_lt_of_le (Heap.lt_size e) I1.ok.above))).trans e1⟩
  · have hj : j ≠ i := fun z => by
      subst z
      rw [List.getElem?_set_self hiσ] at e2; cases e2
    have e2' : (σ.set i (some V.non))[j]? = some (some v') := by
      rw [List.getElem?_set_ne (Ne.symm hj)] at e2 ⊢; exact e2
    obtain ⟨u', r', q⟩ := hl j y v' e1 e2' e3
    refine ⟨u', r', ?_⟩
    rcases q with ⟨k, e⟩ | ⟨k, c, e, z⟩
    · refine .inl ⟨k, ?_⟩
      have : y ≠ n := fun e => hj (nodup_ix hN e1 (e ▸ hi))
      simp [this, e]
    · exact .inr ⟨k, c, e, z.sameBut hs (cne y c e)⟩
  · obtain ⟨w', z⟩ := I1.cell y c e
    exact ⟨w', z.sameBut hs (cne y c e)⟩
  · obtain ⟨e, n, ne, nf, d⟩ := I1.pin p hp
    exact ⟨(hs.2 p.1 ne).trans e, n, ne, nf, d⟩
  · refine (I1.hok b ob e).stay (fun c w' hc q => (hs.2 c ?_).trans q) (fun _ q => q) fun _ _ q => q
    rintro rfl
    rcases hc with rfl | hc
    · rw [I1.free] at e; cases e
    · rw [I1.free] at hc; cases hc
end
def handEnds (i : Nat) (D : Ends) : Ends := { nx := fun σ H => D.nx (σ.set i none) H, rt := D.rt, bk := fun σ H => D.bk (σ.set i none) H, ct := fun σ H => D.ct (σ.set i none) H }
theorem UpToSlots.trans {a b c : Heap} (x : a.UpToSlots b) (y : b.UpToSlots c) : a.UpToSlots c := fun p o e d => by
  obtain ⟨sl, e1⟩ := x p o e d
  obtain ⟨sl2, e2⟩ := y p _ e1 d
  exact ⟨sl2, e2⟩
section
variable {X : Cx}
end
end L2
namespace L2
open PySem PySem.Spec PyProof.Rows
end L2
namespace L2
open PySem PySem.Spec PyProof.Rows
def repS (x : Str) (n : Int) : Str := if n < 1 then Str.empty else if (n == 1 || x.length == 0) = true then x else { cps := List.foldl (fun x1 x2 => x1 ++ x2) #[] (List.replicate n.toNat x.cps) }
theorem rep_size (c : Array Nat) : ∀ (k : Nat) (a : Array Nat), (List.foldl (fun x1 x2 => x1 ++ x2) a (List.replicate k c)).size = a.size + k * c.size
  | 0, a => by simp
  | k + 1, a => by
    rw [List.replicate_succ, List.foldl_cons, rep_size c k (a ++ c), Array.size_append, Nat.succ_mul]
    omega
section
variable {X : Cx}
theorem op_repStr : OpR X (binaryOp .Mult) (fun x y H Q => ∃ z n, x = .str z ∧ y = .int n ∧ 0 ≤ n ∧ n ≤ 1000 ∧ z.length ≤ 1000 ∧ Q (.str (repS z n)) H) := by
  intro pins s σ H x y v u Q I rx ry h
  obtain ⟨z, n, rfl, rfl, n0, n1, zl, q⟩ := h
  obtain ⟨t, rfl⟩ := rx
  obtain ⟨t2, rfl⟩ := ry
  refine PySem.P.mul_str (by simp; omega) (fun a b => ?_) (fun a b => ?_) ?_
  · have : (1000 : Int) ≤ (2 ^ 63 - 1) / n := (Int.le_ediv_iff_mul_le (by omega)).mpr (by omega)
    omega
  · unfold Builtin.Str.tooLong
    have : z.length * n.toNat ≤ 1000 * 1000 := Nat.mul_le_mul (by omega) (by omega)
    have e : sizeLine = 16777216 := by decide
    simp; omega
  · unfold repS at q
    by_cases h1 : n < 1
    · rw [if_pos h1] at q ⊢
      exact ⟨by decide, .str _, H, I.tok _, ⟨_, rfl⟩, q⟩
    · rw [if_neg h1] at q ⊢
      by_cases h2 : (n == 1 || z.length == 0) = true
      · rw [if_pos h2] at q ⊢
        exact ⟨.str _, H, I, ⟨_, rfl⟩, q⟩
      · rw [if_neg h2] at q ⊢
        refine ⟨?_, .str _, H, I.tok _, ⟨_, rfl⟩, q⟩
        show (List.foldl (fun x1 x2 => x1 ++ x2) #[] (List.replicate n.toNat z.cps)).size ≤ sizeLine
        rw [rep_size]
        have : n.toNat * z.cps.size ≤ 1000 * 1000 := Nat.mul_le_mul (by omega) zl
        have e : sizeLine = 16777216 := by decide
        simp; omega
end
end L2
namespace L2
open PySem PySem.Spec PyProof.Rows
abbrev bmVE : List Value := [Value.type "ValueError", Value.type "Exception", Value.type "BaseException", Value.type "object"]
structure QuietAt (K : PySem.W.Frag) (N : Addr) : Prop where
  ok : PySem.W.nsOkIn K N = true
  a : PySem.W.nsIn K N "__init__" = some none
  b : PySem.W.nsIn K N "__getattribute__" = some none
  c : PySem.W.nsIn K N "__getattr__" = some none
  d : PySem.W.nsIn K N "args" = some none
theorem QuietAt.q {K : PySem.W.Frag} {N : Addr} (x : QuietAt K N) : quietIn K N = true := by
  unfold quietIn quietNames
  rw [x.ok]
  simp only [List.all_cons, List.all_nil, Bool.and_true, Bool.true_and]
  rw [x.a, x.b, x.c, x.d]
  simp
theorem nsOk_of {K : PySem.W.Frag} {N : Addr} {c : Value} {d : Option Addr} {es : Array DictEntry} {ep : Nat} {sl : Array (Option Value)} (l : K.lookup N = some ⟨c, d, .dict es ep, sl⟩) (h : (es.toList.all fun e => match e.key with | .str _ _ => true | _ => false) = true) : PySem.W.nsOkIn K N = true := by
  unfold PySem.W.nsOkIn; rw [l]
  show (es.all fun e => match e.key with | .str _ _ => true | _ => false) = true
  rw [← Array.all_toList]; exact h
theorem tailQ_one {K : PySem.W.Frag} {B : Addr} {c : Value} {d : Option Addr} {cd : ClassData} {sl : Array (Option Value)} (l : K.lookup B = some ⟨c, d, .cls cd, sl⟩) (q : QuietAt K cd.ns) : tailQ K bmVE (.ref B :: bmVE) = true := by
  unfold tailQ
  rw [Bool.or_eq_true_iff]
  right
  show (match List.lookup B K with | some ⟨_, _, .cls cd, _⟩ => quietIn K cd.ns && tailQ K bmVE bmVE | _ => false) = true
  rw [show List.lookup B K = _ from l]
  show (quietIn K cd.ns && tailQ K bmVE bmVE) = true
  rw [q.q]; rfl
end L2
namespace L2
open PySem PySem.Spec PyProof.Rows
section
variable {α β : Type} {f : Nat → Nat → Bool} {n : Nat}
def wpT (f : Nat → Nat → Bool) (n : Nat) : W.KasT α → (α → Prop) → Prop
  | .ret a, C => C a
  | .ask i j k, C => i < n ∧ j < n ∧ i ≠ j ∧ wpT f n (k (f i j)) C
theorem wpT_mono {C D : α → Prop} (h : ∀ a, C a → D a) : ∀ {T : W.KasT α}, wpT f n T C → wpT f n T D
  | .ret a, q => h a q
  | .ask i j k, q => ⟨q.1, q.2.1, q.2.2.1, wpT_mono h q.2.2.2⟩
theorem wpT_bind {g : α → W.KasT β} {C : β → Prop} : ∀ {T : W.KasT α}, wpT f n T (fun a => wpT f n (g a) C) → wpT f n (T.bind g) C
  | .ret a, q => q
  | .ask i j k, q => ⟨q.1, q.2.1, q.2.2.1, wpT_bind q.2.2.2⟩
theorem kasWp_of {cmp : Nat → Nat → (Bool → Shared → Prop) → Shared → Prop} {s : Shared} {D : α → Shared → Prop} (h : ∀ i j (C : Bool → Shared → Prop), i < n → j < n → i ≠ j → C (f i j) s → cmp i j C s) :
    ∀ {T : W.KasT α}, wpT f n T (fun a => D a s) → W.KasT.kasWp cmp T D s
  | .ret a, q => q
  | .ask i j k, q => h i j _ q.1 q.2.1 q.2.2.1 (kasWp_of h q.2.2.2)
end
abbrev gd (p : Array Nat) (x : Nat) : Nat := p.getD x 0
theorem gd_of {p : Array Nat} {x v : Nat} (h : p[x]? = some v) : gd p x = v := by unfold gd; rw [Array.getD_eq_getD_getElem?, h]; rfl
theorem gd_eq {p q : Array Nat} {x y : Nat} (h : p[x]? = q[y]?) : gd p x = gd q y := by unfold gd; rw [Array.getD_eq_getD_getElem?, Array.getD_eq_getD_getElem?, h]
structure Gd (n : Nat) (p : Array Nat) : Prop where
  sz : p.size = n
  pm : p.Perm (List.range n).toArray
theorem Gd.lt {n x : Nat} {p : Array Nat} (g : Gd n p) (h : x < n) : gd p x < n := by
  have hx : x < p.size := by rw [g.sz]; exact h
  have e : p[x]? = some p[x] := Array.getElem?_eq_getElem hx
  rw [gd_of e]
  have m : p[x] ∈ (List.range n).toArray := (g.pm.mem_iff).mp (Array.getElem_mem hx)
  simpa using m
theorem Gd.ne {n x y : Nat} {p : Array Nat} (g : Gd n p) (hx : x < n) (hy : y < n) (h : x ≠ y) : gd p x ≠ gd p y := by
  have hx' : x < p.toList.length := by rw [Array.length_toList, g.sz]; exact hx
  have hy' : y < p.toList.length := by rw [Array.length_toList, g.sz]; exact hy
  have nd : p.toList.Nodup := (g.pm.toList.nodup_iff).mpr (by simpa using List.nodup_range)
  have e1 : gd p x = p.toList[x] := gd_of (by rw [Array.getElem?_eq_getElem (by rw [g.sz]; exact hx)]; simp)
  have e2 : gd p y = p.toList[y] := gd_of (by rw [Array.getElem?_eq_getElem (by rw [g.sz]; exact hy)]; simp)
  rw [e1, e2]
  intro e
  exact h ((List.getElem_inj nd).mp e)
section
variable {key : Nat → Int} {n : Nat}
def Asc (key : Nat → Int) (p : Array Nat) (m : Nat) : Prop := ∀ i j, i < j → j < m → key (gd p i) < key (gd p j)
def Dsc (key : Nat → Int) (p : Array Nat) (m : Nat) : Prop := ∀ i j, i < j → j < m → key (gd p j) < key (gd p i)
abbrev fK (key : Nat → Int) : Nat → Nat → Bool := fun i j => decide (key i < key j)
def Inj (key : Nat → Int) (n : Nat) : Prop := ∀ i j, i < n → j < n → key i = key j → i = j
theorem asc_ok (inj : Inj key n) {p : Array Nat} (g : Gd n p) : ∀ (fuel m : Nat), 1 ≤ m → m + fuel ≤ n → Asc key p m →
    wpT (fK key) n (W.kas_asc p fuel m) fun r => m ≤ r ∧ r ≤ m + fuel ∧ Asc key p r ∧ (r < m + fuel → key (gd p r) < key (gd p (r - 1)))
  | 0, m, h1, h2, a => by rw [W.kas_asc.eq_1]; exact ⟨Nat.le_refl _, Nat.le_refl _, a, fun z => absurd z (Nat.lt_irrefl _)⟩
  | fuel + 1, m, h1, h2, a => by
    rw [W.kas_asc.eq_2]
    have ne := g.ne (x := m) (y := m - 1) (by omega) (by omega) (by omega)
    refine ⟨g.lt (by omega), g.lt (by omega), ne, ?_⟩
    by_cases c : key (gd p m) < key (gd p (m - 1))
    · rw [show fK key (p.getD m 0) (p.getD (m - 1) 0) = true from decide_eq_true c]
      dsimp only
      rw [if_pos rfl]
      exact ⟨Nat.le_refl _, by omega, a, fun _ => c⟩
    · rw [show fK key (p.getD m 0) (p.getD (m - 1) 0) = false from decide_eq_false c]
      dsimp only
      rw [if_neg Bool.false_ne_true]
      have hne : key (gd p m) ≠ key (gd p (m - 1)) := fun e => ne (inj _ _ (g.lt (by omega)) (g.lt (by omega)) e)
      have a' : Asc key p (m + 1) := fun i j hij hj => by
        by_cases hjm : j < m
        · exact a i j hij hjm
        · have e : j = m := by omega
          subst e
          by_cases hi : i = j - 1
          · subst hi; omega
          · have := a i (j - 1) (by omega) (by omega)
            omega
      refine wpT_mono (fun r q => ⟨by omega, by omega, q.2.2.1, fun z => q.2.2.2 (by omega)⟩) (asc_ok inj g fuel (m + 1) (by omega) (by omega) a')
theorem desc_ok (inj : Inj key n) {p : Array Nat} (g : Gd n p) : ∀ (fuel m : Nat), 1 ≤ m → m + fuel ≤ n → Dsc key p m →
    wpT (fK key) n (W.kas_desc fuel p m 0) fun r => r.1 = p ∧ r.2.2 = 0 ∧ m ≤ r.2.1 ∧ r.2.1 ≤ m + fuel ∧ Dsc key p r.2.1
  | 0, m, h1, h2, a => by rw [W.kas_desc.eq_1]; exact ⟨rfl, rfl, Nat.le_refl _, Nat.le_refl _, a⟩
  | fuel + 1, m, h1, h2, a => by
    rw [W.kas_desc.eq_2]
    have ne := g.ne (x := m) (y := m - 1) (by omega) (by omega) (by omega)
    refine ⟨g.lt (by omega), g.lt (by omega), ne, ?_⟩
    by_cases c : key (gd p m) < key (gd p (m - 1))
    · rw [show fK key (p.getD m 0) (p.getD (m - 1) 0) = true from decide_eq_true c]
      dsimp only
      rw [if_pos rfl, if_neg (by omega)]
      have a' : Dsc key p (m + 1) := fun i j hij hj => by
        by_cases hjm : j < m
        · exact a i j hij hjm
        · have e : j = m := by omega
          subst e
          by_cases hi : i = j - 1
          · subst hi; exact c
          · have := a i (j - 1) (by omega) (by omega)
            omega
      exact wpT_mono (fun r q => ⟨q.1, q.2.1, by omega, by omega, q.2.2.2.2⟩) (desc_ok inj g fuel (m + 1) (by omega) (by omega) a')
    · rw [show fK key (p.getD m 0) (p.getD (m - 1) 0) = false from decide_eq_false c]
      dsimp only
      rw [if_neg Bool.false_ne_true]
      have hne : key (gd p m) ≠ key (gd p (m - 1)) := fun e => ne (inj _ _ (g.lt (by omega)) (g.lt (by omega)) e)
      refine ⟨g.lt (by omega), g.lt (by omega), Ne.symm ne, ?_⟩
      rw [show fK key (p.getD (m - 1) 0) (p.getD m 0) = true from decide_eq_true (by show key (gd p (m - 1)) < key (gd p m); omega)]
      dsimp only
      rw [if_pos rfl]
      exact ⟨rfl, rfl, Nat.le_refl _, by show m ≤ m + (fuel + 1); omega, a⟩
theorem count_ok (inj : Inj key n) {p : Array Nat} (g : Gd n p) (h2 : 2 ≤ n) : wpT (fK key) n (W.kas_count n p) fun r => Gd n r.2 ∧ 1 ≤ r.1 ∧ r.1 ≤ n ∧ Asc key r.2 r.1 := by
  unfold W.kas_count
  refine wpT_bind (wpT_mono (fun r q => ?_) (asc_ok inj g (n - 1) 1 (Nat.le_refl _) (by omega) (fun i j _ _ => by omega)))
  obtain ⟨q1, q2, q3, q4⟩ := q
  by_cases e : r = n
  · rw [if_pos (by simpa using e)]
    exact ⟨g, q1, by omega, q3⟩
  rw [if_neg (by simpa using e)]
  by_cases e1 : r > 1
  · rw [if_pos e1]
    refine ⟨g.lt (by omega), g.lt (by omega), g.ne (by omega) (by omega) (by omega), ?_⟩
    rw [show fK key (p.getD 0 0) (p.getD (r - 1) 0) = true from decide_eq_true (q3 0 (r - 1) (by omega) (by omega))]
    dsimp only
    rw [if_pos rfl]
    exact ⟨g, q1, by omega, q3⟩
  rw [if_neg e1]
  have er : r = 1 := by omega
  subst er
  have q4 := q4 (by omega)
  unfold W.kas_descPart
  refine wpT_bind (wpT_mono (fun r q => ?_) (desc_ok inj g (n - (1 + 1)) (1 + 1) (by omega) (by omega) (fun i j hij hj => by
    have : i = 0 := by omega
    have : j = 1 := by omega
    subst i j; exact q4)))
  obtain ⟨d1, d2, d3, d4, d5⟩ := q
  rw [d1, d2, if_neg (by omega)]
  unfold W.kas_tail3
  have gm : ∀ k, gd (W.kas_rev p 0 r.2.1) k = if k < r.2.1 then gd p (r.2.1 - 1 - k) else gd p k := fun k => by
    have z := getElem?_mirror_all (xs := p) (i := 0) (j := r.2.1) (by rw [g.sz]; omega) k
    unfold W.kas_rev
    by_cases hk : k < r.2.1
    · rw [if_pos hk]
      rw [if_pos ⟨Nat.zero_le _, hk⟩] at z
      exact gd_eq (by rw [z]; congr 1; omega)
    · rw [if_neg hk]
      rw [if_neg (fun y => hk y.2)] at z
      exact gd_eq z
  have g' : Gd n (W.kas_rev p 0 r.2.1) := ⟨by unfold W.kas_rev; rw [mirror_size, g.sz], by unfold W.kas_rev; exact (mirror_perm _ _ _ _).trans g.pm⟩
  have a' : Asc key (W.kas_rev p 0 r.2.1) r.2.1 := fun i j hij hj => by
    rw [gm, gm, if_pos (by omega), if_pos hj]
    exact d5 _ _ (by omega) (by omega)
  refine wpT_bind (wpT_mono (fun m q => ?_) (asc_ok inj g' (n - r.2.1) r.2.1 (by omega) (by omega) a'))
  exact ⟨g', by omega, by omega, q.2.2.1⟩
theorem place_ok (inj : Inj key n) {p : Array Nat} (g : Gd n p) {k : Nat} (hk : k < n) (a : Asc key p k) : ∀ (fuel lo hi : Nat), hi - lo ≤ fuel → lo ≤ hi → hi ≤ k → (∀ i, i < lo → key (gd p i) < key (gd p k)) → (∀ i, hi ≤ i → i < k → key (gd p k) < key (gd p i)) →
    wpT (fK key) n (W.kas_place p k fuel lo hi) fun l => l ≤ k ∧ (∀ i, i < l → key (gd p i) < key (gd p k)) ∧ ∀ i, l ≤ i → i < k → key (gd p k) < key (gd p i)
  | 0, lo, hi, h1, h2, h3, h4, h5 => by
    rw [W.kas_place.eq_1]
    have e : hi = lo := by omega
    subst e
    exact ⟨h3, h4, h5⟩
  | fuel + 1, lo, hi, h1, h2, h3, h4, h5 => by
    rw [W.kas_place.eq_2]
    by_cases e : lo ≥ hi
    · rw [if_pos e]
      have e : hi = lo := by omega
      subst e
      exact ⟨h3, h4, h5⟩
    rw [if_neg e]
    have ne := g.ne (x := k) (y := (lo + hi) / 2) hk (by omega) (by omega)
    refine ⟨g.lt hk, g.lt (by omega), ne, ?_⟩
    by_cases c : key (gd p k) < key (gd p ((lo + hi) / 2))
    · rw [show fK key (p.getD k 0) (p.getD ((lo + hi) / 2) 0) = true from decide_eq_true c]
      dsimp only
      rw [if_pos rfl]
      refine place_ok inj g hk a fuel lo ((lo + hi) / 2) (by omega) (by omega) (by omega) h4 fun i hi1 hi2 => ?_
      by_cases z : i = (lo + hi) / 2
      · rw [z]; exact c
      · have := a ((lo + hi) / 2) i (by omega) hi2; omega
    · rw [show fK key (p.getD k 0) (p.getD ((lo + hi) / 2) 0) = false from decide_eq_false c]
      dsimp only
      rw [if_neg Bool.false_ne_true]
      have hne : key (gd p k) ≠ key (gd p ((lo + hi) / 2)) := fun e => ne (inj _ _ (g.lt hk) (g.lt (by omega)) e)
      refine place_ok inj g hk a fuel ((lo + hi) / 2 + 1) hi (by omega) (by omega) h3 (fun i hi1 => ?_) h5
      by_cases z : i = (lo + hi) / 2
      · rw [z]; omega
      · have := a i ((lo + hi) / 2) (by omega) (by omega); omega
theorem bin_ok (inj : Inj key n) : ∀ (fuel k : Nat) (p : Array Nat), Gd n p → k + fuel = n → Asc key p k → wpT (fK key) n (W.kas_bin fuel p k) fun p' => Gd n p' ∧ Asc key p' n
  | 0, k, p, g, h, a => by
    rw [W.kas_bin.eq_1]
    have e : k = n := by omega
    rw [← e]; exact ⟨by rw [e]; exact g, a⟩
  | fuel + 1, k, p, g, h, a => by
    rw [W.kas_bin.eq_2]
    refine wpT_bind (wpT_mono (fun l q => ?_) (place_ok inj g (k := k) (by omega) a k 0 k (by omega) (by omega) (Nat.le_refl _) (fun i z => absurd z (Nat.not_lt_zero _)) (fun i z1 z2 => absurd z2 (by omega))))
    obtain ⟨q1, q2, q3⟩ := q
    have gm : ∀ j, gd (bubble p k (k - l)) j = if j = l then gd p k else if l < j ∧ j ≤ k then gd p (j - 1) else gd p j := fun j => by
      have z := getElem?_bubble (xs := p) (src := k) (by rw [g.sz]; omega) (k - l) (by omega) j
      rw [show k - (k - l) = l by omega] at z
      by_cases c1 : j = l
      · rw [if_pos c1] at z ⊢; exact gd_eq z
      · rw [if_neg c1] at z ⊢
        by_cases c2 : l < j ∧ j ≤ k
        · rw [if_pos c2] at z ⊢; exact gd_eq z
        · rw [if_neg c2] at z ⊢; exact gd_eq z
    refine bin_ok inj fuel (k + 1) _ ⟨by rw [bubble_size, g.sz], (bubble_perm _ _ _).trans g.pm⟩ (by omega) fun i j hij hj => ?_
    rw [gm, gm]
    by_cases c1 : i = l
    · rw [if_pos c1, if_neg (by omega), if_pos (by omega)]
      exact q3 _ (by omega) (by omega)
    · rw [if_neg c1]
      by_cases c2 : j = l
      · rw [if_pos c2, if_neg (by omega)]
        exact q2 i (by omega)
      · rw [if_neg c2]
        by_cases c3 : l < i ∧ i ≤ k
        · rw [if_pos c3, if_pos (by omega)]
          exact a _ _ (by omega) (by omega)
        · rw [if_neg c3]
          by_cases c4 : l < j ∧ j ≤ k
          · rw [if_pos c4]
            exact a _ _ (by omega) (by omega)
          · rw [if_neg c4]
            exact a _ _ hij (by omega)
theorem sort_ok (inj : Inj key n) (h2 : 2 ≤ n) : wpT (fK key) n (W.kas_sort n) fun p => Gd n p ∧ Asc key p n := by
  unfold W.kas_sort
  have g0 : Gd n (List.range n).toArray := ⟨by simp, .refl _⟩
  refine wpT_bind (wpT_mono (fun r q => ?_) (count_ok inj g0 h2))
  obtain ⟨q1, q2, q3, q4⟩ := q
  by_cases c : r.1 < n
  · rw [if_pos c, show max r.1 1 = r.1 by omega]
    exact bin_ok inj _ _ _ q1 (by omega) q4
  · rw [if_neg c]
    have e : r.1 = n := by omega
    rw [e] at q4
    exact ⟨q1, q4⟩
end
end L2
namespace L2
open PySem PySem.Spec PyProof.Rows
theorem sort_free {prog : Program} {w : World} {A : Around} {E : Value → Shared → Prop} {s : Shared} {a : Addr} {vs : List Value} {n : Nat} {key : Nat → Int} {P : PySem.Fin → Shared → Prop}
    (ha : s.heap.get? a = some (seqObj "list" vs.toArray n)) (hl : vs.length < 64) (inj : Inj key vs.length)
    (hk : ∀ h' : Heap, (∀ b o, b ≠ a → s.heap.get? b = some o → h'.get? b = some o) → 2 ≤ vs.length → ∃ κ, (∀ {Q : SortKind → Shared → Prop} {E : Value → Shared → Prop}, Q κ { s with heap := h' } → wpAny (model prog w) A (keyKind' vs.toArray) Q E { s with heap := h' }) ∧
      ∀ i j (C : Bool → Shared → Prop), i < vs.length → j < vs.length → i ≠ j → C (fK key i j) { s with heap := h' } → W.kas_ask prog w A κ vs i j C { s with heap := h' })
    (h : ∀ (h' : Heap) (p : Array Nat) (k : Nat), Gd vs.length p → Asc key p vs.length → (∀ b o, b ≠ a → s.heap.get? b = some o → h'.get? b = some o) → h'.get? a = some (seqObj "list" (p.toList.map fun i => vs.getD i .none).toArray k) → P (.done (.ret .none)) { s with heap := h' }) :
    wpAny (model prog w) A (Builtin.«list.sort» { pos := [.ref a] }) P E s := by
  unfold Builtin.«list.sort»
  dsimp only
  rw [if_neg (by simp), if_neg (by simp)]
  refine wpAny_bind ?_
  rw [List.forIn_nil]
  refine wpAny_pure ?_
  refine wpAny_bind (wpAny_pure ?_)
  refine wpAny_bind (listItems_at ha rfl ?_)
  refine wpAny_bind (listUpdate_at ha rfl ?_ (by simp; have : sizeLine = 16777216 := (by decide); omega) (by simp))
  obtain ⟨k1, gs⟩ : ∃ k1, (s.heap.update a (Obj.mapSeq fun _ => #[])).get? a = some (seqObj "list" #[] k1) := ⟨_, Heap.get?_update_self _ ha rfl⟩
  have kp1 : ∀ b o, b ≠ a → s.heap.get? b = some o → (s.heap.update a (Obj.mapSeq fun _ => #[])).get? b = some o := fun b o n e => by rw [Heap.get?_update_ne _ _ _ _ n]; exact e
  generalize s.heap.update a (Obj.mapSeq fun _ => #[]) = h1 at gs kp1 ⊢
  have hsz : sizeLine = 16777216 := by decide
  refine wpAny_bind (seqEpoch_at gs rfl ?_)
  refine wpAny_bind (wpAny_newTuple ?_ (by simp; omega))
  refine wpAny_bind (wpAny_newList ?_ (by simp))
  refine wpAny_holding ?_
  have kp3 : ∀ b o, b ≠ a → s.heap.get? b = some o → ((h1.push { cls := .type "tuple", data := .seq vs.toArray.toList.toArray }).push { cls := .type "list", data := .seq ([] : List Value).toArray }).get? b = some o := fun b o n e => Heap.get?_push_of_some _ (Heap.get?_push_of_some _ (kp1 b o n e))
  have gs3 : ((h1.push { cls := .type "tuple", data := .seq vs.toArray.toList.toArray }).push { cls := .type "list", data := .seq ([] : List Value).toArray }).get? a = some (seqObj "list" #[] k1) := Heap.get?_push_of_some _ (Heap.get?_push_of_some _ gs)
  generalize (h1.push { cls := .type "tuple", data := .seq vs.toArray.toList.toArray }).push { cls := .type "list", data := .seq ([] : List Value).toArray } = h3 at kp3 gs3 ⊢
  have hkf : ((List.lookup (Str.ofString "key") ([] : List (Str × Value))).getD Value.none != Value.none) = false := by decide
  have fin : ∀ (st : SortSt) (p : Array Nat) (s' : Shared), s' = { s with heap := h3 } → Gd vs.length p → Asc key p vs.length → arrOf st = Array.map (W.kas_item (vs.toArray.zip vs.toArray)) p → failedOf st = none →
      wpAny (model prog w) A (do
        let __do_lift ← seqEpoch a
        Builtin.List.listUpdate (.ref a) fun x => Array.map (fun x => x.snd) (arrOf st)
        match failedOf st with
          | some e => do
            rule "list.sort.comparison-raised"
            throw e
            if (__do_lift != k1) = true then do
                rule "list.sort.modified"
                raiseErrorWords "ValueError" "list modified during sort"
                ret Value.none
              else ret Value.none
          | x =>
            if (__do_lift != k1) = true then do
              rule "list.sort.modified"
              raiseErrorWords "ValueError" "list modified during sort"
              ret Value.none
            else ret Value.none) P E s' := fun st p s' es g as har hf => by
    subst es
    refine wpAny_bind (seqEpoch_at gs3 rfl ?_)
    have em : Array.map (fun x => x.snd) (arrOf st) = (p.toList.map fun i => vs.getD i .none).toArray := by
      rw [har]
      apply Array.ext'
      simp only [Array.toList_map, List.map_map]
      refine List.map_congr_left fun i _ => ?_
      show (W.kas_item (pairsOf vs) i).2 = _
      rw [W.kas_item_eq]
    refine wpAny_bind (listUpdate_at gs3 rfl ?_ (by simp) (by rw [em]; simp; rw [g.sz]; omega))
    rw [hf]
    show wpAny _ _ (if (k1 != k1) = true then _ else _) _ _ _
    rw [if_neg (by simp)]
    refine wpAny_pure ?_
    obtain ⟨k2, z⟩ : ∃ k2, (h3.update a (Obj.mapSeq fun x => Array.map (fun x => x.snd) (arrOf st))).get? a = some (seqObj "list" (Array.map (fun x => x.snd) (arrOf st)) k2) := ⟨_, Heap.get?_update_self _ gs3 rfl⟩
    have z : (h3.update a (Obj.mapSeq fun x => Array.map (fun x => x.snd) (arrOf st))).get? a = some (seqObj "list" (p.toList.map fun i => vs.getD i .none).toArray k2) := by rw [z, em]
    exact h _ p k2 g as (fun b o n e => by
      show (h3.update a _).get? b = some o
      rw [Heap.get?_update_ne _ _ _ _ n]; exact kp3 b o n e) z
  simp only [hkf, Bool.false_eq_true, if_false]
  refine wpAny_bind (wpAny_pure ?_)
  by_cases h2 : vs.length < 2
  · simp only [show (vs.toArray.size < 2) = True from eq_true (by simpa using h2), if_true]
    refine wpAny_bind (wpAny_pure ?_)
    refine wpAny_bind (wpAny_pure ?_)
    refine fin _ (List.range vs.length).toArray _ rfl ⟨by simp, .refl _⟩ (fun i j z1 z2 => absurd z2 (by omega)) ?_ rfl
    show vs.toArray.zip vs.toArray = _
    have := W.kas_range (vs.toArray.zip vs.toArray)
    rw [show (vs.toArray.zip vs.toArray).size = vs.length by simp] at this
    exact this.symm
  · simp only [show (vs.toArray.size < 2) = False from eq_false (by simpa using h2), if_false]
    obtain ⟨κ, hk1, hk2⟩ := hk h3 kp3 (by omega)
    refine wpAny_bind (hk1 ?_)
    refine wpAny_bind ?_
    refine thn (W.kat_run (vs := vs) (ks := vs) (κ := κ) (Q := fun st s' => ∃ p, s' = { s with heap := h3 } ∧ Gd vs.length p ∧ Asc key p vs.length ∧ arrOf st = Array.map (W.kas_item (vs.toArray.zip vs.toArray)) p ∧ failedOf st = none) (G := fun p s' => s' = { s with heap := h3 } ∧ Gd vs.length p ∧ Asc key p vs.length) rfl (by omega) hl (fun p st' s' hp ha' hf hg => ⟨p, hg.1, hg.2.1, hg.2.2, ha', hf⟩) ?_) fun r s' ⟨p, e1, e2, e3, e4, e5⟩ => ?_
    · exact kasWp_of (f := fK key) (n := vs.length) hk2 (wpT_mono (fun p q => ⟨rfl, q⟩) (sort_ok inj (by omega)))
    · exact fin r.2 p s' e1 e2 e3 e4 e5
end L2
namespace L2
open PySem PySem.Spec PyProof.Rows
theorem sorted_free {prog : Program} {w : World} {A : Around} {E : Value → Shared → Prop} {s : Shared} {v : Value} {Q : Value → Shared → Prop}
    (hc : ∀ {R : List Value → Shared → Prop} {E' : Value → Shared → Prop}, (∀ (vs : List Value) (s1 : Shared), (∃ key, vs.length < 64 ∧ Inj key vs.length ∧ (∀ b o, s.heap.get? b = some o → s1.heap.get? b = some o) ∧ s1.gens = s.gens ∧ s1.drawn = s.drawn ∧ s1.os = s.os ∧
        (∀ h' : Heap, (∀ b o, s1.heap.get? b = some o → h'.get? b = some o) → 2 ≤ vs.length → ∃ κ, (∀ {Q : SortKind → Shared → Prop} {E : Value → Shared → Prop}, Q κ { s1 with heap := h' } → wpAny (model prog w) A.in1.in1 (keyKind' vs.toArray) Q E { s1 with heap := h' }) ∧
          ∀ i j (C : Bool → Shared → Prop), i < vs.length → j < vs.length → i ≠ j → C (fK key i j) { s1 with heap := h' } → W.kas_ask prog w A.in1.in1 κ vs i j C { s1 with heap := h' }) ∧
        (∀ (h' : Heap) (l : Addr) (p : Array Nat) (k : Nat), Gd vs.length p → Asc key p vs.length → s1.heap.objs.size ≤ l → (∀ b o, s1.heap.get? b = some o → h'.get? b = some o) → h'.get? l = some (seqObj "list" (p.toList.map fun i => vs.getD i .none).toArray k) → Q (.ref l) { s1 with heap := h' })) → R vs s1) →
      wpAny (model prog w) A.in1 (collect v) R E' s) :
    wpAny (model prog w) A (call (.builtin "sorted") [v]) Q E s := by
  refine Calls.call_function_entry kind_sorted plain_sorted entry_sorted (args_sorted1 _) ?_
  unfold Builtin.sorted
  refine wpAny_bind (wpAny_pure ?_)
  refine wpAny_bind (hc fun vs s1 h => ?_)
  obtain ⟨key, hl, inj, kp, e1, e2, e3, hk, h⟩ := h
  have hsz : sizeLine = 16777216 := by decide
  refine wpAny_bind (wpAny_newList ?_ (by omega))
  refine wpAny_bind (wpAny_holding ?_)
  have ty : Shared.TypeIs { s1 with heap := s1.heap.push { cls := .type "list", data := .seq vs.toArray } } (.ref s1.heap.objs.size) "list" := ⟨_, Heap.get?_push_size _ rfl, rfl⟩
  refine wpAny_call (codeAny_call_builtin PySem.F.slot_list_sort.plain PySem.F.entry_list_sort ?_)
  refine PySem.F.slot_list_sort.check _ _ _ _ _ _ _ _ ty (PySem.F.args_list_sort_1 _) ?_
  have gl : (s1.heap.push { cls := .type "list", data := .seq vs.toArray }).get? s1.heap.objs.size = some (seqObj "list" vs.toArray 0) := Heap.get?_push_size _ rfl
  have nl : ∀ b o, s1.heap.get? b = some o → b ≠ s1.heap.objs.size := fun b o e => Nat.ne_of_lt (Heap.lt_size e)
  refine sort_free (s := { s1 with heap := s1.heap.push { cls := .type "list", data := .seq vs.toArray } }) (key := key) gl hl inj (fun h' k' h2 => ?_) (fun h' p k g as k' gl' => ?_)
  · exact hk h' (fun b o e => k' b o (nl b o e) (Heap.get?_push_of_some _ e)) h2
  · exact wpAny_pure ⟨_, rfl, h h' _ p k g as (Nat.le_refl _) (fun b o e => k' b o (nl b o e) (Heap.get?_push_of_some _ e)) gl'⟩
section
variable {X : Cx} {pins : List (Addr × Obj)} {σ : St} {H H' : Hp} {s : Shared} {h' : Heap}
theorem Inv.more {t' : Nat} (I : Inv X pins σ H s) (k : ∀ b o, s.heap.get? b = some o → h'.get? b = some o) (e : ∀ b o, H b = some o → H' b = some o) (f : ∀ b o, H' b = some o → H b = none → s.heap.get? b = none)
    (hok : ∀ b o, H b = none → H' b = some o → ObjOk X.prog X.w H' h' b o) : Inv X pins σ H' { s with heap := h', toks := t' } := by
  refine I.un ⟨fun b o q _ _ _ => k b o q, fun b o q _ _ _ => ⟨o.slots, k b o q⟩, fun b o q n _ => ?_, fun b o q _ => ⟨o, k b o q⟩, fun b xs q => e b _ q, fun b o u q => e b _ q, fun b ps q => ⟨#[], by rw [Array.append_empty]; exact e b _ q⟩⟩ (fun b o q => ?_)
  · cases z : H' b with
    | none => rfl
    | some u => rw [f b u z n] at q; cases q
  · cases z : H b with
    | none => exact hok b o z q
    | some u =>
      have := e b u z
      rw [q] at this; cases this
      exact (I.hok b o z).stay (fun c v _ y => k c v y) (fun c y => e c _ y) fun c xs y => e c _ y
end
def IntK (kvs : List (Key × V)) : Prop := ∀ p ∈ kvs, ∃ i, p.1 = .inl i
def keyI : Key → Int
  | .inl i => i
  | .inr _ => 0
theorem nodup_key {kvs : List (Key × V)} (hi : IntK kvs) (nd : (kvs.map (·.1)).Nodup) : Inj (fun j => keyI ((kvs.map (·.1)).getD j (.inl 0))) kvs.length := fun i j h1 h2 e => by
  have l : (kvs.map (·.1)).length = kvs.length := by simp
  have e1 : (kvs.map (·.1)).getD i (.inl 0) = (kvs.map (·.1))[i]'(by omega) := by rw [List.getD_eq_getElem?_getD, List.getElem?_eq_getElem (by omega)]; rfl
  have e2 : (kvs.map (·.1)).getD j (.inl 0) = (kvs.map (·.1))[j]'(by omega) := by rw [List.getD_eq_getElem?_getD, List.getElem?_eq_getElem (by omega)]; rfl
  have e : keyI ((kvs.map (·.1)).getD i (.inl 0)) = keyI ((kvs.map (·.1)).getD j (.inl 0)) := e
  rw [e1, e2] at e
  obtain ⟨a, ha⟩ := hi kvs[i] (List.getElem_mem h1)
  obtain ⟨b, hb⟩ := hi kvs[j] (List.getElem_mem h2)
  have f1 : (kvs.map (·.1))[i]'(by omega) = .inl a := by rw [List.getElem_map]; exact ha
  have f2 : (kvs.map (·.1))[j]'(by omega) = .inl b := by rw [List.getElem_map]; exact hb
  rw [f1, f2] at e
  have e : a = b := e
  refine (List.getElem_inj nd (h₀ := by omega) (h₁ := by omega)).mp ?_
  rw [f1, f2, e]
end L2
namespace L2
open PySem PySem.Spec PyProof.Rows
theorem KV.at {kvs : List (Key × V)} {vs : List (Key × Value)} (r : KV kvs vs) : ∀ {j : Nat} {k : Key} {x : Value}, vs[j]? = some (k, x) → ∃ v, kvs[j]? = some (k, v) ∧ RelV v x := by
  induction r with
  | nil => intro j k x h; simp at h
  | cons h t ih =>
    intro j k x e
    cases j with
    | zero =>
      simp only [List.getElem?_cons_zero, Option.some.injEq] at e
      rename_i a b _ _
      refine ⟨a.2, ?_, ?_⟩
      · simp only [List.getElem?_cons_zero, Option.some.injEq]
        have := h.1
        rw [e] at this
        exact Prod.ext this rfl
      · have := h.2
        rw [e] at this; exact this
    | succ j => exact ih (by simpa using e)
theorem KV.len {kvs : List (Key × V)} {vs : List (Key × Value)} (r : KV kvs vs) : kvs.length = vs.length := Paired.length r
theorem KV.fsts {kvs : List (Key × V)} {vs : List (Key × Value)} (r : KV kvs vs) : kvs.map (·.1) = vs.map (·.1) := by
  induction r with
  | nil => rfl
  | cons h t ih => rw [List.map_cons, List.map_cons, ih, h.1]
abbrev kAt (kvs : List (Key × V)) (j : Nat) : Int := keyI ((kvs.map (·.1)).getD j (.inl 0))
theorem kAt_of {kvs : List (Key × V)} {j : Nat} {i : Int} {v : V} (h : kvs[j]? = some (.inl i, v)) : kAt kvs j = i := by
  unfold kAt
  rw [List.getD_eq_getElem?_getD, List.getElem?_map, h]; rfl
theorem is_int {P : Program} {w : World} {i : Int} {v : Value} (h : (mixKind P w).is (.inl i) v = true) : ∃ t, v = .int i t := by
  rw [mixKind_is] at h
  have h : Value.isInt i v = true := h
  cases v <;> first
    | (simp [Value.isInt] at h; done)
    | (simp only [Value.isInt, beq_iff_eq] at h; exact ⟨_, by rw [h]⟩)
theorem perm_keys {kvs : List (Key × V)} {p : Array Nat} (g : Gd kvs.length p) : (p.toList.map (kAt kvs)).Perm (kvs.map fun q => keyI q.1) := by
  have h1 : (p.toList.map (kAt kvs)).Perm ((List.range kvs.length).map (kAt kvs)) := by
    have := g.pm.toList
    exact List.Perm.map _ (by simpa using this)
  refine h1.trans (List.Perm.of_eq ?_)
  apply List.ext_getElem?
  intro j
  rw [List.getElem?_map, List.getElem?_map]
  by_cases h : j < kvs.length
  · rw [List.getElem?_range h, List.getElem?_eq_getElem h]
    show some (kAt kvs j) = some (keyI kvs[j].1)
    unfold kAt
    rw [List.getD_eq_getElem?_getD, List.getElem?_map, List.getElem?_eq_getElem h]; rfl
  · rw [List.getElem?_eq_none (by simp; omega), List.getElem?_eq_none (by omega)]; rfl
theorem asc_pairwise {key : Nat → Int} {n : Nat} {p : Array Nat} (g : Gd n p) (a : Asc key p n) : (p.toList.map key).Pairwise (· < ·) := by
  rw [List.pairwise_iff_getElem]
  intro i j hi hj hij
  rw [List.length_map, Array.length_toList, g.sz] at hi hj
  have z := a i j hij hj
  have e : ∀ k, (hk : k < n) → gd p k = p.toList[k]'(by rw [Array.length_toList, g.sz]; exact hk) := fun k hk => gd_of (by rw [Array.getElem?_eq_getElem (by rw [g.sz]; exact hk)]; simp)
  rw [e i hi, e j hj] at z
  simpa using z
section
variable {X : Cx}
def viewO (d : Addr) : Obj := { cls := .type "dict_items", data := .fields #[.ref d] }
theorem mt_items : MtR X "dict.items" (fun x vs H Q => ∃ d kvs, x = .ref d ∧ vs = [] ∧ H d = some (.dK kvs) ∧ ∀ p, H p = none → Q (.ref p) (upd H p (.frz (viewO d) (.own 0)))) := by
  intro pins s σ H x vs v us Q I rx rv h
  obtain ⟨d, kvs, rfl, rfl, hd, q⟩ := h
  obtain rfl : v = Value.ref d := rx
  cases rv.zero
  obtain ⟨hz, hS, ws, rel, dd⟩ := dk_of I.hok hd
  refine call_meetsIn PySem.F.slot_dict_items dd.typeIs PySem.F.entry_dict_items (PySem.F.args_dict_items_1 _) (meets_dict_items (mixKind X.prog X.w) d hS) ⟨⟨_, dd⟩, ?_⟩
  have hf : H s.heap.objs.size = none := I.hok.fresh (Nat.le_refl _)
  have g : (s.heap.push (viewO d)).get? s.heap.objs.size = some (viewO d) := Heap.get?_push_size _ rfl
  refine ⟨.ref s.heap.objs.size, _, I.laid (t' := s.toks) (fun b u e => Heap.get?_push_of_some _ e) (Nat.le_refl _) ?_, rfl, q _ hf⟩
  exact ⟨g, _, g⟩
theorem katTups_of {h : Heap} {PF : Value → Prop} : ∀ (vs : List Value), (∀ v ∈ vs, ∃ a o xs n f, v = Value.ref a ∧ h.get? a = some o ∧ o.cls = .type "tuple" ∧ o.data = .seq xs n ∧ xs[0]? = some f ∧ PF f) → ∃ fs, W.KatTups h vs fs ∧ fs.length = vs.length ∧ ∀ f ∈ fs, PF f
  | [], _ => ⟨[], by rw [W.KatTups.eq_1]; trivial, rfl, by simp⟩
  | v :: vs, hv => by
    obtain ⟨a, o, xs, n, f, e1, e2, e3, e4, e5, e6⟩ := hv v (by simp)
    obtain ⟨fs, i1, i2, i3⟩ := katTups_of vs fun u hu => hv u (by simp [hu])
    refine ⟨f :: fs, ?_, by simp [i2], fun g hg => ?_⟩
    · rw [W.KatTups.eq_2]
      exact ⟨⟨a, o, xs, n, e1, e2, e3, e4, e5⟩, i1⟩
    · rcases List.mem_cons.mp hg with rfl | hg
      · exact e6
      · exact i3 g hg
theorem lookup_zip {as : List Addr} {kvs : List (Key × V)} (nd : as.Nodup) (hl : as.length = kvs.length) {j : Nat} {a : Addr} (h : as[j]? = some a) : (as.zip kvs).lookup a = kvs[j]? := by
  induction as generalizing kvs j with
  | nil => simp at h
  | cons b r ih =>
    cases kvs with
    | nil => simp at hl
    | cons kv kr =>
      rw [List.zip_cons_cons, List.lookup_cons]
      cases j with
      | zero =>
        simp at h; subst h; simp
      | succ j =>
        have h' : r[j]? = some a := by simpa using h
        have hne : a ≠ b := fun e => by
          have := (List.nodup_cons.mp nd).1
          exact this (e ▸ List.mem_of_getElem? h')
        rw [show (a == b) = false by simpa using hne]
        simpa using ih (List.nodup_cons.mp nd).2 (by simpa using hl) h'
theorem lookup_none {as : List Addr} {kvs : List (Key × V)} {b : Addr} (h : b ∉ as) : (as.zip kvs).lookup b = none := by
  induction as generalizing kvs with
  | nil => simp
  | cons c r ih =>
    cases kvs with
    | nil => simp
    | cons kv kr =>
      rw [List.zip_cons_cons, List.lookup_cons]
      have : b ≠ c := fun e => h (by simp [e])
      rw [show (b == c) = false by simpa using this]
      exact ih fun z => h (by simp [z])
abbrev vAt (kvs : List (Key × V)) (j : Nat) : V := (kvs.map (·.2)).getD j .non
theorem vAt_of {kvs : List (Key × V)} {j : Nat} {k : Key} {v : V} (h : kvs[j]? = some (k, v)) : vAt kvs j = v := by
  unfold vAt
  rw [List.getD_eq_getElem?_getD, List.getElem?_map, h]; rfl
theorem perm_rows {kvs : List (Key × V)} {p : Array Nat} (g : Gd kvs.length p) : (p.toList.map fun i => (kAt kvs i, vAt kvs i)).Perm (kvs.map fun q => (keyI q.1, q.2)) := by
  have h1 : (p.toList.map fun i => (kAt kvs i, vAt kvs i)).Perm ((List.range kvs.length).map fun i => (kAt kvs i, vAt kvs i)) := by
    have := g.pm.toList
    exact List.Perm.map _ (by simpa using this)
  refine h1.trans (List.Perm.of_eq ?_)
  apply List.ext_getElem?
  intro j
  rw [List.getElem?_map, List.getElem?_map]
  by_cases h : j < kvs.length
  · rw [List.getElem?_range h, List.getElem?_eq_getElem h]
    show some (kAt kvs j, vAt kvs j) = some (keyI kvs[j].1, kvs[j].2)
    unfold kAt vAt
    rw [List.getD_eq_getElem?_getD, List.getElem?_map, List.getElem?_eq_getElem h, List.getD_eq_getElem?_getD, List.getElem?_map, List.getElem?_eq_getElem h]; rfl
  · rw [List.getElem?_eq_none (by simp; omega), List.getElem?_eq_none (by omega)]; rfl
end
end L2
namespace L2
open PySem PySem.Spec PyProof.Rows
abbrev Rw := Int × Str
def bitAt (k : Int) (b : Nat) : Int := k / 2 ^ b % 2
theorem bitAt_two (k : Int) (b : Nat) : bitAt k b = 0 ∨ bitAt k b = 1 := by unfold bitAt; omega
def prt (rows : List Rw) (b : Nat) (s : Int) : List Rw := rows.filter fun r => decide (bitAt r.1 b = s)
abbrev rwT (r : Rw) : Tm := .nd "row" (.int r.1) (.str r.2)
abbrev fkT : Tm → Tm → Tm := .nd "fork"
def topP : Nat → List Rw → Tm
  | _, [] => nlT
  | _, [r] => rwT r
  | 0, _ :: _ :: _ => nlT
  | b + 1, x :: y :: r => fkT (topP b (prt (x :: y :: r) b 0)) (topP b (prt (x :: y :: r) b 1))
theorem topP_nil (b : Nat) : topP b [] = nlT := by cases b <;> rfl
theorem topP_one (b : Nat) (r : Rw) : topP b [r] = rwT r := by cases b <;> rfl
theorem topP_more {b : Nat} {rows : List Rw} (h : 2 ≤ rows.length) : topP (b + 1) rows = fkT (topP b (prt rows b 0)) (topP b (prt rows b 1)) := by
  match rows, h with
  | x :: y :: r, _ => rfl
theorem div_step (k : Int) (b : Nat) : k / 2 ^ (b + 1) = k / 2 ^ b / 2 := by
  rw [Int.pow_succ, Int.ediv_ediv_of_nonneg (two_pow_nn b)]
theorem prt_mem {rows : List Rw} {b : Nat} {s : Int} {r : Rw} (h : r ∈ prt rows b s) : r ∈ rows ∧ bitAt r.1 b = s := by
  have := List.mem_filter.mp h
  exact ⟨this.1, of_decide_eq_true this.2⟩
structure OKR (b : Nat) (rows : List Rw) : Prop where
  nd : (rows.map (·.1)).Nodup
  al : ∀ r ∈ rows, ∀ r' ∈ rows, r.1 / 2 ^ b = r'.1 / 2 ^ b
theorem OKR.zero {rows : List Rw} (h : OKR 0 rows) : rows.length ≤ 1 := by
  match rows, h with
  | [], _ => simp
  | [_], _ => simp
  | x :: y :: r, h =>
    have e := h.al x (by simp) y (by simp)
    simp at e
    have n := h.nd
    simp [e] at n
theorem OKR.prt {b : Nat} {rows : List Rw} (h : OKR (b + 1) rows) (s : Int) : OKR b (prt rows b s) := by
  refine ⟨h.nd.sublist (List.Sublist.map _ List.filter_sublist), fun r hr r' hr' => ?_⟩
  obtain ⟨m1, e1⟩ := prt_mem hr
  obtain ⟨m2, e2⟩ := prt_mem hr'
  have e := h.al r m1 r' m2
  rw [div_step, div_step] at e
  unfold bitAt at e1 e2
  omega
theorem OKR.of {b : Nat} {rows : List Rw} (nd : (rows.map (·.1)).Nodup) (h : ∀ r ∈ rows, 0 ≤ r.1 ∧ r.1 < 2 ^ b) : OKR b rows :=
  ⟨nd, fun r hr r' hr' => by rw [Int.ediv_eq_zero_of_lt (h r hr).1 (h r hr).2, Int.ediv_eq_zero_of_lt (h r' hr').1 (h r' hr').2]⟩
theorem prt_len (b : Nat) : ∀ rows : List Rw, (prt rows b 0).length + (prt rows b 1).length = rows.length
  | [] => rfl
  | r :: t => by
    have ih := prt_len b t
    unfold prt at ih ⊢
    rcases bitAt_two r.1 b with e | e
    · rw [List.filter_cons_of_pos (by simp [e]), List.filter_cons_of_neg (by simp [e])]
      simp only [List.length_cons]; omega
    · rw [List.filter_cons_of_neg (by simp [e]), List.filter_cons_of_pos (by simp [e])]
      simp only [List.length_cons]; omega
def cstP : Nat → List Rw → Nat
  | 0, _ => 1
  | b + 1, rows => if rows.length ≤ 1 then 1 else 1 + cstP b (prt rows b 0) + cstP b (prt rows b 1)
theorem cstP_pos (b : Nat) (rows : List Rw) : 1 ≤ cstP b rows := by
  cases b with
  | zero => exact Nat.le_refl _
  | succ b => unfold cstP; split <;> omega
theorem cstP_more {b : Nat} {rows : List Rw} (h : 2 ≤ rows.length) : cstP (b + 1) rows = 1 + cstP b (prt rows b 0) + cstP b (prt rows b 1) := by
  show (if _ then _ else _) = _
  rw [if_neg (by omega)]
theorem cstP_le : ∀ (b : Nat) (rows : List Rw), cstP b rows ≤ 1 + 2 * (b * rows.length)
  | 0, _ => by simp [cstP]
  | b + 1, rows => by
    by_cases h : 2 ≤ rows.length
    · rw [cstP_more h]
      have i1 := cstP_le b (prt rows b 0)
      have i2 := cstP_le b (prt rows b 1)
      have l := prt_len b rows
      have e : b * rows.length = b * (prt rows b 0).length + b * (prt rows b 1).length := by rw [← l, Nat.mul_add]
      rw [Nat.add_mul]
      omega
    · show (if _ then _ else _) ≤ _
      rw [if_pos (by omega)]; omega
theorem topP_dep : ∀ (b : Nat) (rows : List Rw), (topP b rows).dep ≤ b + 1
  | b, [] => by rw [topP_nil]; simp [Tm.dep]
  | b, [r] => by rw [topP_one]; simp [Tm.dep]
  | 0, _ :: _ :: _ => by simp [topP, Tm.dep]
  | b + 1, x :: y :: r => by
    have i1 := topP_dep b (prt (x :: y :: r) b 0)
    have i2 := topP_dep b (prt (x :: y :: r) b 1)
    show max _ _ + 1 ≤ _
    omega
def RowAt (H : Hp) (r : Rw) (v : V) : Prop := ∃ p, v = .ref p ∧ H p = some (.tup [.int r.1, .str r.2])
abbrev RowsAt (H : Hp) : List Rw → List V → Prop := Paired (RowAt H)
theorem RowAt.up {S : Sl} {n : Nat} {H H' : Hp} {r : Rw} {v : V} (h : RowAt H r v) (g : Gn S n H H') : RowAt H' r v := by
  obtain ⟨p, e, q⟩ := h
  exact ⟨p, e, g.keep _ _ q rfl⟩
theorem RowsAt.up {S : Sl} {n : Nat} {H H' : Hp} {rows : List Rw} {vs : List V} (h : RowsAt H rows vs) (g : Gn S n H H') : RowsAt H' rows vs := Paired.imp2 (fun _ _ q => RowAt.up q g) h
theorem pr_snoc {α β : Type} {F : α → β → Prop} {l : List α} {m : List β} {a : α} {b : β} (h : Paired F l m) (r : F a b) : Paired F (l ++ [a]) (m ++ [b]) := pr_app h (.cons r .nil)
theorem filter_take {α : Type} {f : α → Bool} {l : List α} {i : Nat} {a : α} (h : l[i]? = some a) : (l.take (i + 1)).filter f = (l.take i).filter f ++ (if f a = true then [a] else []) := by
  rw [List.take_succ, h, List.filter_append]
  congr 1
  show [a].filter f = _
  cases e : f a <;> simp [e]
theorem comp_rows {K : PySem.W.Frag} {S : Sl} {js : List Nat} {tt : TT} {σ : St} {H : Hp} {R : Addr → Hp → Prop} {a : Addr} {rows : List Rw} {ws : List V} (f : Rw → Bool) (ts : Told S H) (hq : SqL K H a ws) (hw : RowsAt H rows ws) (hz : rows.length ≤ 100000)
    (htt : ∀ (p : Addr) (r : Rw) (H' : Hp) (Qb : Bool → Hp → Prop), H' p = some (.tup [.int r.1, .str r.2]) → Qb (f r) H' → tt (some (.ref p) :: capt js σ) H' Qb)
    (hQ : ∀ D H' ws', Gr S 0 H H' → H D = none → H' D = some (.lst ws') → RowsAt H' (rows.filter f) ws' → R D H') :
    ∀ D, H D = none → ∃ W : Nat → Nat → List V → Hp → Prop, (∃ m, W 0 m [] (upd H D (.lst []))) ∧ ∀ i m ys H, W i m ys H →
      ((Itl K a).stop i H ∧ R D H) ∨ ((Itl K a).go i H ∧ ∀ x H', (Itl K a).yld i H x H' → tt (some x :: capt js σ) H' fun b H2 => if b = true then tVar 0 (some x :: capt js σ) H2 fun y H3 => H3 D = some (.lst ys) ∧ ys.length < sizeLine ∧ ∃ m', m' < m ∧ W (i + 1) m' (ys ++ [y]) (upd H3 D (.lst (ys ++ [y])))
        else ∃ m', m' < m ∧ W (i + 1) m' ys H2) := by
  intro D hD
  refine ⟨fun i m ys H' => m = rows.length - i ∧ i ≤ rows.length ∧ H' D = some (.lst ys) ∧ Gr S 0 H H' ∧ RowsAt H' ((rows.take i).filter f) ys, ⟨rows.length, by simp, by omega, upd_same, Gr.new ts hD, .nil⟩, ?_⟩
  rintro i m ys H' ⟨rfl, hi, hD', g, ry⟩
  have hq' := g.sq hq
  have hl := pr_len hw
  by_cases hlt : i < rows.length
  · have hlt' : i < ws.length := by omega
    refine .inr ⟨⟨_, ws[i], hq', List.getElem?_eq_getElem hlt'⟩, fun x H2 ⟨e2, hx⟩ => ?_⟩
    subst e2
    have er : rows[i]? = some rows[i] := List.getElem?_eq_getElem hlt
    have ex := hx _ hq'
    obtain ⟨p, rfl, hp⟩ := pr_get hw er ex
    have hp' := g.gn.keep _ _ hp rfl
    refine htt p rows[i] H2 _ hp' ?_
    have ef := filter_take (f := f) er
    have ylen : ys.length ≤ i := by rw [← pr_len ry]; refine Nat.le_trans (List.length_filter_le _ _) ?_; rw [List.length_take]; omega
    cases e : f rows[i] with
    | true =>
      rw [if_pos rfl]
      rw [e, if_pos rfl] at ef
      have g4 : Gn S 0 H2 (upd H2 D (.lst (ys ++ [.ref p]))) := Gn.chg g.gn.told2 hD' rfl (fun _ e => nomatch e)
      refine ⟨_, rfl, hD', by rw [sizeLine_eq]; omega, rows.length - (i + 1), by omega, rfl, by omega, upd_same, g.own hD, ?_⟩
      rw [ef]
      exact RowsAt.up (pr_snoc ry ⟨p, rfl, hp'⟩) g4
    | false =>
      rw [if_neg (by simp)]
      rw [e, if_neg (by simp), List.append_nil] at ef
      exact ⟨rows.length - (i + 1), by omega, rfl, by omega, hD', g, by rw [ef]; exact ry⟩
  · have e : i = rows.length := by omega
    subst e
    refine .inl ⟨⟨_, hq', by omega⟩, ?_⟩
    rw [List.take_length] at ry
    exact hQ D H' ys g hD hD' ry
end L2
namespace L2
open PySem PySem.Spec PyProof.Rows
section
variable {X : Cx}
end
structure FunD (K : PySem.W.Frag) (x qual : Str) (st : Stmt) (f : Addr) (fd : FuncData) (ds : List Int) : Prop where
  ex : ∃ (oc : Value) (od : Option Addr) (T : Addr) (kV doc pm : Value) (an : Option Addr) (cdv ct : Value) (osl : Array (Option Value)) (oT : Obj) (its : List Value) (n : Nat),
    fd = PySem.W.fnOf x qual (defArgs st) (defBody st) (defScope st) (.ref T) kV doc pm an cdv ct ∧ K.lookup f = some ⟨oc, od, .func fd, osl⟩ ∧ PySem.W.codeIn K cdv qual = true ∧ K.lookup T = some oT ∧ oT.data = .seq its.toArray n ∧ IntsAre its ds
  kp : PySem.W.keepIn K (.ref f) = true
def MethD (K : PySem.W.Frag) (C : Addr) (m qual : Str) (st : Stmt) (ds : List Int) : Prop := ∃ f fd, Meth K C m f ∧ FunD K m qual st f fd ds
theorem methD_mk {K : PySem.W.Frag} {C : Addr} {m qual : Str} {st : Stmt} {f T : Addr} {oc oc2 : Value} {od an od2 : Option Addr} {osl osl2 : Array (Option Value)} {kV doc pm cdv ct : Value} {d : Int} {t : Tok} {n : Nat} (a : PySem.W.findIn K (.ref C) m = some (some (.ref f))) (i : PySem.W.isFn K (.ref f) = true)
    (l : K.lookup f = some ⟨oc, od, .func (PySem.W.fnOf m qual (defArgs st) (defBody st) (defScope st) (.ref T) kV doc pm an cdv ct), osl⟩) (c : PySem.W.codeIn K cdv qual = true) (k : PySem.W.keepIn K (.ref f) = true)
    (lT : K.lookup T = some ⟨oc2, od2, .seq #[.int d t] n, osl2⟩) : MethD K C m qual st [d] :=
  ⟨f, _, ⟨a, i, k⟩, ⟨⟨oc, od, T, kV, doc, pm, an, cdv, ct, osl, _, [.int d t], n, rfl, l, c, lT, rfl, .cons d t .nil⟩, k⟩⟩
section
variable {P : Program} {w : World} {K : PySem.W.Frag} {mg : Str → Option Value} {base : Heap}
theorem FunD.ok {x qual : Str} {st : Stmt} {f : Addr} {fd : FuncData} {ds : List Int} {N ps : List Str} {k : Nat} {sp : Sp} (F : FunD K x qual st f fd ds) (S : FnScope N ps (defScope st)) (len : ∀ vs H Q E, sp vs H Q E → vs.length = ps.length)
    (hbody : ∀ (cdv : Value) (A : Around) (outer : List Env) (s : Shared) (H : Hp) (vs : List V) (Q : VK) (E : XK), Room k (A.deeper (envOfC qual (defScope st) s.heap.objs.size f cdv)) → sp vs H Q E →
      ∃ t, PSs (cxOf CX0 P w K mg base N qual (defScope st) f cdv A outer s H E).nox (defBody st) t ∧ t { nx := fun _ H' => Q .non H', rt := Q } (start N vs) H) : FnOk P w K mg base CX0 (k + 1) f fd ps sp := by
  obtain ⟨oc, od, T, kV, doc, pm, an, cdv, ct, osl, oT, its, n, rfl, lk, hcd, _⟩ := F.ex
  refine fn_of lk hcd S len fun A outer s H vs Q E hr hsp => ?_
  obtain ⟨t, h, q⟩ := hbody cdv A outer s H vs Q E hr hsp
  exact ⟨t, h.nox, q⟩
theorem FunD.binds {x qual : Str} {st : Stmt} {f : Addr} {fd : FuncData} {d : Int} {ps : List Str} (F : FunD K x qual st f fd [d])
    (h : ∀ (T : Addr) (kV doc pm : Value) (an : Option Addr) (cdv ct : Value) (t : Tok) (us : List Value), us.length = ps.length → ∃ k, bindArgs (PySem.W.fnOf x qual (defArgs st) (defBody st) (defScope st) (.ref T) kV doc pm an cdv ct) ⟨us, []⟩ = seqItems? (.ref T) >>= k ∧ k (some #[.int d t]) = pure (ps.zip us)) : Binds K fd ps [] := by
  obtain ⟨oc, od, T, kV, doc, pm, an, cdv, ct, osl, oT, its, n, rfl, lk, hcd, lT, hs, hi⟩ := F.ex
  intro s us KX hl
  rw [List.append_nil] at hl ⊢
  obtain ⟨t, rfl⟩ : ∃ t, its = [.int d t] := by
    cases hi with
    | cons _ t r => cases r; exact ⟨t, rfl⟩
  obtain ⟨k, h1, h2⟩ := h T kV doc pm an cdv ct t us hl
  exact BindsTo.of_defaults rfl (KX _ _ lT) hs h1 h2
end
inductive IntCs : List Expr → List Int → Prop
  | nil : IntCs [] []
  | cons {n : Int} {j p} {es : List Expr} {ns : List Int} (h : IntCs es ns) : IntCs (.Constant (.int n) j p :: es) (n :: ns)
def tInts (ns : List Int) : TA := fun _ H Q => Q (ns.map V.int) H
theorem pa_ints {X : Cx} {es : List Expr} {ns : List Int} (h : IntCs es ns) : PA X es (tInts ns) := by
  induction h with
  | nil => exact pa_nil
  | cons h ih => exact pa_cons pe_int ih
theorem sorted_eq {α : Type} : ∀ {l₁ l₂ : List (Int × α)}, l₁.Perm l₂ → (l₁.map (·.1)).Pairwise (· < ·) → (l₂.map (·.1)).Pairwise (· < ·) → l₁ = l₂
  | [], l₂, p, _, _ => p.nil_eq
  | a :: r, [], p, _, _ => by cases p.symm.nil_eq
  | a :: r, b :: t, p, h1, h2 => by
    have h1' := List.pairwise_cons.mp (show ((a.1 :: r.map (·.1)).Pairwise (· < ·)) from h1)
    have h2' := List.pairwise_cons.mp (show ((b.1 :: t.map (·.1)).Pairwise (· < ·)) from h2)
    have e : a = b := by
      have m1 : a ∈ b :: t := p.mem_iff.mp (by simp)
      have m2 : b ∈ a :: r := p.mem_iff.mpr (by simp)
      rcases List.mem_cons.mp m1 with z | z
      · exact z
      rcases List.mem_cons.mp m2 with y | y
      · exact y.symm
      have z1 := h2'.1 a.1 (List.mem_map.mpr ⟨a, z, rfl⟩)
      have z2 := h1'.1 b.1 (List.mem_map.mpr ⟨b, y, rfl⟩)
      omega
    subst e
    rw [sorted_eq ((List.perm_cons a).mp p) h1'.2 h2'.2]
structure Rws (D : Nat) (kvs : List (Key × V)) : Prop where
  all : ∀ p ∈ kvs, ∃ i x, p = (.inl i, .str x) ∧ 0 ≤ i ∧ i < 2 ^ D
  nd : (kvs.map (·.1)).Nodup
theorem Rws.nil {D : Nat} : Rws D [] := ⟨fun _ h => (nomatch h), List.nodup_nil⟩
theorem Rws.ints {D : Nat} {kvs : List (Key × V)} (h : Rws D kvs) : IntK kvs := fun p hp => by
  obtain ⟨i, x, rfl, _⟩ := h.all p hp
  exact ⟨i, rfl⟩
theorem mem_valV {kvs : List (Key × V)} (nd : (kvs.map (·.1)).Nodup) {k : Key} {v : V} (h : (k, v) ∈ kvs) : valV kvs k = some v := by
  induction kvs with
  | nil => cases h
  | cons p r ih =>
    have nd' := List.nodup_cons.mp nd
    rcases List.mem_cons.mp h with e | e
    · subst e; exact valV_pos rfl
    · rw [valV_neg (fun z => nd'.1 (List.mem_map.mpr ⟨_, e, z.symm⟩))]
      exact ih nd'.2 e
theorem putK_old {kvs : List (Key × V)} {k : Key} {v : V} (h : (valV kvs k).isSome = true) : putK kvs k v = kvs.map (fun kv => if kv.1 = k then (kv.1, v) else kv) := by
  unfold putK
  rw [valV_any, if_pos h]
theorem Rws.put {D : Nat} {kvs : List (Key × V)} (h : Rws D kvs) {i : Int} (h0 : 0 ≤ i) (h1 : i < 2 ^ D) (x : Str) : Rws D (putK kvs (.inl i) (.str x)) := by
  cases e : valV kvs (.inl i) with
  | none =>
    refine ⟨fun p hp => ?_, nd_putK _ h.nd e⟩
    rw [putK_new _ e] at hp
    rcases List.mem_append.mp hp with z | z
    · exact h.all p z
    · rw [List.mem_singleton.mp z]; exact ⟨i, x, rfl, h0, h1⟩
  | some v =>
    have eo := putK_old (v := .str x) (show (valV kvs (.inl i)).isSome = true by rw [e]; rfl)
    rw [eo]
    refine ⟨fun p hp => ?_, ?_⟩
    · obtain ⟨q, hq, rfl⟩ := List.mem_map.mp hp
      by_cases z : q.1 = .inl i
      · rw [if_pos z, z]; exact ⟨i, x, rfl, h0, h1⟩
      · rw [if_neg z]; exact h.all q hq
    · have e2 : (kvs.map (fun kv => if kv.1 = .inl i then (kv.1, V.str x) else kv)).map (·.1) = kvs.map (·.1) := by
        rw [List.map_map]
        apply List.map_congr_left
        intro q _
        show (if q.1 = _ then _ else _ : Key × V).1 = q.1
        split <;> rfl
      rw [e2]; exact h.nd
theorem Rws.drop {D : Nat} {kvs : List (Key × V)} (h : Rws D kvs) (k : Key) : Rws D (dropK kvs k) := ⟨fun p hp => h.all p (dropK_mem hp), nd_dropK h.nd⟩
def SrtOf (kvs : List (Key × V)) (rows : List Rw) : Prop := (rows.map (·.1)).Pairwise (· < ·) ∧ (rows.map fun r => (r.1, V.str r.2)).Perm (kvs.map fun q => (keyI q.1, q.2))
theorem SrtOf.len {kvs : List (Key × V)} {rows : List Rw} (h : SrtOf kvs rows) : rows.length = kvs.length := by
  have := h.2.length_eq
  simpa using this
theorem SrtOf.uniq {kvs : List (Key × V)} {rows : List Rw} (h : SrtOf kvs rows) {rs : List (Int × V)} (h1 : (rs.map (·.1)).Pairwise (· < ·)) (h2 : rs.Perm (kvs.map fun q => (keyI q.1, q.2))) : rs = rows.map fun r => (r.1, V.str r.2) :=
  sorted_eq (h2.trans h.2.symm) h1 (by rw [List.map_map]; exact h.1)
theorem SrtOf.okr {D : Nat} {kvs : List (Key × V)} {rows : List Rw} (h : SrtOf kvs rows) (hw : Rws D kvs) : OKR D rows := by
  refine OKR.of (h.1.imp fun z => by omega) fun r hr => ?_
  have m : (r.1, V.str r.2) ∈ kvs.map fun q => (keyI q.1, q.2) := h.2.mem_iff.mp (List.mem_map.mpr ⟨r, hr, rfl⟩)
  obtain ⟨q, hq, e⟩ := List.mem_map.mp m
  obtain ⟨i, x, rfl, h0, h1⟩ := hw.all q hq
  have e1 : i = r.1 := congrArg Prod.fst e
  rw [← e1]; exact ⟨h0, h1⟩
def sVal (kvs : List (Key × V)) (k : Int) : Str := match valV kvs (.inl k) with | some (.str x) => x | _ => ""
theorem sVal_eq {D : Nat} {kvs : List (Key × V)} (hw : Rws D kvs) {k : Int} (h : .inl k ∈ kvs.map (·.1)) : valV kvs (.inl k) = some (.str (sVal kvs k)) := by
  obtain ⟨p, hp, e⟩ := List.mem_map.mp h
  obtain ⟨i, x, rfl, _, _⟩ := hw.all p hp
  have e1 : (Sum.inl i : Key) = .inl k := e
  cases e1
  have z := mem_valV hw.nd hp
  unfold sVal
  rw [z]
theorem srt_of {D : Nat} {kvs : List (Key × V)} (hw : Rws D kvs) {ks : List Int} (hp : ks.Perm (kvs.map fun q => keyI q.1)) (hs : ks.Pairwise (· < ·)) : SrtOf kvs (ks.map fun k => (k, sVal kvs k)) := by
  refine ⟨?_, ?_⟩
  · have e : (ks.map fun k => (k, sVal kvs k)).map (·.1) = ks := by rw [List.map_map]; exact (List.map_congr_left (fun _ _ => rfl)).trans (List.map_id _)
    rw [e]; exact hs
  · rw [List.map_map]
    refine (hp.map _).trans (List.Perm.of_eq ?_)
    rw [List.map_map]
    apply List.map_congr_left
    intro q hq
    obtain ⟨i, x, rfl, _, _⟩ := hw.all q hq
    show (i, V.str (sVal kvs i)) = (i, V.str x)
    have z := mem_valV hw.nd hq
    unfold sVal
    rw [z]
theorem key_mem {D : Nat} {kvs : List (Key × V)} (hw : Rws D kvs) {ks : List Int} (hp : ks.Perm (kvs.map fun q => keyI q.1)) {k : Int} (h : k ∈ ks) : .inl k ∈ kvs.map (·.1) := by
  obtain ⟨q, hq, e⟩ := List.mem_map.mp (hp.mem_iff.mp h)
  obtain ⟨i, x, rfl, _, _⟩ := hw.all q hq
  have e : i = k := e
  subst e
  exact List.mem_map.mpr ⟨_, hq, rfl⟩
theorem bits_lt {k : Int} (h : 0 ≤ k) (D : Nat) : (((Builtin.Int.intBits k : Nat) : Int) ≤ (D : Int)) ↔ k < 2 ^ D := by
  have hp := Nat.one_le_two_pow (n := D)
  unfold Builtin.Int.intBits
  rw [two_pow_cast]
  by_cases e : k = 0
  · subst e
    rw [show ((0 : Int) == 0) = true from rfl, if_pos rfl]
    omega
  · rw [show (k == 0) = false from beq_eq_false_iff_ne.mpr e, if_neg Bool.false_ne_true]
    have z := Nat.log2_lt (n := k.natAbs) (k := D) (by omega)
    omega
theorem xor1 {k : Int} {D : Nat} (hD : 1 ≤ D) (h0 : 0 ≤ k) (h1 : k < 2 ^ D) : 0 ≤ Builtin.bitXor k 1 ∧ Builtin.bitXor k 1 < 2 ^ D := by
  rw [bitXor_and, bitAnd_m1]
  obtain ⟨d, rfl⟩ : ∃ d, D = d + 1 := ⟨D - 1, by omega⟩
  rw [Int.pow_succ] at h1 ⊢
  have := two_pow_nn d
  omega
end L2
namespace L2
open PySem PySem.Spec PyProof.Rows
section
variable {P : Program} {w : World} {K : PySem.W.Frag} {mg : Str → Option Value} {base : Heap} {C : Addr}
end
section
variable {X : Cx} {C : Addr} {k : Nat} {ps : List Str} {sp : Sp} {m x : Str} {o e : Expr} {es : List Expr} {ta : TE} {t : TA} {p apos pos : Pos} {E : XK}
end
end L2
namespace L2
open PySem PySem.Spec PyProof.Rows
def isTup (H : Hp) (x : V) : Prop := ∃ a xs, x = .ref a ∧ H a = some (.tup xs)
def isLst (H : Hp) (x : V) : Prop := ∃ a xs, x = .ref a ∧ H a = some (.lst xs)
def EqB0 (H : Hp) (x y : V) (b : Bool) : Prop :=
  (flatV x = true ∧ flatV y = true ∧ b = eqV x y) ∨ (b = false ∧ ((flatV x = true ∧ (isTup H y ∨ isLst H y)) ∨ ((isTup H x ∨ isLst H x) ∧ flatV y = true) ∨ (isTup H x ∧ isLst H y) ∨ (isLst H x ∧ isTup H y)))
def EqB (H : Hp) : Nat → V → V → Bool → Prop
  | 0, x, y, b => EqB0 H x y b
  | n + 1, x, y, b => EqB0 H x y b ∨
    (∃ a c xs ys, ∃ e : Nat → Bool, x = .ref a ∧ y = .ref c ∧ H a = some (.tup xs) ∧ H c = some (.tup ys) ∧ (∀ (i : Nat) u v, xs[i]? = some u → ys[i]? = some v → EqB H n u v (e i)) ∧ b = ((List.range (min xs.length ys.length)).all e && xs.length == ys.length)) ∨
    (∃ a c xs ys, ∃ e : Nat → Bool, x = .ref a ∧ y = .ref c ∧ H a = some (.lst xs) ∧ H c = some (.lst ys) ∧ (∀ (i : Nat) u v, xs[i]? = some u → ys[i]? = some v → EqB H n u v (e i)) ∧ b = (xs.length == ys.length && (List.range xs.length).all e))
theorem EqB0.self {H : Hp} {x : V} {b : Bool} (h : EqB0 H x x b) : b = true := by
  have no : ∀ {x : V}, flatV x = true → (isTup H x ∨ isLst H x) → False := fun {x} f q => by
    rcases q with ⟨a, xs, rfl, _⟩ | ⟨a, xs, rfl, _⟩ <;> cases f
  have no2 : isTup H x → isLst H x → False := fun ⟨a, xs, e1, e2⟩ ⟨c, ys, e3, e4⟩ => by
    rw [e1] at e3; cases e3; rw [e2] at e4; cases e4
  rcases h with ⟨f, _, rfl⟩ | ⟨_, ⟨f, q⟩ | ⟨q, f⟩ | ⟨q, p⟩ | ⟨p, q⟩⟩
  · exact eqV_self f
  · exact (no f q).elim
  · exact (no f q).elim
  · exact (no2 q p).elim
  · exact (no2 q p).elim
theorem EqB.self {H : Hp} : ∀ {n : Nat} {x : V} {b : Bool}, EqB H n x x b → b = true
  | 0, x, b, h => EqB0.self h
  | n + 1, x, b, h => by
    rcases h with h | ⟨a, c, xs, ys, e, e1, e2, e3, e4, e5, rfl⟩ | ⟨a, c, xs, ys, e, e1, e2, e3, e4, e5, rfl⟩
    · exact EqB0.self h
    · rw [e1] at e2; cases e2
      rw [e3] at e4; cases e4
      have : (List.range (min xs.length xs.length)).all e = true := by
        rw [List.all_eq_true]
        intro i hi
        have hi : i < xs.length := by simpa using hi
        exact EqB.self (e5 i xs[i] xs[i] (List.getElem?_eq_getElem hi) (List.getElem?_eq_getElem hi))
      rw [this]; simp
    · rw [e1] at e2; cases e2
      rw [e3] at e4; cases e4
      have : (List.range xs.length).all e = true := by
        rw [List.all_eq_true]
        intro i hi
        have hi : i < xs.length := by simpa using hi
        exact EqB.self (e5 i xs[i] xs[i] (List.getElem?_eq_getElem hi) (List.getElem?_eq_getElem hi))
      rw [this]; simp
section
variable {X : Cx}
theorem Inv.tupV {pins : List (Addr × Obj)} {σ : St} {H : Hp} {s : Shared} {a : Addr} {xs : List V} (I : Inv X pins σ H s) (h : H a = some (.tup xs)) : ∃ its, Vals xs its ∧ s.heap.IsTuple a its.toArray := by
  obtain ⟨_, its, r, p⟩ := I.hok _ _ h
  exact ⟨its, r, p⟩
theorem Inv.lstV {pins : List (Addr × Obj)} {σ : St} {H : Hp} {s : Shared} {a : Addr} {xs : List V} (I : Inv X pins σ H s) (h : H a = some (.lst xs)) : ∃ its, Vals xs its ∧ s.heap.IsList a its.toArray := by
  obtain ⟨its, r, p, _⟩ := I.list (SqL.of h)
  exact ⟨its, r, p.isList⟩
theorem eqAt_B0 {pins : List (Addr × Obj)} {σ : St} {H : Hp} {s : Shared} {A : Around} {x y : V} {u v : Value} {b : Bool} (I : Inv X pins σ H s) (h : EqB0 H x y b) (rx : RelV x u) (ry : RelV y v) (hu : A.units < cLine) : SeqAt.EqAt A s u v b := by
  rcases h with ⟨f, g, rfl⟩ | ⟨rfl, ⟨f, ⟨a, xs, rfl, e⟩ | ⟨a, xs, rfl, e⟩⟩ | ⟨⟨a, xs, rfl, e⟩ | ⟨a, xs, rfl, e⟩, f⟩ | ⟨⟨a, xs, rfl, e⟩, ⟨c, ys, rfl, e2⟩⟩ | ⟨⟨a, xs, rfl, e⟩, ⟨c, ys, rfl, e2⟩⟩⟩
  · exact eqAt_V rx ry f g
  · obtain rfl : v = Value.ref a := ry
    obtain ⟨its, _, p⟩ := I.tupV e
    cases x with
    | non => cases rx; exact SeqAt.EqAt.none_tuple p hu
    | bl b => cases rx; exact SeqAt.EqAt.bool_tuple b p hu
    | int i => obtain ⟨t, rfl⟩ := rx; exact SeqAt.EqAt.int_tuple i t p hu
    | str z => obtain ⟨t, rfl⟩ := rx; exact SeqAt.EqAt.str_tuple z t p hu
    | _ => cases f
  · obtain rfl : v = Value.ref a := ry
    obtain ⟨its, _, p⟩ := I.lstV e
    cases x with
    | non => cases rx; exact SeqAt.EqAt.none_list p hu
    | bl b => cases rx; exact SeqAt.EqAt.bool_list b p hu
    | int i => obtain ⟨t, rfl⟩ := rx; exact SeqAt.EqAt.int_list i t p hu
    | str z => obtain ⟨t, rfl⟩ := rx; exact SeqAt.EqAt.str_list z t p hu
    | _ => cases f
  · obtain rfl : u = Value.ref a := rx
    obtain ⟨its, _, p⟩ := I.tupV e
    cases y with
    | non => cases ry; exact SeqAt.EqAt.tuple_none p hu
    | bl b => cases ry; exact SeqAt.EqAt.tuple_bool b p hu
    | int i => obtain ⟨t, rfl⟩ := ry; exact SeqAt.EqAt.tuple_int i t p hu
    | str z => obtain ⟨t, rfl⟩ := ry; exact SeqAt.EqAt.tuple_str z t p hu
    | _ => cases f
  · obtain rfl : u = Value.ref a := rx
    obtain ⟨its, _, p⟩ := I.lstV e
    cases y with
    | non => cases ry; exact SeqAt.EqAt.list_none p hu
    | bl b => cases ry; exact SeqAt.EqAt.list_bool b p hu
    | int i => obtain ⟨t, rfl⟩ := ry; exact SeqAt.EqAt.list_int i t p hu
    | str z => obtain ⟨t, rfl⟩ := ry; exact SeqAt.EqAt.list_str z t p hu
    | _ => cases f
  · obtain rfl : u = Value.ref a := rx
    obtain rfl : v = Value.ref c := ry
    obtain ⟨its, _, p⟩ := I.tupV e
    obtain ⟨its2, _, p2⟩ := I.lstV e2
    exact SeqAt.EqAt.tuple_list p p2 hu
  · obtain rfl : u = Value.ref a := rx
    obtain rfl : v = Value.ref c := ry
    obtain ⟨its, _, p⟩ := I.lstV e
    obtain ⟨its2, _, p2⟩ := I.tupV e2
    exact SeqAt.EqAt.list_tuple p p2 hu
theorem eqAt_B {pins : List (Addr × Obj)} {σ : St} {H : Hp} {s : Shared} (I : Inv X pins σ H s) : ∀ (n : Nat) (x y : V) (u v : Value) (b : Bool) (A : Around), EqB H n x y b → RelV x u → RelV y v → A.units + n < cLine → SeqAt.EqAt A s u v b
  | 0, x, y, u, v, b, A, h, rx, ry, hu => eqAt_B0 I h rx ry (by omega)
  | n + 1, x, y, u, v, b, A, h, rx, ry, hu => by
    rcases id h with h | ⟨a, c, xs, ys, e, rfl, rfl, ha, hc, hi, eb⟩ | ⟨a, c, xs, ys, e, rfl, rfl, ha, hc, hi, eb⟩
    · exact eqAt_B0 I h rx ry (by omega)
    · obtain rfl : u = Value.ref a := rx
      obtain rfl : v = Value.ref c := ry
      by_cases hac : a = c
      · subst hac
        rw [EqB.self h]; exact SeqAt.EqAt.same _
      obtain ⟨its, r, pa⟩ := I.tupV ha
      obtain ⟨its2, r2, pb⟩ := I.tupV hc
      have q := SeqAt.RcAt.tuples (A := A) (s := s) (e := e) pa pb (by omega) fun j h1 h2 => by
        obtain ⟨x1, e1, q1⟩ := r.at h1
        obtain ⟨y1, e2, q2⟩ := r2.at h2
        exact eqAt_B I n x1 y1 _ _ _ A.in1 (hi j x1 y1 e1 e2) q1 q2 (by show A.units + 1 + n < cLine; omega)
      have l1 := r.length; have l2 := r2.length
      rw [List.size_toArray, List.size_toArray, ← l1, ← l2, ← eb] at q
      exact SeqAt.EqAt.of_refs hac q
    · obtain rfl : u = Value.ref a := rx
      obtain rfl : v = Value.ref c := ry
      by_cases hac : a = c
      · subst hac
        rw [EqB.self h]; exact SeqAt.EqAt.same _
      obtain ⟨its, r, pa⟩ := I.lstV ha
      obtain ⟨its2, r2, pb⟩ := I.lstV hc
      have l1 := r.length; have l2 := r2.length
      by_cases hl : xs.length = ys.length
      · have q := SeqAt.RcAt.lists (A := A) (s := s) (e := e) pa pb (by simp; omega) (by omega) fun j h1 h2 => by
          obtain ⟨x1, e1, q1⟩ := r.at h1
          obtain ⟨y1, e2, q2⟩ := r2.at h2
          exact eqAt_B I n x1 y1 _ _ _ A.in1 (hi j x1 y1 e1 e2) q1 q2 (by show A.units + 1 + n < cLine; omega)
        rw [List.size_toArray, ← l1] at q
        have eb' : b = (List.range xs.length).all e := by rw [eb, show (xs.length == ys.length) = true from by simpa using hl, Bool.true_and]
        rw [← eb'] at q
        exact SeqAt.EqAt.of_refs hac q
      · have eb' : b = false := by rw [eb, show (xs.length == ys.length) = false from by simpa using hl, Bool.false_and]
        subst eb'
        exact SeqAt.EqAt.of_refs hac (SeqAt.RcAt.lists_lengths pa pb (by simp; omega) (by omega))
theorem rcAt_V {A : Around} {s : Shared} {x y : V} {u v : Value} (rx : RelV x u) (ry : RelV y v) (fx : flatV x = true) (fy : flatV y = true) : SeqAt.RcAt A s u v (eqV x y) := by
  cases x with
  | non =>
    cases rx
    cases y with
    | non => cases ry; exact SeqAt.RcAt.none_none
    | bl b => cases ry; exact SeqAt.RcAt.none_bool b
    | int i => obtain ⟨t, rfl⟩ := ry; exact SeqAt.RcAt.none_int i t
    | str z => obtain ⟨t, rfl⟩ := ry; exact SeqAt.RcAt.none_str z t
    | _ => cases fy
  | bl a =>
    cases rx
    cases y with
    | non => cases ry; exact SeqAt.RcAt.bool_none a
    | bl b => cases ry; exact SeqAt.RcAt.bool_bool a b
    | int i => obtain ⟨t, rfl⟩ := ry; exact SeqAt.RcAt.bool_int a i t
    | str z => obtain ⟨t, rfl⟩ := ry; exact SeqAt.RcAt.bool_str a z t
    | _ => cases fy
  | int a =>
    obtain ⟨ta, rfl⟩ := rx
    cases y with
    | non => cases ry; exact SeqAt.RcAt.int_none a ta
    | bl b => cases ry; exact SeqAt.RcAt.int_bool a ta b
    | int i => obtain ⟨t, rfl⟩ := ry; exact SeqAt.RcAt.int_int a ta i t
    | str z => obtain ⟨t, rfl⟩ := ry; exact SeqAt.RcAt.int_str a ta z t
    | _ => cases fy
  | str a =>
    obtain ⟨ta, rfl⟩ := rx
    cases y with
    | non => cases ry; exact SeqAt.RcAt.str_none a ta
    | bl b => cases ry; exact SeqAt.RcAt.str_bool a ta b
    | int i => obtain ⟨t, rfl⟩ := ry; exact SeqAt.RcAt.str_int a ta i t
    | str z => obtain ⟨t, rfl⟩ := ry; exact SeqAt.RcAt.str_str a ta z t
    | _ => cases fy
  | _ => cases fx
theorem rcAt_B0 {pins : List (Addr × Obj)} {σ : St} {H : Hp} {s : Shared} {A : Around} {x y : V} {u v : Value} {b : Bool} (I : Inv X pins σ H s) (h : EqB0 H x y b) (rx : RelV x u) (ry : RelV y v) (hu : A.units < cLine) : SeqAt.RcAt A s u v b := by
  rcases h with ⟨f, g, rfl⟩ | ⟨rfl, ⟨f, ⟨a, xs, rfl, e⟩ | ⟨a, xs, rfl, e⟩⟩ | ⟨⟨a, xs, rfl, e⟩ | ⟨a, xs, rfl, e⟩, f⟩ | ⟨⟨a, xs, rfl, e⟩, ⟨c, ys, rfl, e2⟩⟩ | ⟨⟨a, xs, rfl, e⟩, ⟨c, ys, rfl, e2⟩⟩⟩
  · exact rcAt_V rx ry f g
  · obtain rfl : v = Value.ref a := ry
    obtain ⟨its, _, p⟩ := I.tupV e
    cases x with
    | non => cases rx; exact SeqAt.RcAt.none_tuple p hu
    | bl b => cases rx; exact SeqAt.RcAt.bool_tuple b p hu
    | int i => obtain ⟨t, rfl⟩ := rx; exact SeqAt.RcAt.int_tuple i t p hu
    | str z => obtain ⟨t, rfl⟩ := rx; exact SeqAt.RcAt.str_tuple z t p hu
    | _ => cases f
  · obtain rfl : v = Value.ref a := ry
    obtain ⟨its, _, p⟩ := I.lstV e
    cases x with
    | non => cases rx; exact SeqAt.RcAt.none_list p hu
    | bl b => cases rx; exact SeqAt.RcAt.bool_list b p hu
    | int i => obtain ⟨t, rfl⟩ := rx; exact SeqAt.RcAt.int_list i t p hu
    | str z => obtain ⟨t, rfl⟩ := rx; exact SeqAt.RcAt.str_list z t p hu
    | _ => cases f
  · obtain rfl : u = Value.ref a := rx
    obtain ⟨its, _, p⟩ := I.tupV e
    cases y with
    | non => cases ry; exact SeqAt.RcAt.tuple_none p hu
    | bl b => cases ry; exact SeqAt.RcAt.tuple_bool b p hu
    | int i => obtain ⟨t, rfl⟩ := ry; exact SeqAt.RcAt.tuple_int i t p hu
    | str z => obtain ⟨t, rfl⟩ := ry; exact SeqAt.RcAt.tuple_str z t p hu
    | _ => cases f
  · obtain rfl : u = Value.ref a := rx
    obtain ⟨its, _, p⟩ := I.lstV e
    cases y with
    | non => cases ry; exact SeqAt.RcAt.list_none p hu
    | bl b => cases ry; exact SeqAt.RcAt.list_bool b p hu
    | int i => obtain ⟨t, rfl⟩ := ry; exact SeqAt.RcAt.list_int i t p hu
    | str z => obtain ⟨t, rfl⟩ := ry; exact SeqAt.RcAt.list_str z t p hu
    | _ => cases f
  · obtain rfl : u = Value.ref a := rx
    obtain rfl : v = Value.ref c := ry
    obtain ⟨its, _, p⟩ := I.tupV e
    obtain ⟨its2, _, p2⟩ := I.lstV e2
    exact SeqAt.RcAt.tuple_list p p2 hu
  · obtain rfl : u = Value.ref a := rx
    obtain rfl : v = Value.ref c := ry
    obtain ⟨its, _, p⟩ := I.lstV e
    obtain ⟨its2, _, p2⟩ := I.tupV e2
    exact SeqAt.RcAt.list_tuple p p2 hu
theorem op_eqB : OpR X (compareOp .Eq) (fun x y H Q => ∃ n b, EqB H n x y b ∧ X.A.units + n + 1 < cLine ∧ Q (.bl b) H) := by
  intro pins s σ H x y v u Q I rx ry h
  obtain ⟨n, b, h, hu, q⟩ := h
  have done : SeqAt.RcAt X.A s v u b → wpAny (model X.prog X.w) X.A (compareOp .Eq v u) (EP X pins σ Q) X.xe s := fun z => z X.prog X.w X.xe _ ⟨.bl b, H, I, rfl, q⟩
  cases n with
  | zero => exact done (rcAt_B0 I h rx ry (by omega))
  | succ n =>
    rcases id h with h | ⟨a, c, xs, ys, e, rfl, rfl, ha, hc, hi, eb⟩ | ⟨a, c, xs, ys, e, rfl, rfl, ha, hc, hi, eb⟩
    · exact done (rcAt_B0 I h rx ry (by omega))
    · obtain rfl : v = Value.ref a := rx
      obtain rfl : u = Value.ref c := ry
      obtain ⟨its, r, pa⟩ := I.tupV ha
      obtain ⟨its2, r2, pb⟩ := I.tupV hc
      have z := SeqAt.RcAt.tuples (A := X.A) (s := s) (e := e) pa pb (by omega) fun j h1 h2 => by
        obtain ⟨x1, e1, q1⟩ := r.at h1
        obtain ⟨y1, e2, q2⟩ := r2.at h2
        exact eqAt_B I n x1 y1 _ _ _ X.A.in1 (hi j x1 y1 e1 e2) q1 q2 (by show X.A.units + 1 + n < cLine; omega)
      have l1 := r.length; have l2 := r2.length
      rw [List.size_toArray, List.size_toArray, ← l1, ← l2, ← eb] at z
      exact done z
    · obtain rfl : v = Value.ref a := rx
      obtain rfl : u = Value.ref c := ry
      obtain ⟨its, r, pa⟩ := I.lstV ha
      obtain ⟨its2, r2, pb⟩ := I.lstV hc
      have l1 := r.length; have l2 := r2.length
      by_cases hl : xs.length = ys.length
      · have z := SeqAt.RcAt.lists (A := X.A) (s := s) (e := e) pa pb (by simp; omega) (by omega) fun j h1 h2 => by
          obtain ⟨x1, e1, q1⟩ := r.at h1
          obtain ⟨y1, e2, q2⟩ := r2.at h2
          exact eqAt_B I n x1 y1 _ _ _ X.A.in1 (hi j x1 y1 e1 e2) q1 q2 (by show X.A.units + 1 + n < cLine; omega)
        rw [List.size_toArray, ← l1] at z
        have eb' : b = (List.range xs.length).all e := by rw [eb, show (xs.length == ys.length) = true from by simpa using hl, Bool.true_and]
        rw [← eb'] at z
        exact done z
      · have eb' : b = false := by rw [eb, show (xs.length == ys.length) = false from by simpa using hl, Bool.false_and]
        subst eb'
        exact done (SeqAt.RcAt.lists_lengths pa pb (by simp; omega) (by omega))
theorem rcNe_V {A : Around} {s : Shared} {x y : V} {u v : Value} (rx : RelV x u) (ry : RelV y v) (fx : flatV x = true) (fy : flatV y = true) : SeqAt.RcNeAt A s u v (!eqV x y) := by
  cases x with
  | non =>
    cases rx
    cases y with
    | non => cases ry; exact SeqAt.RcNeAt.none_none
    | bl b => cases ry; exact SeqAt.RcNeAt.none_bool b
    | int i => obtain ⟨t, rfl⟩ := ry; exact SeqAt.RcNeAt.none_int i t
    | str z => obtain ⟨t, rfl⟩ := ry; exact SeqAt.RcNeAt.none_str z t
    | _ => cases fy
  | bl a =>
    cases rx
    cases y with
    | non => cases ry; exact SeqAt.RcNeAt.bool_none a
    | bl b => cases ry; exact SeqAt.RcNeAt.bool_bool a b
    | int i => obtain ⟨t, rfl⟩ := ry; exact SeqAt.RcNeAt.bool_int a i t
    | str z => obtain ⟨t, rfl⟩ := ry; exact SeqAt.RcNeAt.bool_str a z t
    | _ => cases fy
  | int a =>
    obtain ⟨ta, rfl⟩ := rx
    cases y with
    | non => cases ry; exact SeqAt.RcNeAt.int_none a ta
    | bl b => cases ry; exact SeqAt.RcNeAt.int_bool a ta b
    | int i => obtain ⟨t, rfl⟩ := ry; exact SeqAt.RcNeAt.int_int a ta i t
    | str z => obtain ⟨t, rfl⟩ := ry; exact SeqAt.RcNeAt.int_str a ta z t
    | _ => cases fy
  | str a =>
    obtain ⟨ta, rfl⟩ := rx
    cases y with
    | non => cases ry; exact SeqAt.RcNeAt.str_none a ta
    | bl b => cases ry; exact SeqAt.RcNeAt.str_bool a ta b
    | int i => obtain ⟨t, rfl⟩ := ry; exact SeqAt.RcNeAt.str_int a ta i t
    | str z => obtain ⟨t, rfl⟩ := ry; exact SeqAt.RcNeAt.str_str a ta z t
    | _ => cases fy
  | _ => cases fx
theorem rcNe_B0 {pins : List (Addr × Obj)} {σ : St} {H : Hp} {s : Shared} {A : Around} {x y : V} {u v : Value} {b : Bool} (I : Inv X pins σ H s) (h : EqB0 H x y b) (rx : RelV x u) (ry : RelV y v) (hu : A.units < cLine) : SeqAt.RcNeAt A s u v (!b) := by
  rcases h with ⟨f, g, rfl⟩ | ⟨rfl, ⟨f, ⟨a, xs, rfl, e⟩ | ⟨a, xs, rfl, e⟩⟩ | ⟨⟨a, xs, rfl, e⟩ | ⟨a, xs, rfl, e⟩, f⟩ | ⟨⟨a, xs, rfl, e⟩, ⟨c, ys, rfl, e2⟩⟩ | ⟨⟨a, xs, rfl, e⟩, ⟨c, ys, rfl, e2⟩⟩⟩
  · exact rcNe_V rx ry f g
  · obtain rfl : v = Value.ref a := ry
    obtain ⟨its, _, p⟩ := I.tupV e
    cases x with
    | non => cases rx; exact SeqAt.RcNeAt.none_tuple p hu
    | bl b => cases rx; exact SeqAt.RcNeAt.bool_tuple b p hu
    | int i => obtain ⟨t, rfl⟩ := rx; exact SeqAt.RcNeAt.int_tuple i t p hu
    | str z => obtain ⟨t, rfl⟩ := rx; exact SeqAt.RcNeAt.str_tuple z t p hu
    | _ => cases f
  · obtain rfl : v = Value.ref a := ry
    obtain ⟨its, _, p⟩ := I.lstV e
    cases x with
    | non => cases rx; exact SeqAt.RcNeAt.none_list p hu
    | bl b => cases rx; exact SeqAt.RcNeAt.bool_list b p hu
    | int i => obtain ⟨t, rfl⟩ := rx; exact SeqAt.RcNeAt.int_list i t p hu
    | str z => obtain ⟨t, rfl⟩ := rx; exact SeqAt.RcNeAt.str_list z t p hu
    | _ => cases f
  · obtain rfl : u = Value.ref a := rx
    obtain ⟨its, _, p⟩ := I.tupV e
    cases y with
    | non => cases ry; exact SeqAt.RcNeAt.tuple_none p hu
    | bl b => cases ry; exact SeqAt.RcNeAt.tuple_bool b p hu
    | int i => obtain ⟨t, rfl⟩ := ry; exact SeqAt.RcNeAt.tuple_int i t p hu
    | str z => obtain ⟨t, rfl⟩ := ry; exact SeqAt.RcNeAt.tuple_str z t p hu
    | _ => cases f
  · obtain rfl : u = Value.ref a := rx
    obtain ⟨its, _, p⟩ := I.lstV e
    cases y with
    | non => cases ry; exact SeqAt.RcNeAt.list_none p hu
    | bl b => cases ry; exact SeqAt.RcNeAt.list_bool b p hu
    | int i => obtain ⟨t, rfl⟩ := ry; exact SeqAt.RcNeAt.list_int i t p hu
    | str z => obtain ⟨t, rfl⟩ := ry; exact SeqAt.RcNeAt.list_str z t p hu
    | _ => cases f
  · obtain rfl : u = Value.ref a := rx
    obtain rfl : v = Value.ref c := ry
    obtain ⟨its, _, p⟩ := I.tupV e
    obtain ⟨its2, _, p2⟩ := I.lstV e2
    exact SeqAt.RcNeAt.tuple_list p p2 hu
  · obtain rfl : u = Value.ref a := rx
    obtain rfl : v = Value.ref c := ry
    obtain ⟨its, _, p⟩ := I.lstV e
    obtain ⟨its2, _, p2⟩ := I.tupV e2
    exact SeqAt.RcNeAt.list_tuple p p2 hu
theorem op_neB : OpR X (compareOp .NotEq) (fun x y H Q => ∃ n b, EqB H n x y b ∧ X.A.units + n + 1 < cLine ∧ Q (.bl !b) H) := by
  intro pins s σ H x y v u Q I rx ry h
  obtain ⟨n, b, h, hu, q⟩ := h
  have done : SeqAt.RcNeAt X.A s v u (!b) → wpAny (model X.prog X.w) X.A (compareOp .NotEq v u) (EP X pins σ Q) X.xe s := fun z => z X.prog X.w X.xe _ ⟨.bl !b, H, I, rfl, q⟩
  cases n with
  | zero => exact done (rcNe_B0 I h rx ry (by omega))
  | succ n =>
    rcases id h with h | ⟨a, c, xs, ys, e, rfl, rfl, ha, hc, hi, eb⟩ | ⟨a, c, xs, ys, e, rfl, rfl, ha, hc, hi, eb⟩
    · exact done (rcNe_B0 I h rx ry (by omega))
    · obtain rfl : v = Value.ref a := rx
      obtain rfl : u = Value.ref c := ry
      obtain ⟨its, r, pa⟩ := I.tupV ha
      obtain ⟨its2, r2, pb⟩ := I.tupV hc
      have z := SeqAt.RcNeAt.tuples (A := X.A) (s := s) (e := e) pa pb (by omega) fun j h1 h2 => by
        obtain ⟨x1, e1, q1⟩ := r.at h1
        obtain ⟨y1, e2, q2⟩ := r2.at h2
        exact eqAt_B I n x1 y1 _ _ _ X.A.in1 (hi j x1 y1 e1 e2) q1 q2 (by show X.A.units + 1 + n < cLine; omega)
      have l1 := r.length; have l2 := r2.length
      rw [List.size_toArray, List.size_toArray, ← l1, ← l2, ← eb] at z
      exact done z
    · obtain rfl : v = Value.ref a := rx
      obtain rfl : u = Value.ref c := ry
      obtain ⟨its, r, pa⟩ := I.lstV ha
      obtain ⟨its2, r2, pb⟩ := I.lstV hc
      have l1 := r.length; have l2 := r2.length
      by_cases hl : xs.length = ys.length
      · have z := SeqAt.RcNeAt.lists (A := X.A) (s := s) (e := e) pa pb (by simp; omega) (by omega) fun j h1 h2 => by
          obtain ⟨x1, e1, q1⟩ := r.at h1
          obtain ⟨y1, e2, q2⟩ := r2.at h2
          exact eqAt_B I n x1 y1 _ _ _ X.A.in1 (hi j x1 y1 e1 e2) q1 q2 (by show X.A.units + 1 + n < cLine; omega)
        rw [List.size_toArray, ← l1] at z
        have eb' : b = (List.range xs.length).all e := by rw [eb, show (xs.length == ys.length) = true from by simpa using hl, Bool.true_and]
        rw [← eb'] at z
        exact done z
      · have eb' : b = false := by rw [eb, show (xs.length == ys.length) = false from by simpa using hl, Bool.false_and]
        subst eb'
        exact done (SeqAt.RcNeAt.lists_lengths pa pb (by simp; omega) (by omega))
end
deriving instance DecidableEq for Tm
inductive Srt where
  | int | str | nd
end L2
namespace Gb
section
variable {α : Type} (pr : α → α → α)
end
end Gb
namespace Gb
section
variable {α : Type} (nl : α) (pr : α → α → α)
def Sub (ts sub : List α) : Prop := sub.length ≤ ts.length ∧ ∀ x ∈ sub, x ∈ ts
end
end Gb
namespace L2
open PySem PySem.Spec PyProof.Rows
section
variable {prog : Program} {w : World} {A : Around} {E : Value → Shared → Prop} {s : Shared} {R : Result → Shared → Prop}
end
theorem strs_of : ∀ {ys : List Str} {its : List Value}, Vals (ys.map V.str) its → StrsAre its ys
  | [], _, r => by cases r; exact .nil
  | y :: ys, _, r => by
    cases r with
    | cons p r => obtain ⟨t, rfl⟩ := p; exact .cons y t (strs_of r)
theorem mt_join {X : Cx} : MtR X "str.join" (fun x vs H Q => ∃ (z : Str) (p : Addr) (ys : List Str), x = .str z ∧ vs = [.ref p] ∧ SqL X.K H p (ys.map V.str) ∧ (ys.map (·.length)).sum + ys.length * z.length ≤ 16777216 ∧ Q (.str (Txt.join z ys)) H) := by
  intro pins s σ H x vs v us Q I rx rv h
  obtain ⟨z, p, ys, rfl, rfl, hq, hok, q⟩ := h
  obtain ⟨t, rfl⟩ := rx
  obtain ⟨u, rfl, ru⟩ := vals1 rv
  cases ru
  obtain ⟨its, r, pl, hz⟩ := I.list hq
  exact PyProof.Rows.join_list pl.isList (strs_of (by simpa using r)) hok fun t' k => ⟨.str _, H, I.tok _, ⟨_, rfl⟩, q⟩
theorem comp_range {lo : Int} {n : Nat} {js : List Nat} {te : TE} {σ : St} {H : Hp} {R : Addr → Hp → Prop} (Pv : Addr → Nat → List V → Hp → Prop) (h0 : ∀ D, H D = none → Pv D 0 [] (upd H D (.lst [])))
    (hs : ∀ D (i : Nat) ys H' Qb, H D = none → i < n → Pv D i ys H' → (∀ y H3, H3 D = some (.lst ys) → ys.length < sizeLine → Pv D (i + 1) (ys ++ [y]) (upd H3 D (.lst (ys ++ [y]))) → Qb y H3) → te (some (.int (lo + (i : Nat))) :: capt js σ) H' Qb)
    (hd : ∀ D ys H', H D = none → Pv D n ys H' → R D H') :
    ∀ D, H D = none → ∃ W : Nat → Nat → List V → Hp → Prop, (∃ m, W 0 m [] (upd H D (.lst []))) ∧ ∀ i m ys H, W i m ys H →
      ((Itr lo n).stop i H ∧ R D H) ∨ ((Itr lo n).go i H ∧ ∀ x H', (Itr lo n).yld i H x H' → if true = true then te (some x :: capt js σ) H' fun y H3 => H3 D = some (.lst ys) ∧ ys.length < sizeLine ∧ ∃ m', m' < m ∧ W (i + 1) m' (ys ++ [y]) (upd H3 D (.lst (ys ++ [y])))
        else ∃ m', m' < m ∧ W (i + 1) m' ys H') := by
  intro D hD
  refine ⟨fun i m ys H' => m = n - i ∧ i ≤ n ∧ Pv D i ys H', ⟨n, by simp, by omega, h0 D hD⟩, ?_⟩
  rintro i m ys H' ⟨rfl, hi, hp⟩
  by_cases hlt : i < n
  · refine .inr ⟨hlt, fun x H2 ⟨e2, ex⟩ => ?_⟩
    subst e2 ex
    refine iteT ?_
    exact hs D i ys _ _ hD hlt hp fun y H3 a b c => ⟨a, b, n - (i + 1), by omega, rfl, by omega, c⟩
  · have e : i = n := by omega
    subst e
    exact .inl ⟨Nat.le_refl _, hd D ys H' hD hp⟩
theorem comp_list {K : PySem.W.Frag} {a : Addr} {xs : List V} {js : List Nat} {te : TE} {σ : St} {H : Hp} {R : Addr → Hp → Prop} (Pv : Addr → Nat → List V → Hp → Prop) (h0 : ∀ D, H D = none → Pv D 0 [] (upd H D (.lst []))) (hl : ∀ D i ys H', H D = none → Pv D i ys H' → SqL K H' a xs)
    (hs : ∀ D (i : Nat) x ys H' Qb, H D = none → xs[i]? = some x → Pv D i ys H' → (∀ y H3, H3 D = some (.lst ys) → ys.length < sizeLine → Pv D (i + 1) (ys ++ [y]) (upd H3 D (.lst (ys ++ [y]))) → Qb y H3) → te (some x :: capt js σ) H' Qb)
    (hd : ∀ D ys H', H D = none → Pv D xs.length ys H' → R D H') :
    ∀ D, H D = none → ∃ W : Nat → Nat → List V → Hp → Prop, (∃ m, W 0 m [] (upd H D (.lst []))) ∧ ∀ i m ys H, W i m ys H →
      ((Itl K a).stop i H ∧ R D H) ∨ ((Itl K a).go i H ∧ ∀ x H', (Itl K a).yld i H x H' → if true = true then te (some x :: capt js σ) H' fun y H3 => H3 D = some (.lst ys) ∧ ys.length < sizeLine ∧ ∃ m', m' < m ∧ W (i + 1) m' (ys ++ [y]) (upd H3 D (.lst (ys ++ [y])))
        else ∃ m', m' < m ∧ W (i + 1) m' ys H') := by
  intro D hD
  refine ⟨fun i m ys H' => m = xs.length - i ∧ i ≤ xs.length ∧ Pv D i ys H', ⟨xs.length, by simp, by omega, h0 D hD⟩, ?_⟩
  rintro i m ys H' ⟨rfl, hi, hp⟩
  have hq := hl D i ys H' hD hp
  by_cases hlt : i < xs.length
  · refine .inr ⟨⟨_, xs[i], hq, List.getElem?_eq_getElem hlt⟩, fun x H2 ⟨e2, hx⟩ => ?_⟩
    subst e2
    have ex := hx _ hq
    refine iteT ?_
    exact hs D i x ys _ _ hD ex hp fun y H3 a b c => ⟨a, b, xs.length - (i + 1), by omega, rfl, by omega, c⟩
  · have e : i = xs.length := by omega
    subst e
    exact .inl ⟨⟨_, hq, Nat.le_refl _⟩, hd D ys H' hD hp⟩
theorem same_of {cl env : List (Str × Addr)} (h : ∀ p ∈ cl, env.lookup p.1 = some p.2) : ∀ z c, cl.lookup z = some c → env.lookup z = some c := fun z c e => h (z, c) (PySem.mem_of_lookup e)
theorem eqB_nil {H : Hp} {a b : Addr} {ws : List V} (ha : H a = some (.lst ws)) (hb : H b = some (.lst [])) : EqB H 1 (.ref a) (.ref b) (decide (ws = [])) := by
  refine .inr (.inr ⟨a, b, ws, [], fun _ => true, rfl, rfl, ha, hb, fun i u v _ h2 => by simp at h2, ?_⟩)
  rw [all_true, Bool.and_true, Bool.eq_iff_iff]
  simp
end L2
namespace Gb
section
variable {α : Type} (nl : α) (pr : α → α → α)
end
end Gb
namespace L2
open PySem PySem.Spec PyProof.Rows
def Ite (K : PySem.W.Frag) (a : Addr) : It :=
  ⟨fun i H => ∃ xs x, SqL K H a xs ∧ xs[i]? = some x,
   fun i H y H' => ∃ p x, y = .ref p ∧ H p = none ∧ (∀ xs, SqL K H a xs → xs[i]? = some x) ∧ H' = upd H p (.tup [.int (i : Nat), x]),
   fun i H => ∃ xs, SqL K H a xs ∧ xs.length ≤ i⟩
theorem turn_enum {P : Program} {w : World} {K : PySem.W.Frag} {es : List Expr} {kk : Nat} {tp : Pos} (a e it : Addr) (hne : e ≠ it) :
    Turn P w K (.Tuple es kk tp) (Ite K a) [e, it] e (fun i h => (∃ old, IsEnum h e it ((i : Nat) : Int) old) ∧ h.IsListIter it a i) where
  mem := by simp
  obj := fun i h st c hc => by
    obtain ⟨⟨old, he⟩, ⟨o, eo, _, d⟩⟩ := st
    simp only [List.mem_cons, List.not_mem_nil, or_false] at hc
    rcases hc with rfl | rfl
    · exact ⟨_, he, fun v q => by cases q⟩
    · exact ⟨o, eo, fun v q => by rw [d] at q; cases q⟩
  keep := fun i h h' st k => by
    obtain ⟨⟨old, he⟩, hit⟩ := st
    exact ⟨⟨old, k e (by simp) _ he⟩, hit.at fun o q => k it (by simp) o q⟩
  item := by
    intro X hP hw hK hc i pins s σ H E I hf st hg
    subst hP hw hK
    obtain ⟨xs, x, hq, hx⟩ := hg
    obtain ⟨its, rv, pl, hz⟩ := I.list hq
    obtain ⟨u, hu, ru⟩ := rv.get hx
    obtain ⟨⟨old, he⟩, hit⟩ := st
    refine wpAny_pyNext_enum_item he hit pl.isList (x := u) (by simpa using hu) hne fun h1 heo hit1 ht1 hz1 k1 => ⟨_, rfl, ?_⟩
    refine wpAny_letOwnedTupleGo_enum heo fun h2 he2 sb => ?_
    have hp : H s.heap.objs.size = none := I.hok.fresh (Nat.le_refl _)
    have lte : e < s.heap.objs.size := Heap.lt_size he
    have lti : it < s.heap.objs.size := by obtain ⟨o, eo, _⟩ := hit; exact Heap.lt_size eo
    have k2 : ∀ c o, c ∉ [e, it] → s.heap.get? c = some o → h2.get? c = some o := fun c o nc q => by
      simp only [List.mem_cons, List.not_mem_nil, or_false, not_or] at nc
      exact (sb.2 c nc.1).trans (k1 c o nc.1 nc.2 q)
    have pr2 : h2.get? s.heap.objs.size = some { cls := .type "tuple", data := .seq #[.int (i : Nat) s.toks, u] } := (sb.2 _ (Nat.ne_of_gt lte)).trans ht1
    have nfp : ∀ c o, H c = some o → c ∉ [e, it] := fun c o q hc => by rw [(hf c hc).1] at q; cases q
    have hnn : ∀ c o, H c = some o → c ≠ s.heap.objs.size := fun c o q => ne_of_none q hp
    have I2 : Inv X pins σ (upd H s.heap.objs.size (.tup [.int (i : Nat), x])) { s with heap := h2, toks := s.toks + 1 } := by
      refine I.call' (s' := { s with heap := h2, toks := s.toks + 1 }) (ch := [e, it]) rfl ⟨fun c o q n nf nc => k2 c o nc q, fun c o q n hc nc => ⟨o.slots, k2 c o nc q⟩, fun c o q n nc => ?_, fun c o q nc => ⟨o, k2 c o nc q⟩, fun c xs q => ?_, fun c o u q => ?_, fun c ps q => ⟨#[], ?_⟩⟩ (fun c o q => ?_) I.bare fun c hc => ?_
      · rw [upd_ne (Nat.ne_of_lt (Heap.lt_size q))]; exact n
      · rw [upd_ne (hnn _ _ q)]; exact q
      · rw [upd_ne (hnn _ _ q)]; exact q
      · rw [upd_ne (hnn _ _ q), Array.append_empty]; exact q
      · by_cases hc : c = s.heap.objs.size
        · subst hc
          rw [upd_same] at q; cases q
          exact ⟨by show (2 : Nat) ≤ _; decide, [.int (i : Nat) s.toks, u], .cons ⟨_, rfl⟩ (.cons ru .nil), _, pr2, rfl, _, rfl⟩
        · rw [upd_ne hc] at q
          refine (I.hok c o q).stay (fun d w' hd z => k2 d w' ?_ z) (fun d z => by rw [upd_ne (hnn _ _ z)]; exact z) fun d xs z => by rw [upd_ne (hnn _ _ z)]; exact z
          rcases hd with rfl | hd
          · exact nfp _ _ q
          · exact nfp _ _ hd
      · obtain ⟨f0, f1, f2, f3, f4, f5⟩ := hf c hc
        exact ⟨f3, f1, f4, f5⟩
    refine ⟨.ref s.heap.objs.size, _, I2, rfl, ⟨_, x, rfl, hp, fun ys hy => by rw [I.list_inj hy hq]; exact hx, rfl⟩, ⟨⟨u, ?_⟩, ?_⟩, fun c hc => ?_⟩
    · have z : IsEnum h2 e it ((i : Int) + 1) u := he2
      rw [show (i : Int) + 1 = ((i + 1 : Nat) : Int) by omega] at z
      exact z
    · exact hit1.at fun o q => (sb.2 _ (Ne.symm hne)).trans q
    · have lt : c < s.heap.objs.size := by
        simp only [List.mem_cons, List.not_mem_nil, or_false] at hc
        rcases hc with rfl | rfl
        · exact lte
        · exact lti
      rw [upd_ne (Nat.ne_of_lt lt)]; exact (hf c hc).1
  done := by
    intro X hP hw hK hc i pins s σ H E I hf st hg
    subst hP hw hK
    obtain ⟨xs, hq, hx⟩ := hg
    obtain ⟨its, rv, pl, hz⟩ := I.list hq
    have hl := rv.length
    obtain ⟨⟨old, he⟩, hit⟩ := st
    obtain ⟨f0, f1, f2, f3, f4, f5⟩ := hf it (by simp)
    exact wpAny_pyNext_enum_end (I.ok.hd hc) he hit pl.isList (by simp; omega) fun h' k => ⟨rfl, I.turned (t' := s.toks) (fun b o hb q => k b o hb q) f0 f1 f3 f4 f5⟩
  self := fun _ _ _ _ _ st h => by
    obtain ⟨⟨old, he⟩, _⟩ := st
    exact wpAny_pyIter_enum he h
def iEnum (K : PySem.W.Frag) (ta : TA) : TI := fun σ H R => ta σ H fun vs H1 => ∃ a xs, vs = [.ref a] ∧ SqL K H1 a xs ∧ R (Ite K a) H1
theorem pi_enum {X : Cx} {es : List Expr} {kk : Nat} {tp : Pos} {a : Expr} {ta : TA} {p pos : Pos} (hg : Gl X "enumerate") (hm : X.mg "enumerate" = none) (ha : PA X [a] ta) (hs : starEach [a] X.env = [(false, eval a X.env)] := by rfl) : PI X (.Tuple es kk tp) (.Call (.Name "enumerate" p) [a] [] pos) (iEnum X.K ta) := by
  intro pins s σ H R I h
  refine Call_ (ld_blt I hg hm boot_enumerate (PyProof.Rows.callWith_type1 (thn (ha pos pins s σ H _ I h) fun us s1 ⟨vs, H1, I1, r1, q1⟩ => ?_) hs rfl))
  obtain ⟨l, xs, e, hq, q⟩ := q1
  subst e
  cases r1 with
  | cons r rr =>
    cases rr
    cases r
    obtain ⟨its, rv, pl, hz⟩ := I1.list hq
    refine call_enumerate_list pl.isList fun h' he hit hsz k => ?_
    have I2 : Inv X pins σ H1 { s1 with heap := h' } := I1.kept (t' := s1.toks) k
    refine wpAny_pyIter_enum (s := { s1 with heap := h' }) he ?_
    refine ⟨s1.heap.objs.size + 1, [s1.heap.objs.size + 1, s1.heap.objs.size], _, _, H1, rfl, I2, turn_enum l _ _ (by show s1.heap.objs.size + 1 ≠ s1.heap.objs.size; omega), ⟨⟨.none, he⟩, hit⟩, fun b hb => ?_, q⟩
    simp only [List.mem_cons, List.not_mem_nil, or_false] at hb
    have fr : ∀ c, s1.heap.objs.size ≤ c → FpOk X pins H1 c := fun c hc => I1.fpOk hc (I1.hok.fresh hc)
    rcases hb with rfl | rfl
    · exact fr _ (Nat.le_succ _)
    · exact fr _ (Nat.le_refl _)
theorem for_enum {K : PySem.W.Frag} {a : Addr} {xs : List V} {g : TG} {tb : TS} {D : Ends} {σ : St} {H : Hp} (Pv : Nat → St → Hp → Prop) (h0 : Pv 0 σ H) (hl : ∀ i σ H, i ≤ xs.length → Pv i σ H → SqL K H a xs)
    (hs : ∀ i x p σ H, xs[i]? = some x → H p = none → Pv i σ H → g (.ref p) σ (upd H p (.tup [.int (i : Nat), x])) fun σ2 H2 => tb { D with nx := Pv (i + 1), ct := Pv (i + 1), bk := D.nx } σ2 H2) (hd : ∀ σ H, Pv xs.length σ H → D.nx σ H) :
    ∃ W : Nat → Nat → St → Hp → Prop, (∃ m, W 0 m σ H) ∧ ∀ i m σ H, W i m σ H →
      ((Ite K a).stop i H ∧ D.nx σ H) ∨ ((Ite K a).go i H ∧ ∃ N : St → Hp → Prop, (∀ σ' H', N σ' H' → ∃ m', m' < m ∧ W (i + 1) m' σ' H') ∧ ∀ x H', (Ite K a).yld i H x H' → g x σ H' fun σ2 H2 => tb { D with nx := N, ct := N, bk := D.nx } σ2 H2) := by
  refine ⟨fun i m σ H => m = xs.length - i ∧ i ≤ xs.length ∧ Pv i σ H, ⟨xs.length, by simp, Nat.zero_le _, h0⟩, ?_⟩
  rintro i m σ H ⟨rfl, hi, p⟩
  have q := hl i σ H hi p
  by_cases hlt : i < xs.length
  · refine .inr ⟨⟨xs, xs[i], q, List.getElem?_eq_getElem hlt⟩, Pv (i + 1), fun σ' H' p' => ⟨xs.length - (i + 1), by omega, rfl, hlt, p'⟩, fun y H' ⟨pp, x, e1, e2, e3, e4⟩ => ?_⟩
    subst e1 e4
    exact hs i x pp σ _ (e3 xs q) e2 p
  · have e : i = xs.length := by omega
    subst e
    exact .inl ⟨⟨xs, q, Nat.le_refl _⟩, hd σ H p⟩
section
variable {X : Cx}
theorem mt_lstripC : MtR X "str.lstrip" (fun x vs H Q => ∃ z y, x = .str z ∧ vs = [.str y] ∧ z.length ≤ sizeLine ∧ Q (.str (Txt.lstripChars z y)) H) := by
  intro pins s σ H x vs v us Q I rx rv h
  obtain ⟨z, y, rfl, rfl, hz, q⟩ := h
  obtain ⟨t, rfl⟩ := rx
  obtain ⟨u, rfl, t', rfl⟩ := vals1 rv
  exact SC.lstripChars (fun t' k => ⟨.str _, H, I.tok _, ⟨_, rfl⟩, q⟩) hz
theorem mt_rstripC : MtR X "str.rstrip" (fun x vs H Q => ∃ z y, x = .str z ∧ vs = [.str y] ∧ z.length ≤ sizeLine ∧ Q (.str (Txt.rstripChars z y)) H) := by
  intro pins s σ H x vs v us Q I rx rv h
  obtain ⟨z, y, rfl, rfl, hz, q⟩ := h
  obtain ⟨t, rfl⟩ := rx
  obtain ⟨u, rfl, t', rfl⟩ := vals1 rv
  exact SC.rstripChars (fun t' k => ⟨.str _, H, I.tok _, ⟨_, rfl⟩, q⟩) hz
theorem mt_starts : MtR X "str.startswith" (fun x vs H Q => ∃ z y, x = .str z ∧ vs = [.str y] ∧ Q (.bl (Txt.startswith z y)) H) := by
  intro pins s σ H x vs v us Q I rx rv h
  obtain ⟨z, y, rfl, rfl, q⟩ := h
  obtain ⟨t, rfl⟩ := rx
  obtain ⟨u, rfl, t', rfl⟩ := vals1 rv
  exact SC.startswith ⟨.bl _, H, I, rfl, q⟩
theorem vals_strs : ∀ (l : List (Str × Tok)), Vals (l.map fun p => V.str p.1) (strValues l)
  | [] => .nil
  | (y, t) :: r => .cons ⟨t, rfl⟩ (vals_strs r)
theorem mt_split : MtR X "str.split" (fun x vs H Q => ∃ z y, x = .str z ∧ vs = [.str y] ∧ y.length ≠ 0 ∧ z.length ≤ sizeLine ∧ (Txt.split z y).length ≤ sizeLine ∧ ∀ l, H l = none → Q (.ref l) (upd H l (.lst ((Txt.split z y).map V.str)))) := by
  intro pins s σ H x vs v us Q I rx rv h
  obtain ⟨z, y, rfl, rfl, hy0, hz, hz2, q⟩ := h
  obtain ⟨t, rfl⟩ := rx
  obtain ⟨u, rfl, t', rfl⟩ := vals1 rv
  have hy : (y.length == 0) = false := by simpa using hy0
  have fin : ∀ (l : List (Str × Tok)) (k : Nat), l.map (·.1) = Txt.split z y → EP X pins σ Q (.ref s.heap.objs.size) { s with heap := s.heap.push { cls := .type "list", data := .seq (strValues l).toArray }, toks := k } := fun l k e => by
    have ev : (Txt.split z y).map V.str = l.map fun p => V.str p.1 := by rw [← e, List.map_map]; rfl
    refine ⟨.ref _, _, I.lnew (t' := k) (ys := (Txt.split z y).map V.str) (by rw [ev]; exact vals_strs l) (by rw [List.length_map]; exact hz2), rfl, q _ I.fresh⟩
  cases h1 : (decide (z.length < y.length) || decide (Builtin.Str.strKind z < Builtin.Str.strKind y))
  · cases hf : (Builtin.Str.occurrences z y 0 z.length (z.length + 1)).isEmpty
    · have es : Txt.split z y = Builtin.Str.partsBetween z (Builtin.Str.occurrences z y 0 z.length (z.length + 1)) y.length := (if_neg (ne_true_of_eq_false h1)).trans (if_neg (ne_true_of_eq_false hf))
      refine call_meets F.slot_str_split (typeIs_str _ _ _) F.entry_str_split (F.args_str_split_2 _ _) (meets_str_split_sep z y t t' h1 hy hf hz (by rw [← es]; exact hz2)) ?_
      rw [strsFrom_eq]
      exact fin (numbered s.toks (Builtin.Str.partsBetween z (Builtin.Str.occurrences z y 0 z.length (z.length + 1)) y.length)) _ ((numbered_texts _ _).trans es.symm)
    · exact call_meets F.slot_str_split (typeIs_str _ _ _) F.entry_str_split (F.args_str_split_2 _ _) (meets_str_split_not_found z y t t' h1 hy hf) (fin [(z, t)] s.toks ((if_neg (ne_true_of_eq_false h1)).trans (if_pos hf)).symm)
  · exact call_meets F.slot_str_split (typeIs_str _ _ _) F.entry_str_split (F.args_str_split_2 _ _) (meets_str_split_cannot_occur z y t t' h1) (fin [(z, t)] s.toks (if_pos h1).symm)
end
section
variable {P : Program} {w : World} {K : PySem.W.Frag} {mg : Str → Option Value} {base : Heap} {C : Addr}
end
end L2
namespace L2
open PySem PySem.Spec PyProof.Rows
theorem sl_str {X : Cx} : SlR X (fun x lo hi H Q => ∃ z, x = .str z ∧ z.length ≤ sizeLine ∧ Q (.str (Txt.slice z lo hi)) H) := by
  intro pins s σ H x v vl vu lo hi sl Q I rx hs pl pu h
  obtain ⟨z, rfl, hz, q⟩ := h
  obtain ⟨t, rfl⟩ := rx
  refine ⟨"str", _, F.slot_str_getitem.lookup, typeIs_str _ _ _, ?_⟩
  have fin : ∀ t' k, EP X pins σ Q (.str (Txt.slice z lo hi) t') { s with toks := k } := fun t' k => ⟨.str _, H, I.tok _, ⟨_, rfl⟩, q⟩
  cases pl with
  | none =>
    cases pu with
    | none => exact wpAny_getItem_str_slice (l := none) (u := none) (st := none) hs rfl (post_val_or_str ⟨Nat.le_trans (Txt.slice_le z none none) hz, fin⟩)
    | int j uj => exact wpAny_getItem_str_slice (l := none) (u := some (j, uj)) (st := none) hs rfl (post_val_or_str ⟨Nat.le_trans (Txt.slice_le z none (some j)) hz, fin⟩)
  | int i ui =>
    cases pu with
    | none => exact wpAny_getItem_str_slice (l := some (i, ui)) (u := none) (st := none) hs rfl (post_val_or_str ⟨Nat.le_trans (Txt.slice_le z (some i) none) hz, fin⟩)
    | int j uj => exact wpAny_getItem_str_slice (l := some (i, ui)) (u := some (j, uj)) (st := none) hs rfl (post_val_or_str ⟨Nat.le_trans (Txt.slice_le z (some i) (some j)) hz, fin⟩)
theorem joinS {ta tb : TS} {D : Ends} {σ : St} {H : Hp} (R : St → Hp → Prop) (hm : ∀ D' : Ends, (∀ σ' H', R σ' H' → D'.nx σ' H') → ta D' σ H) (hq : ∀ σ' H', R σ' H' → tb D σ' H') : tSeq ta tb D σ H := hm _ hq
end L2
namespace L2
open PySem PySem.Spec PyProof.Rows
section
variable {X : Cx}
theorem Inv.tnew {pins : List (Addr × Obj)} {σ : St} {H : Hp} {s : Shared} {ys : List V} {its : List Value} {t' : Nat} (I : Inv X pins σ H s) (hv : Vals ys its) (hz : ys.length ≤ sizeLine) :
    Inv X pins σ (upd H s.heap.objs.size (.tup ys)) { s with heap := s.heap.push { cls := .type "tuple", data := .seq its.toArray }, toks := t' } :=
  I.laid (fun _ _ q => Heap.get?_push_of_some _ q) (Nat.le_refl _) ⟨hz, its, hv, ⟨_, Heap.get?_push_size _ rfl, rfl, _, rfl⟩⟩
theorem mt_partition : MtR X "str.partition" (fun x vs H Q => ∃ z y, x = .str z ∧ vs = [.str y] ∧ y.length ≠ 0 ∧ z.length ≤ sizeLine ∧ ∀ p, H p = none → Q (.ref p) (upd H p (.tup [.str (Txt.partition z y).1, .str (Txt.partition z y).2.1, .str (Txt.partition z y).2.2]))) := by
  intro pins s σ H x vs v us Q I rx rv h
  obtain ⟨z, y, rfl, rfl, hy0, hz, q⟩ := h
  obtain ⟨t, rfl⟩ := rx
  obtain ⟨u, rfl, t', rfl⟩ := vals1 rv
  have hy : (y.length == 0) = false := by simpa using hy0
  refine call_meets F.slot_str_partition (typeIs_str _ _ _) F.entry_str_partition (F.args_str_partition_2 _ _) (meets_str_partition z y t t' hy hz) ?_
  have q' := q
  unfold Txt.partition at q'
  revert q'
  cases Builtin.Str.occurrences z y 0 z.length 1 with
  | nil => intro q'; exact ⟨.ref _, _, I.tnew (ys := [.str _, .str _, .str _]) (.cons ⟨_, rfl⟩ (.cons ⟨_, rfl⟩ (.cons ⟨_, rfl⟩ .nil))) (by show 3 ≤ sizeLine; decide), rfl, q' _ I.fresh⟩
  | cons i r => intro q'; exact ⟨.ref _, _, I.tnew (ys := [.str _, .str _, .str _]) (.cons ⟨_, rfl⟩ (.cons ⟨_, rfl⟩ (.cons ⟨_, rfl⟩ .nil))) (by show 3 ≤ sizeLine; decide), rfl, q' _ I.fresh⟩
theorem op_inS : OpR X (compareOp .In) (fun x y H Q => ∃ a b, x = .str a ∧ y = .str b ∧ Q (.bl (Txt.contains b a)) H) := by
  intro pins s σ H x y v u Q I rx ry h
  obtain ⟨a, b, rfl, rfl, q⟩ := h
  obtain ⟨t, rfl⟩ := rx
  obtain ⟨t', rfl⟩ := ry
  exact PySem.P.in_str ⟨.bl _, H, I, rfl, q⟩
theorem call_int_text : CallR X (.type "int") (fun xs H Q => ∃ z n, xs = [.str z] ∧ PySem.intText? z = some n ∧ z.length ≤ 640 ∧ Q (.int n) H) := by
  intro pins s σ H xs us Q I r h
  obtain ⟨z, n, rfl, hn, hl, q⟩ := h
  obtain ⟨u, rfl, t', rfl⟩ := vals1 r
  exact PySem.W.KIN.call_text hn hl ⟨.int _, H, I.tok _, ⟨_, rfl⟩, q⟩
def Its (z : Str) : It := ⟨fun i _ => i < z.cps.size, fun i H x H' => H' = H ∧ ∃ c, z.cps[i]? = some c ∧ x = .str ⟨#[c]⟩, fun i _ => z.cps.size ≤ i⟩
theorem turn_strA {P : Program} {w : World} {K : PySem.W.Frag} {tg : Expr} (z : Str) (t : Tok) (it : Addr) : Turn P w K tg (Its z) [it] it (fun i h => h.IsStrIter it "str_ascii_iterator" z t (min i z.cps.size)) where
  mem := by simp
  obj := fun i h st b hb => by
    have e : b = it := by simpa using hb
    subst e
    obtain ⟨o, e, c, d⟩ := st
    exact ⟨o, e, fun v z => by rw [d] at z; cases z⟩
  keep := fun i h h' st k => by
    obtain ⟨o, e, r⟩ := st
    exact ⟨o, k it (by simp) o e, r⟩
  item := by
    intro X hP hw hK hc i pins s σ H E I hf st hg
    subst hP hw hK
    obtain ⟨f0, f1, f2, f3, f4, f5⟩ := hf it (by simp)
    have hg : i < z.cps.size := hg
    rw [Nat.min_eq_left (Nat.le_of_lt hg)] at st
    have W := Walks.strAscii (prog := X.prog) (w := X.w) (I.ok.hd hc) it z t
    refine W.item i s _ _ hg st fun v h' tk hv st' kk => ?_
    obtain ⟨c, u, ec, rfl⟩ := hv
    have I1 : Inv X pins σ H { s with heap := h', toks := tk } := I.turned (fun b o hb e => kk b o (by simpa using hb) e) f0 f1 f3 f4 f5
    obtain ⟨o, e, cl, d⟩ := id st'
    refine ⟨_, rfl, go_of (s := { s with heap := h', toks := tk }) e cl d (by decide) ⟨.str ⟨#[c]⟩, H, I1, ⟨u, rfl⟩, ⟨rfl, c, ec, rfl⟩, ?_, fun b hb => (hf b hb).1⟩⟩
    rw [Nat.min_eq_left hg]
    exact st'
  done := by
    intro X hP hw hK hc i pins s σ H E I hf st hg
    subst hP hw hK
    obtain ⟨f0, f1, f2, f3, f4, f5⟩ := hf it (by simp)
    have hg : z.cps.size ≤ i := hg
    rw [Nat.min_eq_right hg] at st
    have W := Walks.strAscii (prog := X.prog) (w := X.w) (I.ok.hd hc) it z t
    exact W.done s _ _ st fun h' tk kk => ⟨rfl, I.turned (fun b o hb e => kk b o (by simpa using hb) e) f0 f1 f3 f4 f5⟩
  self := fun _ _ _ _ _ st h => wpAny_pyIter_striter_ascii st h
def iStr (tl : TE) : TI := fun σ H R => tl σ H fun x H1 => ∃ z, x = .str z ∧ z.cps.all (· < 128) = true ∧ R (Its z) H1
theorem pi_str {tg l : Expr} {tl : TE} (hl : PE X l tl) : PI X tg l (iStr tl) := by
  intro pins s σ H R I h
  refine thn (hl pins s σ H _ I h) fun v s1 ⟨x, H1, I1, r1, q1⟩ => ?_
  obtain ⟨z, rfl, ha, q⟩ := q1
  obtain ⟨t, rfl⟩ := r1
  refine wpAny_pyIter_ascii ha ?_
  refine ⟨s1.heap.objs.size, [s1.heap.objs.size], _, _, H1, rfl, I1.kept (t' := s1.toks) fun b o e => Heap.get?_push_of_some _ e, turn_strA z t _, ?_, fun b hb => ?_, q⟩
  · dsimp only
    rw [Nat.zero_min]
    exact ⟨_, Heap.get?_push_size _ rfl, rfl, rfl⟩
  · have e : b = s1.heap.objs.size := by simpa using hb
    subst e
    exact I1.fpOk (Nat.le_refl _) (I1.hok.fresh (Nat.le_refl _))
theorem comp_str {z : Str} {js : List Nat} {te : TE} {σ : St} {H : Hp} {R : Addr → Hp → Prop} (Pv : Addr → Nat → List V → Hp → Prop) (h0 : ∀ D, H D = none → Pv D 0 [] (upd H D (.lst [])))
    (hs : ∀ D (i : Nat) c ys H' Qb, H D = none → z.cps[i]? = some c → Pv D i ys H' → (∀ y H3, H3 D = some (.lst ys) → ys.length < sizeLine → Pv D (i + 1) (ys ++ [y]) (upd H3 D (.lst (ys ++ [y]))) → Qb y H3) → te (some (.str ⟨#[c]⟩) :: capt js σ) H' Qb)
    (hd : ∀ D ys H', H D = none → Pv D z.cps.size ys H' → R D H') :
    ∀ D, H D = none → ∃ W : Nat → Nat → List V → Hp → Prop, (∃ m, W 0 m [] (upd H D (.lst []))) ∧ ∀ i m ys H, W i m ys H →
      ((Its z).stop i H ∧ R D H) ∨ ((Its z).go i H ∧ ∀ x H', (Its z).yld i H x H' → if true = true then te (some x :: capt js σ) H' fun y H3 => H3 D = some (.lst ys) ∧ ys.length < sizeLine ∧ ∃ m', m' < m ∧ W (i + 1) m' (ys ++ [y]) (upd H3 D (.lst (ys ++ [y])))
        else ∃ m', m' < m ∧ W (i + 1) m' ys H') := by
  intro D hD
  refine ⟨fun i m ys H' => m = z.cps.size - i ∧ i ≤ z.cps.size ∧ Pv D i ys H', ⟨z.cps.size, by simp, by omega, h0 D hD⟩, ?_⟩
  rintro i m ys H' ⟨rfl, hi, hp⟩
  by_cases hlt : i < z.cps.size
  · refine .inr ⟨hlt, fun x H2 ⟨e2, c, ec, ex⟩ => ?_⟩
    subst e2 ex
    refine iteT ?_
    exact hs D i c ys _ _ hD ec hp fun y H3 a b c => ⟨a, b, z.cps.size - (i + 1), by omega, rfl, by omega, c⟩
  · have e : i = z.cps.size := by omega
    subst e
    exact .inl ⟨Nat.le_refl _, hd D ys H' hD hp⟩
end
end L2
namespace Tx
open PySem PySem.Builtin.Str
abbrev sg (z : Str) : List Nat := z.cps.toList
abbrev bl : Str := " "
theorem bl_eq : (bl : Str) = ⟨#[32]⟩ := by decide +kernel
theorem sg_inj {a b : Str} (h : sg a = sg b) : a = b := by
  cases a; cases b
  exact congrArg Str.mk (Array.toList_inj.mp h)
theorem sg_app (a b : Str) : sg (a ++ b) = sg a ++ sg b := by
  show (a.cps ++ b.cps).toList = _
  rw [Array.toList_append]
theorem sg_len (z : Str) : z.length = (sg z).length := by simp [Str.length]
theorem sub_sg (z : Str) (i j : Nat) : sg (strSub z i j) = ((sg z).drop i).take (j - i) := StrLaws.strSub_toList z i j
theorem tw_dw {p : Nat → Bool} : ∀ l : List Nat, l.drop (l.takeWhile p).length = l.dropWhile p
  | [] => rfl
  | a :: l => by
    by_cases h : p a = true
    · rw [List.takeWhile_cons_of_pos h, List.dropWhile_cons_of_pos h]; exact tw_dw l
    · rw [List.takeWhile_cons_of_neg h, List.dropWhile_cons_of_neg h]; rfl
theorem goes32 : (bl : Str).cps.contains = (fun c : Nat => c == 32) := by
  funext c
  rw [bl_eq, Bool.eq_iff_iff]
  simp
theorem lstrip_sg (z : Str) : sg (Txt.lstripChars z bl) = (sg z).dropWhile (· == 32) := by
  rw [Txt.lstripChars, PySem.W.stripBy_eq]
  unfold W.stripped
  simp only [if_true, Bool.false_eq_true, if_false]
  rw [sub_sg, goes32, tw_dw]
  exact List.take_of_length_le (by rw [← tw_dw, List.length_drop, sg_len]; exact Nat.le_refl _)
theorem rev_dw {p : Nat → Bool} (l : List Nat) : l.take (l.length - (l.reverse.takeWhile p).length) = (l.reverse.dropWhile p).reverse := by
  rw [← tw_dw, List.drop_reverse, List.reverse_reverse]
theorem rstrip_sg (z : Str) : sg (Txt.rstripChars z bl) = ((sg z).reverse.dropWhile (· == 32)).reverse := by
  rw [Txt.rstripChars, PySem.W.stripBy_eq]
  unfold W.stripped
  simp only [if_true, Bool.false_eq_true, if_false]
  rw [sub_sg, goes32, List.drop_zero, Nat.sub_zero, sg_len]
  exact rev_dw _
theorem starts_sg (z y : Str) : Txt.startswith z y = (sg y).isPrefixOf (sg z) := by
  unfold Txt.startswith
  rw [StrLaws.subAt_eq, List.drop_zero, sg_len, sg_len]
  rw [Bool.eq_iff_iff, List.isPrefixOf_iff_prefix, Bool.and_eq_true, decide_eq_true_eq, beq_iff_eq, List.prefix_iff_eq_take]
  constructor
  · exact fun h => h.2.symm
  · intro h
    refine ⟨?_, h.symm⟩
    have := congrArg List.length h
    rw [List.length_take] at this
    omega
theorem part_no {z : Str} (h : 32 ∉ sg z) : Txt.partition z bl = (z, Str.empty, Str.empty) := by
  unfold Txt.partition
  rcases StrLaws.occ_head z bl 1 (Nat.le_refl 1) with ⟨h0, _⟩ | ⟨i, r, h0, hi, hn⟩
  · rw [h0]
  · rw [bl_eq] at hi
    exact absurd (List.mem_of_getElem? ((StrLaws.subAt_one z 32 i).mp hi)) h
theorem part_at {z : Str} {a b : List Nat} (h : sg z = a ++ 32 :: b) (ha : 32 ∉ a) : sg (Txt.partition z bl).1 = a ∧ (Txt.partition z bl).2.1 = bl ∧ sg (Txt.partition z bl).2.2 = b := by
  unfold Txt.partition
  have at_a : (sg z)[a.length]? = some 32 := by rw [h]; simp
  rcases StrLaws.occ_head z bl 1 (Nat.le_refl 1) with ⟨h0, hn⟩ | ⟨i, r, h0, hi, hn⟩
  · rw [bl_eq] at hn
    exact absurd ((StrLaws.subAt_one z 32 _).mpr at_a) (hn _)
  · rw [h0]
    rw [bl_eq] at hi hn
    have e1 := (StrLaws.subAt_one z 32 i).mp hi
    have e2 : ¬ a.length < i := fun c => hn _ c ((StrLaws.subAt_one z 32 _).mpr at_a)
    have e3 : ¬ i < a.length := fun c => by
      have e1 : (sg z)[i]? = some 32 := e1
      rw [h, List.getElem?_append_left c] at e1
      exact ha (List.mem_of_getElem? e1)
    have e : i = a.length := by omega
    subst e
    refine ⟨?_, rfl, ?_⟩
    · rw [sub_sg, h]; simp
    · rw [sub_sg, sg_len, sg_len, h, bl_eq]; simp
      exact List.take_of_length_le (by omega)
theorem fig (c : Nat) : Txt.contains "0123456789" ⟨#[c]⟩ = decide (48 ≤ c ∧ c ≤ 57) := by
  unfold Txt.contains
  have hs : sg "0123456789" = [48, 49, 50, 51, 52, 53, 54, 55, 56, 57] := by decide +kernel
  rw [Bool.eq_iff_iff, decide_eq_true_eq]
  rcases StrLaws.occ_head "0123456789" ⟨#[c]⟩ 1 (Nat.le_refl 1) with ⟨h0, hn⟩ | ⟨i, r, h0, hi, hn⟩
  · rw [h0]
    constructor
    · intro z; cases z
    · intro z
      have hm : c ∈ sg "0123456789" := by rw [hs]; simp; omega
      obtain ⟨j, hj⟩ := List.getElem?_of_mem hm
      exact absurd ((StrLaws.subAt_one _ c j).mpr hj) (hn j)
  · rw [h0]
    constructor
    · intro _
      have hm := List.mem_of_getElem? ((StrLaws.subAt_one _ c i).mp hi)
      have hm : c ∈ sg "0123456789" := hm
      rw [hs] at hm
      simp at hm
      omega
    · intro _; rfl
end Tx
namespace L2
open PySem PySem.Spec PyProof.Rows
def KpR (o o' : Obj) : Prop := o'.cls = o.cls ∧ o'.dict = o.dict ∧ o'.isFreed = o.isFreed ∧ ∀ vs, o.data = .fields vs → ∃ vs', o'.data = .fields vs' ∧ vs'.size = vs.size ∧ ∀ i : Nat, i ≠ 1 → i ≠ 3 → vs'[i]? = vs[i]?
theorem KpR.refl (o : Obj) : KpR o o := ⟨rfl, rfl, rfl, fun vs e => ⟨vs, e, rfl, fun _ _ _ => rfl⟩⟩
theorem KpR.trans {a b c : Obj} (x : KpR a b) (y : KpR b c) : KpR a c := by
  obtain ⟨x1, x2, x3, x4⟩ := x
  obtain ⟨y1, y2, y3, y4⟩ := y
  refine ⟨y1.trans x1, y2.trans x2, y3.trans x3, fun vs e => ?_⟩
  obtain ⟨v1, e1, s1, k1⟩ := x4 vs e
  obtain ⟨v2, e2, s2, k2⟩ := y4 v1 e1
  exact ⟨v2, e2, s2.trans s1, fun i h1 h3 => (k2 i h1 h3).trans (k1 i h1 h3)⟩
theorem kpR_slots {o : Obj} {sl : Array (Option Value)} : KpR o { o with slots := sl } := ⟨rfl, rfl, by obtain ⟨c, d, dt, z⟩ := o; cases dt <;> rfl, fun vs e => ⟨vs, e, rfl, fun _ _ _ => rfl⟩⟩
theorem kpR_field {o : Obj} {n : Nat} {v : Value} (hn : n = 1 ∨ n = 3) : KpR o (Obj.mapFields (·.setIfInBounds n v) o) := by
  refine ⟨Obj.cls_mapFields _ _, ?_, ?_, fun vs e => ⟨_, Obj.data_mapFields e _, by simp, fun i h1 h3 => ?_⟩⟩
  · obtain ⟨c, d, dt, z⟩ := o; cases dt <;> rfl
  · obtain ⟨c, d, dt, z⟩ := o; cases dt <;> rfl
  · rw [Array.getElem?_setIfInBounds_ne (by omega)]
def KpH (h h' : Heap) : Prop := ∀ b o, h.get? b = some o → ∃ o', h'.get? b = some o' ∧ KpR o o'
theorem KpH.refl (h : Heap) : KpH h h := fun b o e => ⟨o, e, .refl o⟩
theorem KpH.trans {a b c : Heap} (x : KpH a b) (y : KpH b c) : KpH a c := fun p o e => by
  obtain ⟨o1, e1, k1⟩ := x p o e
  obtain ⟨o2, e2, k2⟩ := y p o1 e1
  exact ⟨o2, e2, k1.trans k2⟩
theorem kpH_push (h : Heap) (o : Obj) : KpH h (h.push o) := fun b u e => ⟨u, Heap.get?_push_of_some _ e, .refl u⟩
theorem kpH_update (h : Heap) (a : Addr) (f : Obj → Obj) (hf : ∀ o, KpR o (f o)) : KpH h (h.update a f) := fun b u e => by
  by_cases c : a = b
  · subst c
    refine ⟨f u, Heap.get?_update_self f e ?_, hf u⟩
    rw [(hf u).2.2.1]
    exact (Heap.get?_some_iff.mp e).2
  · exact ⟨u, (Heap.get?_update_other h f c).trans e, .refl u⟩
inductive DS {α : Type} : Sem α → Prop
  | pure (a : α) : DS (.pure a)
  | raise (e : Value) : DS (.raise e)
  | unsup (z : String) : DS (.unsupported z)
  | rule {t : String} {k : Unit → Sem α} (h : DS (k ())) : DS (.rule t k)
  | pos {t : Pos} {k : Unit → Sem α} (h : DS (k ())) : DS (.at t k)
  | load {a : Addr} {b : Option Value} {k : Obj → Sem α} (h : ∀ o, DS (k o)) : DS (.load a b k)
  | update {a : Addr} {b : Option Value} {f : Obj → Obj} {k : Unit → Sem α} (hf : ∀ o, KpR o (f o)) (h : DS (k ())) : DS (.update a b f k)
  | alloc {o : Obj} {k : Addr → Sem α} (h : ∀ a, DS (k a)) : DS (.alloc o k)
  | alive {a : Addr} {k : Option Obj → Sem α} (h : ∀ o, DS (k o)) : DS (.loadIfAlive a k)
  | point {l : List Value} {k : Unit → Sem α} (h : DS (k ())) : DS (.point l k)
  | reg {a : Addr} {k : Unit → Sem α} : DS (.register a k)
  | fresh {k : Tok → Sem α} (h : ∀ t, DS (k t)) : DS (.fresh k)
  | ask {k : Setting → Sem α} (h : ∀ t, DS (k t)) : DS (.ask k)
  | hand {b : Bool} {k : Option Value → Sem α} (h : ∀ t, DS (k t)) : DS (.handled b k)
  | stack {k : List (Code × Pos) → Sem α} (h : ∀ t, DS (k t)) : DS (.stack k)
theorem DS.bnd {α β : Type} {f : α → Sem β} (hf : ∀ a, DS (f a)) {t : Sem α} (h : DS t) : DS (t >>= f) := by
  show DS (Sem.bind t f)
  induction h with
  | pure a => exact hf a
  | raise e => exact .raise e
  | unsup z => exact .unsup z
  | rule _ ih => exact .rule ih
  | pos _ ih => exact .pos ih
  | load _ ih => exact .load ih
  | update hf _ ih => exact .update hf ih
  | alloc _ ih => exact .alloc ih
  | alive _ ih => exact .alive ih
  | point _ ih => exact .point ih
  | reg => exact .reg
  | fresh _ ih => exact .fresh ih
  | ask _ ih => exact .ask ih
  | hand _ ih => exact .hand ih
  | stack _ ih => exact .stack ih
theorem wp_keep {α : Type} {M : Model} {Γ : PySem.Ctx} {Q : α → Pos → Shared → Prop} {E : Value → Pos → Shared → Prop} {h0 : Heap} {t : Sem α} (d : DS t) : ∀ (p : Pos) (s : Shared), KpH h0 s.heap → Sem.wp M Γ t Q E p s → Sem.wp M Γ t (fun a p s' => Q a p s' ∧ KpH h0 s'.heap) (fun e p s' => E e p s' ∧ KpH h0 s'.heap) p s := by
  induction d with
  | pure a => intro p s k h; rw [Sem.wp] at h ⊢; exact ⟨h, k⟩
  | raise e => intro p s k h; rw [Sem.wp] at h ⊢; exact ⟨h, k⟩
  | unsup z => intro p s k h; rw [Sem.wp] at h; exact h.elim
  | rule _ ih => intro p s k h; rw [Sem.wp] at h ⊢; exact ih p s k h
  | pos _ ih => intro p s k h; rw [Sem.wp] at h ⊢; exact ih _ s k h
  | load _ ih => intro p s k h; rw [Sem.wp] at h ⊢; obtain ⟨o, e, h⟩ := h; exact ⟨o, e, ih o p s k h⟩
  | update hf _ ih => intro p s k h; rw [Sem.wp] at h ⊢; exact ⟨h.1, ih p _ (k.trans (kpH_update _ _ _ hf)) h.2⟩
  | alloc _ ih => intro p s k h; rw [Sem.wp] at h ⊢; exact ih _ p _ (k.trans (kpH_push _ _)) h
  | alive _ ih => intro p s k h; rw [Sem.wp] at h ⊢; exact ih _ p s k h
  | point _ ih => intro p s k h; rw [Sem.wp] at h ⊢; exact ih p s k h
  | reg => intro p s k h; rw [Sem.wp] at h; exact h.elim
  | fresh _ ih => intro p s k h; rw [Sem.wp] at h ⊢; exact ih _ p _ k h
  | ask _ ih => intro p s k h; rw [Sem.wp] at h ⊢; exact ih _ p s k h
  | hand _ ih => intro p s k h; rw [Sem.wp] at h ⊢; exact ih _ p s k h
  | stack _ ih => intro p s k h; rw [Sem.wp] at h ⊢; exact ih _ p s k h
theorem wpAny_keep {α : Type} {M : Model} {A : Around} {Q : α → Shared → Prop} {E : Value → Shared → Prop} {t : Sem α} {s : Shared} (d : DS t) (h : wpAny M A t Q E s) : wpAny M A t (fun a s' => Q a s' ∧ KpH s.heap s'.heap) (fun e s' => E e s' ∧ KpH s.heap s'.heap) s := fun Γ p i =>
  wp_keep d p s (.refl _) (h Γ p i)
theorem ds_fieldsOf (v : Value) : DS (fieldsOf v) := by
  unfold fieldsOf
  cases v <;> first | exact .unsup _ | skip
  refine .bnd (fun o => ?_) (.load fun o => .pure o)
  split <;> first | exact .pure _ | exact .unsup _
theorem ds_field (v : Value) (i : Nat) : DS (field v i) := by
  unfold field
  refine .bnd (fun o => ?_) (ds_fieldsOf v)
  split <;> first | exact .pure _ | exact .unsup _
theorem ds_setField (v : Value) (n : Nat) (x : Value) (hn : n = 1 ∨ n = 3) : DS (setField v n x) := by
  unfold setField
  cases v <;> first | exact .unsup _ | skip
  dsimp only
  unfold updateField
  refine .bnd (fun o => ?_) (.load fun o => .pure o)
  split
  · split
    · exact .update (fun o => kpR_field hn) (.pure _)
    · exact .unsup _
  · exact .unsup _
theorem ds_setFlight (v : Value) (f : Option Addr) : DS (setFlight v f) := by
  unfold setFlight
  refine .bnd (fun tb => ?_) (ds_field v 1)
  split
  · exact ds_setField _ _ _ (.inr rfl)
  · exact .pure _
theorem ds_stack : DS stack := .stack fun l => .pure l
theorem ds_frameEnvs : DS frameEnvs := by
  unfold frameEnvs
  exact .bnd (fun l => .pure _) ds_stack
theorem ds_behind (e : Env) (l : List Env) : DS (behindIsImport e l) := by
  unfold behindIsImport
  repeat (first | exact .pure _ | exact .unsup _ | exact ds_stack | exact ds_field _ _ | (refine .bnd (fun _ => ?_) ?_) | split)
theorem ds_kept (e : Env) (b : Bool) (l : List Env) : DS (keptBack e b l) := by
  unfold keptBack
  repeat (first | exact .pure _ | exact .unsup _ | exact ds_stack | (refine .bnd (fun _ => ?_) ?_) | split | unfold underTheClaimsCaller)
theorem ds_ready : ∀ l : List Env, DS (readyFrames l)
  | [] => by unfold readyFrames; exact .pure _
  | e :: l => by
    unfold readyFrames
    split
    · refine .bnd (fun o => ?_) (.load fun o => .pure o)
      split
      · exact .pure _
      · refine .bnd (fun i => ?_) (ds_behind _ _)
        refine .bnd (fun b => ?_) (ds_kept _ _ _)
        refine .bnd (fun _ => ds_ready l) (.update (fun o => kpR_slots) (.pure _))
    · exact .unsup _
theorem ds_frameOf (e : Env) : DS (PySem.frameOf e) := by
  unfold PySem.frameOf
  refine .bnd (fun l => ?_) ds_frameEnvs
  refine .bnd (fun o => ?_) ?_
  · split <;> first | exact .pure _ | exact .unsup _
  · unfold frameObject
    split
    · exact .pure _
    · exact .bnd (fun _ => .pure _) (ds_ready _)
theorem ds_place (f : Addr) (b : Bool) : DS (entryPlaceOf f b) := by
  unfold entryPlaceOf
  refine .bnd (fun l => ?_) ds_stack
  split <;> exact .pure _
theorem ds_newFields (ty : String) (vs : List Value) : DS (newFields ty vs) := by
  have as : DS (newObjAsIs (.type ty) (.fields vs.toArray)) := by
    unfold newObjAsIs
    refine .bnd (fun a => ?_) (.alloc fun a => .pure a)
    exact .pure _
  unfold newFields newObj
  dsimp only
  split
  · exact .bnd (fun _ => as) (.unsup _)
  · exact as
theorem ds_tail (v hd fl : Value) (e : Env) (f : Addr) (b : Bool) : DS (do let x ← PySem.frameOf e; let y ← entryPlaceOf f b; let z ← EntryCells.newEntry hd x .none fl .none y; setField v 1 z) := by
  refine .bnd (fun x => ?_) (ds_frameOf e)
  refine .bnd (fun y => ?_) (ds_place _ _)
  refine .bnd (fun z => ds_setField _ _ _ (.inl rfl)) ?_
  unfold EntryCells.newEntry
  exact ds_newFields _ _
theorem ds_note (v : Value) (e : Env) : DS (noteFrame v e) := by
  unfold noteFrame
  split
  · refine .bnd (fun hd => ?_) (ds_field v 1)
    split
    · refine .bnd (fun x => ?_) (ds_field _ 3)
      split
      · exact .pure _
      · exact .bnd (fun _ => ds_tail v hd _ e _ _) (ds_setField _ _ _ (.inr rfl))
    · exact ds_tail v hd _ e _ _
  · exact .unsup _
theorem ds_leaving (v : Value) (e : Env) : DS (leaving e v) := by
  unfold leaving
  exact .bnd (fun _ => ds_setFlight v none) (ds_note v e)
end L2
namespace Tx
open PySem PySem.Builtin.Str PySem.NumText
theorem slice_sg (z : Str) (k : Nat) : sg (Txt.slice z (some (k : Int)) none) = (sg z).drop k := by
  by_cases h : (k : Int) ≤ z.length
  · rw [PyProof.Rows.slice_from_eq (b := z.length) (by omega) h rfl]
    show ((sg z).drop ((k : Int)).toNat).take _ = _
    rw [show ((k : Int)).toNat = k from rfl]
    exact List.take_of_length_le (by rw [List.length_drop, ← sg_len]; omega)
  · rw [PyProof.Rows.slice_beyond (by omega)]
    rw [List.drop_eq_nil_of_le (by rw [← sg_len]; omega)]
    rfl
def dg (w : List Nat) : Bool := w.all fun c => decide (48 ≤ c ∧ c ≤ 57)
theorem dg_iff {w : List Nat} : dg w = true ↔ AllDigits w := by
  unfold dg AllDigits
  rw [List.all_eq_true]
  exact ⟨fun h c hc => of_decide_eq_true (h c hc), fun h c hc => decide_eq_true (h c hc)⟩
def keyR (w : List Nat) (D : Nat) : Option Nat := if 0 < w.length ∧ w.length ≤ 9 ∧ dg w = true ∧ digitsVal w < 2 ^ D then some (digitsVal w) else none
inductive Stp where
  | put (k : Nat) (v : Str)
  | cut (k : Nat)
def putL : List Nat := [112, 117, 116, 32]
def cutL : List Nat := [99, 117, 116, 32]
theorem put_sg : sg "put " = putL := by decide +kernel
theorem cut_sg : sg "cut " = cutL := by decide +kernel
def readB (b : List Nat) (D : Nat) : Option (Option Stp) :=
  if b = [] ∨ [35].isPrefixOf b = true then some none
  else if putL.isPrefixOf b = true then
    (if 32 ∈ b.drop 4 then (keyR ((b.drop 4).takeWhile (· != 32)) D).map fun k => some (.put k ⟨(((b.drop 4).dropWhile (· != 32)).drop 1).toArray⟩) else none)
  else if cutL.isPrefixOf b = true then (keyR ((b.drop 4).reverse.dropWhile (· == 32)).reverse D).map fun k => some (.cut k)
  else none
def readR (z : Str) (D : Nat) : Option (Option Stp) := readB ((sg z).dropWhile (· == 32)) D
theorem dw_rep {n c : Nat} {l : List Nat} (hc : c ≠ 32) : (List.replicate n 32 ++ c :: l).dropWhile (· == 32) = c :: l := by
  induction n with
  | zero => rw [List.replicate_zero, List.nil_append, List.dropWhile_cons_of_neg (by simpa using hc)]
  | succ n ih => rw [List.replicate_succ, List.cons_append, List.dropWhile_cons_of_pos (by simp)]; exact ih
theorem dw_rep0 {n : Nat} : (List.replicate n 32).dropWhile (· == 32) = [] := by
  induction n with
  | zero => rfl
  | succ n ih => rw [List.replicate_succ, List.dropWhile_cons_of_pos (by simp)]; exact ih
theorem tw_no {a b : List Nat} (h : 32 ∉ a) : (a ++ 32 :: b).takeWhile (· != 32) = a ∧ (a ++ 32 :: b).dropWhile (· != 32) = 32 :: b := by
  induction a with
  | nil => exact ⟨by rw [List.nil_append, List.takeWhile_cons_of_neg (by simp)], by rw [List.nil_append, List.dropWhile_cons_of_neg (by simp)]⟩
  | cons c a ih =>
    have hc : c ≠ 32 := fun e => h (e ▸ List.mem_cons_self)
    obtain ⟨i1, i2⟩ := ih fun e => h (List.mem_cons_of_mem _ e)
    exact ⟨by rw [List.cons_append, List.takeWhile_cons_of_pos (by simpa using hc), i1], by rw [List.cons_append, List.dropWhile_cons_of_pos (by simpa using hc), i2]⟩
theorem dig_no32 {w : List Nat} (h : AllDigits w) : 32 ∉ w := fun m => by have := h 32 m; omega
theorem read_empty {n D : Nat} {z : Str} (h : sg z = List.replicate n 32) : readR z D = some none := by
  unfold readR; rw [h, dw_rep0]; rfl
theorem read_remark {n D : Nat} {z : Str} {l : List Nat} (h : sg z = List.replicate n 32 ++ 35 :: l) : readR z D = some none := by
  unfold readR; rw [h, dw_rep (by decide)]; unfold readB; rw [if_pos (Or.inr (by simp [List.isPrefixOf]))]
theorem read_put {n D : Nat} {z v : Str} {w : List Nat} (hw : AllDigits w) (h : sg z = List.replicate n 32 ++ (putL ++ (w ++ 32 :: sg v))) : readR z D = (keyR w D).map fun k => some (.put k v) := by
  unfold readR; rw [h]
  show readB ((List.replicate n 32 ++ 112 :: (117 :: 116 :: 32 :: (w ++ 32 :: sg v))).dropWhile (· == 32)) D = _
  rw [dw_rep (by decide)]
  obtain ⟨t1, t2⟩ := tw_no (a := w) (b := sg v) (dig_no32 hw)
  unfold readB
  rw [if_neg (by simp [List.isPrefixOf]), if_pos (by simp [List.isPrefixOf, putL])]
  show (if 32 ∈ (w ++ 32 :: sg v) then _ else _) = _
  rw [if_pos (by simp)]
  show (keyR ((w ++ 32 :: sg v).takeWhile (· != 32)) D).map (fun k => some (Stp.put k ⟨(((w ++ 32 :: sg v).dropWhile (· != 32)).drop 1).toArray⟩)) = _
  rw [t1, t2]
  have e : (⟨((32 :: sg v).drop 1).toArray⟩ : Str) = v := sg_inj (by simp)
  rw [e]
theorem rs_dig {w : List Nat} {m : Nat} (hw : AllDigits w) : ((w ++ List.replicate m 32).reverse.dropWhile (· == 32)).reverse = w := by
  rw [List.reverse_append, List.reverse_replicate]
  cases hr : w.reverse with
  | nil =>
    have : w = [] := List.reverse_eq_nil_iff.mp hr
    rw [List.append_nil, dw_rep0, this]; rfl
  | cons c l =>
    have hc : c ∈ w := by rw [← List.mem_reverse, hr]; exact List.mem_cons_self
    have := hw c hc
    rw [dw_rep (by omega), ← hr, List.reverse_reverse]
theorem read_cut {n m D : Nat} {z : Str} {w : List Nat} (hw : AllDigits w) (h : sg z = List.replicate n 32 ++ (cutL ++ (w ++ List.replicate m 32))) : readR z D = (keyR w D).map fun k => some (.cut k) := by
  unfold readR; rw [h]
  show readB ((List.replicate n 32 ++ 99 :: (117 :: 116 :: 32 :: (w ++ List.replicate m 32))).dropWhile (· == 32)) D = _
  rw [dw_rep (by decide)]
  unfold readB
  rw [if_neg (by simp [List.isPrefixOf]), if_neg (by simp [List.isPrefixOf, putL]), if_pos (by simp [List.isPrefixOf, cutL])]
  show (keyR ((w ++ List.replicate m 32).reverse.dropWhile (· == 32)).reverse D).map _ = _
  rw [rs_dig hw]
theorem num_sg (m : Nat) : sg (Str.ofString (toString ((m : Nat) : Int))) = (Nat.toDigits 10 m).map Char.toNat := PySem.W.KIN.signs_num m
theorem num_dig (m : Nat) : AllDigits ((Nat.toDigits 10 m).map Char.toNat) := fun c hc => by
  obtain ⟨ch, hch, e⟩ := List.mem_map.mp hc
  have r := PyProof.Rows.digit_range (Nat.isDigit_of_mem_toDigits (by decide) (by decide) hch)
  rw [← e]; exact r
theorem val_zeros (k : Nat) (l : List Nat) : digitsVal (List.replicate k 48 ++ l) = digitsVal l := by
  induction k with
  | zero => rfl
  | succ k ih =>
    rw [List.replicate_succ, List.cons_append]
    show List.foldl _ (0 * 10 + (48 - 48)) _ = _
    exact ih
theorem zeros_dig {k : Nat} {l : List Nat} (h : AllDigits l) : AllDigits (List.replicate k 48 ++ l) := fun c hc => by
  rcases List.mem_append.mp hc with z | z
  · rw [(List.mem_replicate.mp z).2]; omega
  · exact h c z
theorem key_num {k m D : Nat} (hl : k + ((Nat.toDigits 10 m).map Char.toNat).length ≤ 9) : keyR (List.replicate k 48 ++ (Nat.toDigits 10 m).map Char.toNat) D = if m < 2 ^ D then some m else none := by
  unfold keyR
  have hv : digitsVal (List.replicate k 48 ++ (Nat.toDigits 10 m).map Char.toNat) = m := by rw [val_zeros, PySem.W.KIN.val_back]
  have hp : 0 < (List.replicate k 48 ++ (Nat.toDigits 10 m).map Char.toNat).length := by
    have := PySem.toDigits_len_ge 10 m
    simp; omega
  rw [hv]
  by_cases c : m < 2 ^ D
  · rw [if_pos ⟨hp, by simpa using hl, dg_iff.mpr (zeros_dig (num_dig m)), c⟩, if_pos c]
  · rw [if_neg (fun z => c z.2.2.2), if_neg c]
end Tx
namespace Tx
open PySem PySem.Builtin.Str PySem.NumText
theorem b_none {b : List Nat} {D : Nat} (h0 : ¬ (b = [] ∨ [35].isPrefixOf b = true)) (h1 : putL.isPrefixOf b = false) (h2 : cutL.isPrefixOf b = false) : readB b D = none := by
  unfold readB
  rw [if_neg h0, if_neg (by rw [h1]; simp), if_neg (by rw [h2]; simp)]
theorem b_put {l : List Nat} {D : Nat} (h : 32 ∈ l → keyR (l.takeWhile (· != 32)) D = none) : readB (putL ++ l) D = none := by
  unfold readB
  rw [if_neg (by simp [putL, List.isPrefixOf]), if_pos (by simp [putL, List.isPrefixOf])]
  show (if 32 ∈ l then (keyR (l.takeWhile (· != 32)) D).map _ else none) = none
  by_cases c : 32 ∈ l
  · rw [if_pos c, h c]; rfl
  · rw [if_neg c]
abbrev nl : Str := ⟨#[10]⟩
theorem join_cons (a b : Str) (l : List Str) : sg (Str.join nl (a :: b :: l)) = sg a ++ 10 :: sg (Str.join nl (b :: l)) := by
  show sg (a ++ nl ++ Str.join nl (b :: l)) = _
  rw [sg_app, sg_app, List.append_assoc]
  rfl
theorem tw10 {a b : List Nat} (h : 10 ∉ a) : (a ++ 10 :: b).takeWhile (· != 10) = a ∧ (a ++ 10 :: b).dropWhile (· != 10) = 10 :: b := by
  induction a with
  | nil => exact ⟨by rw [List.nil_append, List.takeWhile_cons_of_neg (by simp)], by rw [List.nil_append, List.dropWhile_cons_of_neg (by simp)]⟩
  | cons c a ih =>
    have hc : c ≠ 10 := fun e => h (e ▸ List.mem_cons_self)
    obtain ⟨i1, i2⟩ := ih fun e => h (List.mem_cons_of_mem _ e)
    exact ⟨by rw [List.cons_append, List.takeWhile_cons_of_pos (by simpa using hc), i1], by rw [List.cons_append, List.dropWhile_cons_of_pos (by simpa using hc), i2]⟩
theorem join_inj : ∀ (l l' : List Str), l ≠ [] → l' ≠ [] → (∀ z ∈ l, 10 ∉ sg z) → (∀ z ∈ l', 10 ∉ sg z) → Str.join nl l = Str.join nl l' → l = l'
  | [], _, h, _, _, _, _ => absurd rfl h
  | _, [], _, h, _, _, _ => absurd rfl h
  | [a], [b], _, _, _, _, h => by rw [show a = b from h]
  | [a], b :: c :: r, _, _, ha, hb, h => by
    have e := congrArg sg h
    rw [join_cons] at e
    have e : sg a = sg b ++ 10 :: sg (Str.join nl (c :: r)) := e
    exact absurd (by rw [e]; simp) (ha a List.mem_cons_self)
  | a :: c :: r, [b], _, _, ha, hb, h => by
    have e := congrArg sg h
    rw [join_cons] at e
    have e : sg a ++ 10 :: sg (Str.join nl (c :: r)) = sg b := e
    exact absurd (by rw [← e]; simp) (hb b List.mem_cons_self)
  | a :: c :: r, b :: d :: t, _, _, ha, hb, h => by
    have e := congrArg sg h
    rw [join_cons, join_cons] at e
    have x1 := tw10 (b := sg (Str.join nl (c :: r))) (ha a List.mem_cons_self)
    have x2 := tw10 (b := sg (Str.join nl (d :: t))) (hb b List.mem_cons_self)
    rw [e] at x1
    have ab : a = b := sg_inj (x1.1.symm.trans x2.1)
    have rest := x1.2.symm.trans x2.2
    injection rest with _ rest
    rw [ab, join_inj (c :: r) (d :: t) (by simp) (by simp) (fun z hz => ha z (List.mem_cons_of_mem _ hz)) (fun z hz => hb z (List.mem_cons_of_mem _ hz)) (sg_inj rest)]
theorem split_join {l : List Str} (hn : l ≠ []) (hf : ∀ z ∈ l, 10 ∉ sg z) : Txt.split (Str.join nl l) nl = l := by
  have hj := StrLaws.join_split (Str.join nl l) nl
  refine join_inj _ _ (fun e => ?_) hn (fun z hz => StrLaws.split_free _ 10 z hz) hf hj
  have hy : (nl.length == 0) = false := rfl
  unfold Txt.split at e
  split at e
  · cases e
  · split at e
    · cases e
    · obtain ⟨p, r, h⟩ := StrLaws.partsFrom_ne (Str.join nl l) nl.length 0 (occurrences (Str.join nl l) nl 0 (Str.join nl l).length ((Str.join nl l).length + 1))
      rw [StrLaws.partsBetween_eq, h] at e
      cases e
end Tx
namespace L2
open PySem PySem.Spec PyProof.Rows
theorem range_all : ∀ (bs : List Bool), (List.range bs.length).all (fun i => bs.getD i false) = bs.all id := fun bs => by
  rw [Bool.eq_iff_iff, List.all_eq_true, List.all_eq_true]
  constructor
  · intro h b hb
    obtain ⟨i, hi⟩ := List.getElem?_of_mem hb
    have hl := (List.getElem?_eq_some_iff.mp hi).1
    have := h i (List.mem_range.mpr hl)
    rw [List.getD_eq_getElem?_getD, hi] at this
    exact this
  · intro h i hi
    have hl := List.mem_range.mp hi
    rw [List.getD_eq_getElem?_getD, List.getElem?_eq_getElem hl]
    exact h _ (List.getElem_mem hl)
theorem call_all {X : Cx} (hc : X.calm = true) : CallR X (.builtin "all") (fun xs H Q => ∃ (p : Addr) (bs : List Bool), xs = [.ref p] ∧ SqL X.K H p (bs.map V.bl) ∧ Q (.bl (bs.all id)) H) := by
  intro pins s σ H xs us Q I r h
  obtain ⟨p, bs, rfl, hq, q⟩ := h
  obtain ⟨u, rfl, ru⟩ := vals1 r
  obtain rfl : u = Value.ref p := ru
  obtain ⟨its, rv, pl, hz⟩ := I.list hq
  have hl : its.length = bs.length := by have := rv.length; rw [List.length_map] at this; exact this.symm
  have hp : p < s.heap.objs.size := by obtain ⟨o, e, _⟩ := pl.isList; exact Heap.lt_size e
  obtain ⟨f0, f1, f2, f3, f4, f5⟩ := I.fpOk (Nat.le_refl _) (I.hok.fresh (Nat.le_refl _))
  refine call_all_walk (wpAny_pyIter_list pl.isList ?_)
  refine ⟨s.heap.objs.size, _, _, _, _, _, fun i => bs.getD i false, rfl, Walks.list (A := X.A.in1) (I.ok.hd hc) s.heap.objs.size p (Nat.ne_of_lt hp) its.toArray, ⟨⟨_, Heap.get?_push_size _ rfl, rfl, rfl⟩, pl.isList.at fun o e => Heap.get?_push_of_some _ e⟩, ?_, ?_⟩
  · intro i v s1 Q1 E1 hv hQ
    have hv' : its[i]? = some v := by simpa using hv
    have hi : i < bs.length := by rw [← hl]; exact (List.getElem?_eq_some_iff.mp hv').1
    obtain ⟨u, hu, ru⟩ := rv.get (i := i) (x := .bl bs[i]) (by rw [List.getElem?_map, List.getElem?_eq_getElem hi]; rfl)
    rw [hv'] at hu
    cases hu
    obtain rfl : v = Value.bool bs[i] := ru
    have e : bs.getD i false = bs[i] := by rw [List.getD_eq_getElem?_getD, List.getElem?_eq_getElem hi]; rfl
    dsimp only at hQ
    rw [e] at hQ
    exact wpAny_truthy_bool hQ
  · intro h' tk k
    have I2 : Inv X pins σ H { s with heap := h', toks := tk } := I.turned (it := s.heap.objs.size) (fun b o hb e => k b o (by simpa using hb) (Heap.get?_push_of_some _ e)) f0 f1 f3 f4 f5
    refine ⟨.bl _, H, I2, rfl, ?_⟩
    rw [List.size_toArray, hl, range_all]
    exact q
end L2
namespace L2
open PySem PySem.Spec PyProof.Rows
abbrev excO (C t : Addr) : Obj := { cls := .ref C, data := .fields #[.ref t, .none, .none, .none, .bool false, .none] }
abbrev tupO (vs : List Value) : Obj := { cls := .type "tuple", data := .seq vs.toArray }
abbrev newH (h : Heap) (C : Addr) (vs : List Value) : Heap := (h.push (tupO vs)).push (excO C h.objs.size)
section
variable {prog : Program} {w : World} {A : Around} {E : Value → Shared → Prop} {h : Heap} {g : Array GenState} {d : Drawn} {t : Nat} {os : OsState}
variable {nm q : Str} {C N fi : Addr} {bs bm bmB : List Value} {hdct : Bool} {sn : List Str} {sub : List Value} {ab : Bool} {col : Option Bool} {dd : Option Addr} {k0 k1 k2 k3 k5 : Option Value} {B Bn newId nid initId inN : String} {bmN : List Value} {fo : Obj}
theorem type_call_own (Fn : ExcBaseFacts Bn newId inN bmN) (hBn : bmB.contains (.type Bn) = true) (F : ExcBaseFacts B nid initId bmB) (T : OwnTail h bmB bm) {mN : Str → Option Value} {vs : List Value} {Q : Fin → Shared → Prop}
    (hC : h.get? C = some (excClassObj nm q C N bs bm hdct sn sub ab col dd k0 k1 k2 k3 k5 newId)) (hn : h.Ns N mN) (hi : mN "__init__" = some (.ref fi)) (hf : h.get? fi = some fo) (hfc : fo.cls = .type "function") (hvs : vs.length ≤ sizeLine)
    (hq : wpAny (model prog w) A (call (.ref fi) (.ref (h.objs.size + 1) :: vs)) (fun v s' => v = .none ∧ Q (.done (.ret (.ref (h.objs.size + 1)))) s') E ⟨newH h C vs, g, d, t, os⟩) :
    wpAny (model prog w) A (Builtin.«type.__call__» ⟨.ref C :: vs, []⟩) Q E ⟨h, g, d, t, os⟩ := by
  repeat first | (with_reducible refine wpAny_loadPart_at hC ?_) | (with_reducible refine wpAny_madeBy_exc hC ?_) | wp_step
  refine codeAny_call_builtin_code (Code.quiet_builtin _ Fn.quiet) ?_
  refine wpAny_check_new_subU Fn hBn T hC ?_
  refine codeAny_exc_new_subU Fn hBn F T hC ?_ hvs
  show wpAny (model prog w) _ _ _ _ _
  have keep : ∀ b o, h.get? b = some o → (newH h C vs).get? b = some o := fun b o e => Heap.get?_push_of_some _ (Heap.get?_push_of_some _ e)
  have hC1 := keep _ _ hC
  have hn1 : (newH h C vs).Ns N mN := by
    obtain ⟨o, es, ep, e, r⟩ := hn
    exact ⟨o, es, ep, keep _ _ e, r⟩
  have he : (newH h C vs).get? (h.objs.size + 1) = some (excO C h.objs.size) := by
    have := Heap.get?_push_size (h.push (tupO vs)) (o := excO C h.objs.size) rfl
    rwa [Heap.size_push] at this
  have hcC : (Value.ref C :: bm).contains (.ref C) = true := by simp
  have T1 := T.keeps (h' := newH h C vs) keep
  unfold isInstance
  repeat first | (with_reducible refine wpAny_loadPart_at he ?_) | ((with_reducible refine wpAny_isSubtype_exc hC1 ?_); rw [hcC]) | wp_step
  show wpAny (model prog w) _ (typeLookup (.ref C) _) _ _ _
  refine wpAny_typeLookup_tail hC1 hn1 T1 F.mroIs F.init.lookup ?_
  rw [hi]
  refine wpAny_holding (wpAny_bind (wpAny_bindSpecial_def (s := ⟨newH h C vs, g, d, t, os⟩) (keep _ _ hf) hfc ?_))
  refine wpAny_bind (wpAny_mono hq (fun v s' z => ?_) fun _ _ z => z)
  obtain ⟨rfl, z⟩ := z
  obtain ⟨h2, g2, d2, t2, os2⟩ := s'
  wp_walk
  exact z
theorem call_exc_own (Fn : ExcBaseFacts Bn newId inN bmN) (hBn : bmB.contains (.type Bn) = true) (F : ExcBaseFacts B nid initId bmB) (T : OwnTail h bmB bm) {mN : Str → Option Value} {vs : List Value} {Q : Value → Shared → Prop}
    (hC : h.get? C = some (excClassObj nm q C N bs bm hdct sn sub ab col dd k0 k1 k2 k3 k5 newId)) (hn : h.Ns N mN) (hi : mN "__init__" = some (.ref fi)) (hf : h.get? fi = some fo) (hfc : fo.cls = .type "function") (hvs : vs.length ≤ sizeLine)
    (hq : wpAny (model prog w) (A.under (.builtin "type.__call__" ⟨.ref C :: vs, []⟩)) (call (.ref fi) (.ref (h.objs.size + 1) :: vs)) (fun v s' => v = .none ∧ Q (.ref (h.objs.size + 1)) s') E ⟨newH h C vs, g, d, t, os⟩) :
    wpAny (model prog w) A (call (.ref C) vs) Q E ⟨h, g, d, t, os⟩ := by
  have f1 := tc_lookup
  have f2 := tc_bind (.ref C)
  have hT : (⟨h, g, d, t, os⟩ : Shared).TypeIs (.ref C) "type" := ⟨_, hC, rfl⟩
  refine wpAny_call (codeAny_of_tree (?_ : wpAny (model prog w) _ (callAny (.ref C) _) _ _ _))
  repeat any_goals first | assumption | (with_reducible refine wpAny_loadPart_at hC ?_) | wp_step
  refine ⟨rfl, ?_⟩
  refine codeAny_call_builtin_at (Code.quiet_builtin _ (by decide +kernel)) entry_typeCall (wpAny_check_type_call_sub hC ?_)
  refine type_call_own Fn hBn F T hC hn hi hf hfc hvs ?_
  exact hq
end
end L2
namespace L2
open PySem PySem.Spec PyProof.Rows
section
variable {prog : Program} {w : World} {A : Around} {E : Value → Shared → Prop} {s : Shared} {K : PySem.W.Frag} {x C : Addr} {cd : ClassData} {vs : Array Value} {name : Str} {v : Value}
theorem set_exc {Q : Unit → Shared → Prop} (X : K.In s.heap) (hx : s.heap.get? x = some ⟨.ref C, none, .fields vs, #[]⟩) (hc : PySem.W.clsIn K C = some cd) (hh : cd.hasDict = true)
    (mo : PySem.W.mroIn K C (.type "object") = some true) (hl : refuseLoop (.ref x) "__setattr__" cd.mro = pure ()) (hs : PySem.W.findIn K (.ref C) "__setattr__" = some (some (.builtin "object.__setattr__"))) (ht : PySem.W.findIn K (.ref C) name = some none)
    (h : ∀ h' d t', h'.get? x = some ⟨.ref C, some d, .fields vs, #[]⟩ → h'.Ns1 d (fun y => if y = name then some v else none) → s.heap.objs.size ≤ d → (∀ b o, b ≠ x → s.heap.get? b = some o → h'.get? b = some o) → Q () { s with heap := h', toks := t' }) :
    wpAny (model prog w) A (setAttr (.ref x) name v) Q E s := by
  have I : PySem.W.InstAt s.heap x ⟨.ref C, none, .fields vs, #[]⟩ C none := ⟨hx, rfl, rfl, trivial⟩
  have SO := PySem.F.store_object
  refine PySem.W.set_plain X I hs ?_
  have isO : PySem.W.Looks (model prog w) s.heap (isInstance (.ref x) (.type "object")) true := I.type.andThen (PySem.W.looks_mroIn X mo)
  have mro : PySem.W.Looks (model prog w) s.heap (mroOf (.ref C)) cd.mro := (PySem.W.looks_clsIn X hc).andThen .now
  have ag : argsOk "object.__setattr__" ⟨[.ref x, .str name s.toks, v], []⟩ := SO.args (.ref x) (.str name s.toks) v
  refine codeAny_call_builtin SO.slot.plain SO.entry (PySem.W.check_slot (i := "object.__setattr__") (owner := "object") (n := "__setattr__") (self := .ref x)
    (rest := [.str name s.toks, v]) (kw := []) (s := { s with toks := s.toks + 1 }) SO.kind SO.split isO ag ?_)
  rw [PySem.W.osa_eq, refuse_eq]
  refine wpAny_bind (wpAny_bind (I.type _ _ _ _ (fun _ _ e => e) (wpAny_bind (mro _ _ _ _ (fun _ _ e => e) ?_))))
  rw [hl]
  refine wpAny_pure (wpAny_bind (I.type _ _ _ _ (fun _ _ e => e) (wpAny_bind (PySem.W.looks_findIn X ht _ _ _ _ (fun _ _ e => e) ?_))))
  refine wpAny_bind (wpAny_pure ?_)
  refine wpAny_bind (wpAny_pure (wpAny_bind (wpAny_bind (wpAny_loadPart (s := { s with toks := s.toks + 1 }) hx ?_))))
  refine wpAny_bind (PySem.W.looks_clsIn X hc _ _ _ _ (fun _ _ e => e) ?_)
  rw [hh]
  show wpAny (model prog w) A.in1 (alloc { cls := .type "dict", data := .dict #[] } >>= fun d => update x (fun o => { o with dict := some d }) >>= fun _ => dictMade (.ref C) x d) _ _ _
  have lt := Heap.lt_size hx
  have nx : x ≠ s.heap.objs.size := Nat.ne_of_lt lt
  refine wpAny_bind (wpAny_alloc ?_)
  have hx1 : (s.heap.push { cls := .type "dict", data := .dict #[] }).get? x = some ⟨.ref C, none, .fields vs, #[]⟩ := Heap.get?_push_of_some _ hx
  refine wpAny_bind (wpAny_update hx1 (wpAny_pure ?_))
  have hd : ((s.heap.push { cls := .type "dict", data := .dict #[] }).update x fun o => { o with dict := some s.heap.objs.size }).get? s.heap.objs.size = some { cls := .type "dict", data := .dict #[] } :=
    (Heap.get?_update_other _ _ nx).trans (Heap.get?_push_size _ rfl)
  have hn : ((s.heap.push { cls := .type "dict", data := .dict #[] }).update x fun o => { o with dict := some s.heap.objs.size }).Ns s.heap.objs.size (fun _ => none) :=
    ⟨_, #[], _, hd, rfl, fun e he => absurd he (by simp), fun _ => rfl⟩
  show wpAny (model prog w) A.in1 (Builtin.ObjectAttr.storeInDict s.heap.objs.size (.str name s.toks) name v) _ _ _
  unfold Builtin.ObjectAttr.storeInDict Builtin.ObjectAttr.newKeyGuard
  refine wpAny_bind (wpAny_pure (wpAny_bind (wpAny_nsSet1 (.of_empty hn) fun h2 n2 s2 => ?_)))
  obtain ⟨oD, es, ep, ho, hd2, hk⟩ := n2.count (Within.cons name v Within.nil)
  have fits : oD.data.pastItsLine = none := by
    rw [hd2]
    exact pastItsLine_dict (Nat.le_trans hk (by show 1 ≤ sizeLine + 1; decide))
  refine wpAny_bind (wpAny_lookBehind ho fits ?_)
  wp_walk
  refine h h2 s.heap.objs.size _ ?_ n2 (Nat.le_refl _) fun b o hb e => ?_
  · exact (s2.2 x nx).trans (Heap.get?_update_self _ hx1 rfl)
  · exact (s2.2 b (Nat.ne_of_lt (Heap.lt_size e))).trans ((Heap.get?_update_other _ _ (Ne.symm hb)).trans (Heap.get?_push_of_some _ e))
end
end L2
namespace L2
open PySem PySem.Spec PyProof.Rows
section
variable {X : Cx}
theorem pe_fstr {a b : Str} {ja jb : Nat} {pa pb pv' pos : Pos} {e : Expr} {te : TE} (he : PE X e te) (hab : a.length + b.length ≤ 1000) : PE X (.JoinedStr [.Constant (.str a) ja pa, .FormattedValue e (-1) none pv', .Constant (.str b) jb pb] pos)
    (fun σ H Q => te σ H fun x H1 => ∃ i : Int, x = .int i ∧ i.natAbs.log2 < 1920 ∧ ∀ z, z.length ≤ sizeLine → Q (.str z) H1) := by
  intro pins s σ H Q I h
  refine wpAny_JoinedStr ?_
  have hz : sizeLine = 16777216 := sizeLine_eq
  have l0 : (Str.empty : Str).length = 0 := rfl
  show wpAny (model X.prog X.w) X.A (eval (.Constant (.str a) ja pa) X.env) _ X.xe s
  refine Calls.Constant_str ⟨a, _, rfl, by rw [strLen_append, l0, hz]; omega, ?_⟩
  show wpAny (model X.prog X.w) X.A (eval (.FormattedValue e (-1) none pv') X.env) _ X.xe _
  refine wpAny_FormattedValue_plain (thn (he pins _ σ H _ (I.tok _) h) fun v s1 ⟨x, H1, I1, r1, i, ex, hi, q⟩ => ?_)
  subst ex
  obtain ⟨t, rfl⟩ := r1
  have li := int_text_len_1921 hi
  refine wpAny_formatField_int hi ⟨_, _, rfl, by rw [strLen_append, strLen_append, l0, hz]; omega, ?_⟩
  show wpAny (model X.prog X.w) X.A (eval (.Constant (.str b) jb pb) X.env) _ X.xe _
  have lz : ((Str.empty ++ a ++ Str.ofString (toString i)) ++ b).length ≤ sizeLine := by
    rw [strLen_append, strLen_append, strLen_append, l0, hz]; omega
  refine Calls.Constant_str ⟨b, _, rfl, lz, lz, ?_⟩
  exact ⟨.str _, H1, I1.tok _, ⟨_, rfl⟩, q _ lz⟩
def Ex0 (C e : Addr) : Heap → Prop := fun h => ∃ t, h.get? e = some (excO C t)
def Ex1 (C e d : Addr) : Heap → Prop := fun h => ∃ t, h.get? e = some { excO C t with dict := some d }
def RowO (name : Str) (v : V) (od : Obj) : Prop := ∀ (h : Heap) (d : Addr), h.get? d = some od → ∃ m u, h.Ns1 d m ∧ m name = some u ∧ RelV v u
structure XSet (K : PySem.W.Frag) (C : Addr) (name : Str) : Prop where
  ex : ∃ cd, PySem.W.clsIn K C = some cd ∧ cd.hasDict = true ∧ ∀ x, refuseLoop (.ref x) "__setattr__" cd.mro = pure ()
  mo : PySem.W.mroIn K C (.type "object") = some true
  sa : PySem.W.findIn K (.ref C) "__setattr__" = some (some (.builtin "object.__setattr__"))
  no : PySem.W.findIn K (.ref C) name = some none
def sXrow (C : Addr) (name : Str) (ta tv : TE) : TS := fun D σ H => tv σ H fun v H1 => ta σ H1 fun x H2 => ∃ e, x = .ref e ∧ H2 e = some (.ext (Ex0 C e)) ∧
  ∀ d od, H2 d = none → RowO name v od → D.nx σ (upd (upd H2 e (.ext (Ex1 C e d))) d (.frz od (.own 0)))
theorem ps_xrow {C : Addr} {o value : Expr} {f : Str} {ta tv : TE} {pos pos' : Pos} (T : XSet X.K C f) (ha : PE X o ta) (hv : PE X value tv) (hs : swapsWith value (some (.Attribute o f pos')) pos.line X.env = pure false) :
    PS X (.Assign [.Attribute o f pos'] value pos) (sXrow C f ta tv) := by
  intro pins s σ H D I h
  refine plainObj_wpAny_Assign_Attribute (thn (hv pins s σ H _ I h) fun u s1 ⟨y, H1, I1, ry, q⟩ => thn (ha pins s1 σ H1 _ I1 q) fun ov s2 ⟨x, H2, I2, rx, e, ex, he, q2⟩ => ?_) hs
  subst ex
  obtain rfl : ov = Value.ref e := rx
  obtain ⟨⟨t, ht⟩, _, _⟩ := I2.hok _ _ he
  obtain ⟨cd, hc, hh, hl⟩ := T.ex
  refine set_exc I2.kIn ht hc hh T.mo (hl e) T.sa T.no fun h' d t' hx n nsz k => ?_
  have nd : s2.heap.get? d = none := Heap.get?_none_of_le nsz
  have I3 : Inv X pins σ (upd H2 e (.ext (Ex1 C e d))) { s2 with heap := h', toks := t' } := by
    refine I2.write (x := e) (e := e) (by rw [he]; trivial) (.inl rfl) (fun b w hb z => k b w hb z) ⟨_, hx⟩ ⟨⟨t, hx⟩, ⟨_, hx⟩, fun h1 h2 ⟨t1, z⟩ kk => ⟨t1, kk _ z⟩⟩
  obtain ⟨od, es, ep, e1, e2, e3, e4, e5⟩ := id n
  have ned : d ≠ e := by rintro rfl; rw [ht] at nd; cases nd
  have h0 : H2 d = none := by
    cases z : H2 d with
    | none => rfl
    | some w' => obtain ⟨ob, zb⟩ := (I2.hok _ _ z).there; rw [nd] at zb; cases zb
  have I4 := I3.track' (a := d) (o := od) e1 (by rw [upd_ne ned]; exact h0) ?_ ?_ ?_ ?_
  · refine ⟨σ, _, I4, q2 d od h0 fun h3 d3 z3 => ⟨_, u, ⟨od, es, ep, z3, e2, e3, e4, e5⟩, by simp, ry⟩⟩
  · rintro rfl
    obtain ⟨m, ⟨o, _, _, z, _⟩, _⟩ := I2.loc
    rw [nd] at z; cases z
  · rintro y c z rfl
    obtain ⟨_, o, z2, _⟩ := I2.cell y _ z
    rw [nd] at z2; cases z2
  · rintro p hp rfl
    have z := (I2.pin p hp).1
    rw [nd] at z; cases z
  · exact Heap.get?_none_of_le (Nat.le_trans I2.sz nsz)
end
end L2
namespace L2
open PySem PySem.Spec PyProof.Rows
abbrev bmVal : List Value := [.type "ValueError", .type "Exception", .type "BaseException", .type "object"]
structure XOwn (K : PySem.W.Frag) (C : Addr) : Prop where
  ex : ∃ (nm q : Str) (N : Addr) (bs bm : List Value) (hdct : Bool) (sn : List Str) (sub : List Value) (ab : Bool) (col : Option Bool) (dd : Option Addr) (k0 k1 k2 k3 k5 : Option Value),
    K.lookup C = some (excClassObj nm q C N bs bm hdct sn sub ab col dd k0 k1 k2 k3 k5 "ValueError.__new__") ∧ tailQ K bmVal bm = true ∧ bm.contains (Value.type "BaseException") = true
theorem upd_id {H : Hp} {a : Addr} {o : HO} (h : H a = some o) : upd H a o = H := by
  funext b
  unfold upd
  split
  · next e => rw [e, h]
  · rfl
section
variable {X : Cx} {C : Addr}
theorem call_xinit (T : XOwn X.K C) : CallR X (.builtin "ValueError.__init__") (fun xs H Q => ∃ e z, xs = [.ref e, .str z] ∧ H e = some (.ext (Ex0 C e)) ∧ Q .non H) := by
  intro pins s σ H xs us Q I r h
  obtain ⟨e, z, rfl, he, q⟩ := h
  obtain ⟨u, w', rfl, ru, rz⟩ := vals2 r
  obtain rfl : u = Value.ref e := ru
  obtain ⟨tz, rfl⟩ := rz
  obtain ⟨⟨t, ht⟩, _, _⟩ := I.hok _ _ he
  obtain ⟨nm, q', N, bs, bm, hdct, sn, sub, ab, col, dd, k0, k1, k2, k3, k5, lk, tl, has⟩ := T.ex
  have XK := I.kIn
  have hC := XK _ _ lk
  have tail := (tailQ.ok XK tl).tail
  have F := F.excBase_ValueError
  have done : ∀ h' tk', (∀ b o, b ≠ e → s.heap.get? b = some o → h'.get? b = some o) → (∃ t', h'.get? e = some (excO C t')) → EP X pins σ Q .none { s with heap := h', toks := tk' } := fun h' tk' k ⟨t', z'⟩ => by
    have I' : Inv X pins σ (upd H e (.ext (Ex0 C e))) { s with heap := h', toks := tk' } :=
      I.write (x := e) (e := e) (by rw [he]; trivial) (.inl rfl) (fun b w hb y => k b w hb y) ⟨_, z'⟩ ⟨⟨t', z'⟩, ⟨_, z'⟩, fun h1 h2 ⟨t1, y⟩ kk => ⟨t1, kk _ y⟩⟩
    rw [upd_id he] at I'
    exact ⟨.non, H, I', rfl, q⟩
  obtain ⟨hp, g, d, tk, os⟩ := s
  refine wpAny_call (codeAny_call_builtin F.init.plain F.initEntry (wpAny_check_init_subU F tail hC ht rfl ?_))
  wp_walk
  refine done _ _ (fun b o hb y => ?_) ⟨hp.objs.size, ?_⟩
  · rw [Heap.get?_update_other _ _ (Ne.symm hb)]
    exact Heap.get?_push_of_some _ y
  · rw [Heap.get?_update_self _ (Heap.get?_push_of_some _ ht) rfl]
    rfl
structure ClsRd (K : PySem.W.Frag) (B : Addr) : Prop where
  sp : PySem.W.specialIn K (.ref B) "__getattribute__" = some (some (.builtin "type.__getattribute__"))
  rd : PySem.W.readsIn K B (.type "type") = true
  fc : PySem.W.findCls K (.ref B) (.type "type") "__init__" = some (.val (.builtin "ValueError.__init__"))
theorem pe_xinit {pl : Sem Bool} {x : Str} {B : Addr} {e : Expr} {es : List Expr} {t : TA} {np apos pos : Pos} (T : XOwn X.K C) (R : ClsRd X.K B) (hg : Gl X x) (hm : X.mg x = some (.ref B)) (ha : PA X (e :: es) t) (hdb : (x == ("__debug__" : Str)) = false := by decide)
    (he : starEach (e :: es) X.env = (false, eval e X.env) :: starEach es X.env := by rfl) (hpl : (backTo pos (starEach es X.env)).any (·.1) = false := by rfl)
    (ht : eval (.Call (.Attribute (.Name x np) "__init__" apos) (e :: es) [] pos) X.env = (do
      let ov ← eval (.Name x np) X.env
      standAt apos.atName
      let (f, first) ← holding [ov] (getMethod ov "__init__" pl)
      callWith pos f first (backTo pos (starEach (e :: es) X.env)) (backToKw pos (keywordEach [] X.env))) := by rfl) :
    PE X (.Call (.Attribute (.Name x np) "__init__" apos) (e :: es) [] pos) (tCB (fun xs H Q => ∃ e z, xs = [.ref e, .str z] ∧ H e = some (.ext (Ex0 C e)) ∧ Q .non H) t) := by
  intro pins s σ H Q I h
  refine PySem.W.methodCall_KW (pl := pl) (ld_glob I hg hm ?_ hdb) ht
  refine PySem.W.method_cls I.kIn R.sp (PySem.W.cls_value I.kIn R.rd R.fc rfl ?_)
  exact PyProof.Rows.callWith_builtin1 (thn (ha pos pins _ σ H _ (I.tok _) h) fun us s1 ⟨vs, H1, I1, r1, q1⟩ => call_xinit T pins s1 σ H1 vs us Q I1 r1 q1) he hpl
end
end L2
namespace L2
open PySem PySem.Spec PyProof.Rows
theorem ns_some {K : PySem.W.Frag} {h : Heap} {N : Addr} {m : Str → Option Value} {x : Str} {v : Value} (hk : K.In h) (hm : h.Ns N m) (hv : PySem.W.nsIn K N x = some (some v)) : m x = some v := by
  obtain ⟨ob, es, ep, ho, hd, _, look⟩ := hm
  unfold PySem.W.nsIn at hv
  split at hv
  · next lk =>
    have there := hk _ _ lk
    rw [ho] at there
    cases there
    cases hd
    split at hv
    · next en he =>
      rw [← look x]
      unfold nsFind findBy
      rw [← Array.find?_toList, he]
      simpa using hv
    · split at hv <;> cases hv
  · cases hv
structure XInit (K : PySem.W.Frag) (C fi : Addr) : Prop where
  ex : ∃ (nm q : Str) (N : Addr) (bs bm : List Value) (hdct : Bool) (sn : List Str) (sub : List Value) (ab : Bool) (col : Option Bool) (dd : Option Addr) (k0 k1 k2 k3 k5 : Option Value),
    K.lookup C = some (excClassObj nm q C N bs bm hdct sn sub ab col dd k0 k1 k2 k3 k5 "ValueError.__new__") ∧ tailQ K bmVal bm = true ∧ bm.contains (Value.type "BaseException") = true ∧
    PySem.W.nsOkIn K N = true ∧ PySem.W.nsIn K N "__init__" = some (some (.ref fi))
  fn : ∃ fo, K.lookup fi = some fo ∧ fo.cls = .type "function"
  kp : PySem.W.keepIn K (.ref C) = true
section
variable {X : Cx} {C fi : Addr} {k : Nat} {fd : FuncData} {ps : List Str} {sp : Sp}
theorem run_makeX {pins : List (Addr × Obj)} {σ : St} {H : Hp} {s : Shared} {Q : VK} {us : List Value} {vs : List V} (T : XInit X.K C fi) (F : FnOk X.prog X.w X.K X.mg X.base CX0 k fi fd ps sp) (hr : Room (k + 1) X.A) (hb : Binds X.K fd ps [])
    (I : Inv X pins σ H s) (r : Vals vs us) (hl : us.length ≤ sizeLine) (h : ∀ e, H e = none → X.s₀.heap.get? e = none → sp (.ref e :: vs) (upd H e (.ext (Ex0 C e))) (fun v H2 => v = .non ∧ Q (.ref e) H2) E0) :
    wpAny (model X.prog X.w) X.A (call (.ref C) us) (EP X pins σ Q) X.xe s := by
  obtain ⟨nm, q', N, bs, bm, hdct, sn, sub, ab, col, dd, k0, k1, k2, k3, k5, lk, tl, has, no, ni⟩ := T.ex
  obtain ⟨fo, lf, fc⟩ := T.fn
  have XK := I.kIn
  have tail := (tailQ.ok XK tl).tail
  have FB := PySem.F.excBase_ValueError
  have hn := Heap.Ns.of_isNs (PySem.W.isNs_of_in XK no)
  have hi : s.heap.nsMap N "__init__" = some (.ref fi) := ns_some XK hn ni
  have he : (newH s.heap C us).get? (s.heap.objs.size + 1) = some (excO C s.heap.objs.size) := by
    have := Heap.get?_push_size (s.heap.push (tupO us)) (o := excO C s.heap.objs.size) rfl
    rwa [Heap.size_push] at this
  have I2 : Inv X pins σ (upd H (s.heap.objs.size + 1) (.ext (Ex0 C (s.heap.objs.size + 1)))) { s with heap := newH s.heap C us } :=
    I.laid (t' := s.toks) (fun b o e => Heap.get?_push_of_some _ (Heap.get?_push_of_some _ e)) (Nat.le_succ _) ⟨⟨_, he⟩, ⟨_, he⟩, fun h1 h2 ⟨t1, y⟩ kk => ⟨t1, kk _ y⟩⟩
  have hq := h (s.heap.objs.size + 1) (I.hok.fresh (Nat.le_succ _)) (Heap.get?_none_of_le (Nat.le_trans I.sz (Nat.le_succ _)))
  have r2 : Vals (V.ref (s.heap.objs.size + 1) :: vs) (Value.ref (s.heap.objs.size + 1) :: us) := .cons rfl r
  have hlen : (Value.ref (s.heap.objs.size + 1) :: us ++ []).length = ps.length := by
    have e := r2.length
    rw [F.len _ _ _ _ hq] at e
    rw [List.append_nil]; exact e.symm
  have bd := hb { s with heap := newH s.heap C us } (Value.ref (s.heap.objs.size + 1) :: us) I2.kIn hlen
  rw [List.append_nil] at bd
  obtain ⟨hp, g, d, t, os⟩ := s
  refine call_exc_own FB (by decide) FB tail (XK _ _ lk) hn hi (XK _ _ lf) fc hl ?_
  refine wpAny_call (codeAny_mono (F.run _ X.stack _ _ ⟨Value.ref (hp.objs.size + 1) :: us, []⟩ _ _ _ E0 (hr.make C us []) (I2.env0.make C us []) bd r2 hq) fun r s' hq' => ?_)
  cases r with
  | error e => exact pass0 pins σ _ _ e s' I2 hq'
  | ok fl =>
    cases fl with
    | ret u =>
      obtain ⟨v, H', I3, rv, ev, q3⟩ := I2.after hq'
      subst ev
      exact ⟨rv, V.ref (hp.objs.size + 1), H', I3, rfl, q3⟩
    | next => exact False.elim hq'
    | brk => exact False.elim hq'
    | cont => exact False.elim hq'
end
end L2
namespace L2
open PySem PySem.Spec PyProof.Rows
section
variable {X : Cx} {C fi : Addr} {k : Nat} {fd : FuncData} {ps : List Str} {sp : Sp}
def tMakeX (h0 : Heap) (C : Addr) (sp : Sp) (t : TA) : TE := fun σ H Q => t σ H fun vs H1 => vs.length ≤ 1000 ∧ ∀ e, H1 e = none → h0.get? e = none → sp (.ref e :: vs) (upd H1 e (.ext (Ex0 C e))) (fun v H2 => v = .non ∧ Q (.ref e) H2) E0
theorem pe_makeX {x : Str} {e : Expr} {es : List Expr} {t : TA} {p pos : Pos} (T : XInit X.K C fi) (F : FnOk X.prog X.w X.K X.mg X.base CX0 k fi fd ps sp) (hr : Room (k + 1) X.A) (hb : Binds X.K fd ps []) (hg : Gl X x) (hm : X.mg x = some (.ref C)) (ha : PA X (e :: es) t)
    (hdb : (x == ("__debug__" : Str)) = false := by decide) (he : starEach (e :: es) X.env = (false, eval e X.env) :: starEach es X.env := by rfl) (hpl : (backTo pos (starEach es X.env)).any (·.1) = false := by rfl) :
    PE X (.Call (.Name x p) (e :: es) [] pos) (tMakeX X.s₀.heap C sp t) := by
  intro pins s σ H Q I h
  refine wpAny_Call_Name_kw (ld_glob I hg hm ?_ hdb)
  refine PySem.W.callWith_K (h₀ := X.base) I.ok.mod.kin T.kp (thn (ha pos pins s σ H _ I h) fun us s1 ⟨vs, H1, I1, r, hl, q⟩ => ⟨I1.kIn, ?_⟩) he hpl
  exact run_makeX T F hr hb I1 r (by show us.length ≤ _; rw [← r.length, sizeLine_eq]; omega) q
end
section
variable {M : Model} {A : Around} {E : Value → Shared → Prop} {env : Env} {s : Shared}
variable {nm q : Str} {C N : Addr} {bs bm : List Value} {hdct : Bool} {sn : List Str} {sub : List Value} {ab : Bool} {col : Option Bool} {dd : Option Addr} {k0 k1 k2 k3 k5 : Option Value} {newId : String}
theorem raise_made {x : Sem Value} {Q : Flow → Shared → Prop} (hbase : bm.contains (.type "BaseException") = true) (hh : A.handled = none)
    (h : wpAny M A x (fun v s1 => ∃ e t d, v = .ref e ∧ s1.heap.get? C = some (excClassObj nm q C N bs bm hdct sn sub ab col dd k0 k1 k2 k3 k5 newId) ∧ s1.heap.get? e = some { excO C t with dict := some d } ∧ E (.ref e) s1) E s) :
    wpAny M A (raiseStmt env (some x) none) Q E s := by
  have isB : (Value.ref C :: bm).contains (.type "BaseException") = true := by rw [List.contains_cons, hbase, Bool.or_true]
  unfold raiseStmt
  refine wpAny_bind (wpAny_mono h (fun v s1 z => ?_) fun _ _ z => z)
  obtain ⟨e, t, d, rfl, hC, he, hE⟩ := z
  obtain ⟨hp, g, dr, tk, os⟩ := s1
  repeat first | (with_reducible refine wpAny_loadPart_at he ?_) | (with_reducible refine wpAny_loadPart_at hC ?_) | ((with_reducible refine wpAny_isSubtype_exc hC ?_); rw [isB]) | wp_step
  exact wpAny_raiseNew_none hh hE
end
section
variable {X : Cx}
def drp (H : Hp) (a : Addr) : Hp := fun b => if b = a then none else H b
theorem drp_ne {H : Hp} {a b : Addr} (h : b ≠ a) : drp H a b = H b := if_neg h
theorem drp_same {H : Hp} {a : Addr} : drp H a a = none := if_pos rfl
theorem Inv.drop {pins : List (Addr × Obj)} {σ : St} {H : Hp} {s : Shared} {a : Addr} {φ : Heap → Prop} (I : Inv X pins σ H s) (h : H a = some (.ext φ)) : Inv X pins σ (drp H a) s := by
  have ne : ∀ {b : Addr} {o : HO}, H b = some o → (∀ ψ, o ≠ .ext ψ) → b ≠ a := fun z n e => by subst e; rw [h] at z; cases z; exact n _ rfl
  have no : ∀ b, H b = none → drp H a b = none := fun b z => by
    by_cases e : b = a
    · rw [e]; exact drp_same
    · rw [drp_ne e]; exact z
  refine ⟨I.ok, I.os, I.bare, ⟨I.base.keep, I.base.slot, fun b o e n x => no b (I.base.free b o e n x), I.base.there, fun b xs e => ?_, fun b o u e => ?_, fun b ps e => ?_⟩, I.loc, I.cell, no _ I.free, fun x c e => ?_, fun p hp => ?_, fun b o z => ?_, I.len⟩
  · have q := I.base.tups b xs e
    rw [drp_ne (ne q fun _ z => nomatch z)]; exact q
  · have q := I.base.frzs b o u e
    rw [drp_ne (ne q fun _ z => nomatch z)]; exact q
  · obtain ⟨more, q⟩ := I.base.tbls b ps e
    exact ⟨more, by rw [drp_ne (ne q fun _ z => nomatch z)]; exact q⟩
  · rcases I.freeC x c e with z | ⟨z1, o, z⟩
    · exact .inl (no c z)
    · exact .inr ⟨z1, o, by rw [drp_ne (ne z fun _ y => nomatch y)]; exact z⟩
  · obtain ⟨e, n, r⟩ := I.pin p hp
    exact ⟨e, no _ n, r⟩
  · have hb : b ≠ a := fun e => by rw [e, drp_same] at z; cases z
    rw [drp_ne hb] at z
    exact (I.hok b o z).stay (fun c v _ y => y) (fun c y => by rw [drp_ne (ne y fun _ q => nomatch q)]; exact y) fun c xs y => by rw [drp_ne (ne y fun _ q => nomatch q)]; exact y
end
end L2
namespace L2
open PySem PySem.Spec PyProof.Rows
def DictAt (h : Heap) (e d : Addr) : Prop := ∃ oe, h.get? e = some oe ∧ oe.dict = some d
theorem DictAt.kp {h h' : Heap} {e d : Addr} (x : DictAt h e d) (k : KpH h h') : DictAt h' e d := by
  obtain ⟨oe, e1, e2⟩ := x
  obtain ⟨o', e3, kr⟩ := k e oe e1
  exact ⟨o', e3, kr.2.1.trans e2⟩
def ChO (H : Hp) (e : Addr) (oe : Obj) : Prop := ∃ vs, oe.data = .fields vs ∧ (vs[2]? = some Value.none ∨ ∃ e1 o1 v1, vs[2]? = some (.ref e1) ∧ e1 ≠ e ∧ H e1 = some (.frz o1 (.own 0)) ∧ o1.data = .fields v1 ∧ v1[2]? = some Value.none)
def Chn (H : Hp) (h : Heap) (e : Addr) : Prop := ∃ oe, h.get? e = some oe ∧ ChO H e oe
theorem Chn.kp {H : Hp} {h h' : Heap} {e : Addr} (x : Chn H h e) (k : KpH h h') : Chn H h' e := by
  obtain ⟨oe, e1, vs, e2, e3⟩ := x
  obtain ⟨o', e4, kr⟩ := k e oe e1
  obtain ⟨vs', e5, _, e6⟩ := kr.2.2.2 vs e2
  refine ⟨o', e4, vs', e5, ?_⟩
  rw [e6 2 (by decide) (by decide)]
  exact e3
def CXR (P : Program) (w : World) : CXT := fun outer H s E e s' => ∃ ea t C B H' d, e = .ref ea ∧ Fly P w outer H H' s C ea t B s' ∧ DictAt s'.heap ea d ∧ Chn H' s'.heap ea ∧ E (.ref C) (some d) H'
def RaisesR (X : Cx) (E : XK) : Prop := ∀ (pins : List (Addr × Obj)) (σ : St) (H : Hp) (s : Shared) (e C t d : Addr), Inv X pins σ H s → s.heap.get? e = some { excO C t with dict := some d } → H e = none → X.s₀.heap.get? e = none → E (.ref C) (some d) H → X.xe (.ref e) s
theorem raisesR_cx {P : Program} {w : World} {K : PySem.W.Frag} {mg : Str → Option Value} {base : Heap} {N : List Str} {qual : Str} {scope : Scope} {f : Addr} {cd : Value} {A : Around} {outer : List Env} {s : Shared} {H : Hp} {E : XK} :
    RaisesR (cxOf (CXR P w) P w K mg base N qual scope f cd A outer s H E) E := by
  intro pins σ H1 s1 e C t d I he hne h0 q
  have h0 : s.heap.get? e = none := h0
  have hfr : ∀ b ∈ frs (envOfC qual scope s.heap.objs.size f cd :: outer), H1 b = none := I.stkFree
  have hsub : ∀ b ∈ frs outer, b ∈ frs (envOfC qual scope s.heap.objs.size f cd :: outer) := fun b hb => List.mem_cons_of_mem _ hb
  have noex : ∀ b : Addr, b ∉ (cxOf (CXR P w) P w K mg base N qual scope f cd A outer s H E).ex := fun b z => absurd (show b ∈ ([] : List Addr) from z) (by simp)
  have hB : ∀ {b o}, s1.heap.get? b = some o → b ≠ e → b ∉ frs (envOfC qual scope s.heap.objs.size f cd :: outer) → (PySem.W.hideAll s1.heap (e :: frs (envOfC qual scope s.heap.objs.size f cd :: outer))).get? b = some o := fun z n1 n2 => PySem.W.hideAll_get _ z (fun y => (List.mem_cons.mp y).elim n1 n2)
  have hnew : ∀ b o, s.heap.get? b = some o → b ∉ frs outer → b ∉ frs (envOfC qual scope s.heap.objs.size f cd :: outer) := fun b o z n y => by
    rcases List.mem_cons.mp (show b ∈ s.heap.objs.size :: frs outer from y) with y | y
    · exact absurd (Heap.lt_size z) (by rw [y]; exact Nat.lt_irrefl _)
    · exact n y
  have nee : ∀ b o, s.heap.get? b = some o → b ≠ e := fun b o z y => by rw [y, h0] at z; cases z
  have hBe : (PySem.W.hideAll s1.heap (e :: frs (envOfC qual scope s.heap.objs.size f cd :: outer))).get? e = none := PySem.W.hideAll_none _ List.mem_cons_self
  have stays : (PySem.W.hideAll s1.heap (e :: frs (envOfC qual scope s.heap.objs.size f cd :: outer))).StaysIn s1.heap := fun b o z => PySem.W.of_hideAll _ z
  have funs := funFrames_base (b2 := PySem.W.hideAll s1.heap (e :: frs (envOfC qual scope s.heap.objs.size f cd :: outer))) I.stack fun a ha => PySem.W.hideAll_none _ (List.mem_cons_of_mem _ ha)
  have trkne : ∀ b u, H1 b = some u → b ≠ e := fun b u z y => by rw [y, hne] at z; cases z
  have keepT : ∀ b u, H1 b = some u → b ∉ frs (envOfC qual scope s.heap.objs.size f cd :: outer) := fun b u z y => by rw [hfr b y] at z; cases z
  have step := wpAny_leaving_firstW (M := model P w) (E := fun _ _ => False) (a0 := .ref t) (Q := fun _ s' => ∃ h', s' = { s1 with heap := h' } ∧ Heap.LeftW (PySem.W.hideAll s1.heap (e :: frs (envOfC qual scope s.heap.objs.size f cd :: outer))) (envOfC qual scope s.heap.objs.size f cd :: outer) e (.ref C) (.ref t) s1.heap h')
    I.ok.frames funs rfl he stays hBe rfl rfl rfl fun h' hL => ⟨h', rfl, hL⟩
  refine wpAny_mono (wpAny_keep (ds_leaving _ _) step) (fun _ s' z => ?_) fun _ _ z => z.1.elim
  obtain ⟨⟨h2, rfl, k1, ⟨_, _, k2⟩, k3, up⟩, kh⟩ := z
  have old : ∀ b o, s.heap.get? b = some o → H b = none → b ∉ frs outer → (PySem.W.hideAll s1.heap (e :: frs (envOfC qual scope s.heap.objs.size f cd :: outer))).get? b = some o := fun b o z n nf =>
    hB (I.base.keep b o z n nf (noex b)) (nee b o z) (hnew b o z nf)
  have slot : ∀ b o, s.heap.get? b = some o → b ∈ frs outer → ∃ sl, h2.get? b = some { o with slots := sl } := fun b o z hb => by
    obtain ⟨sl, e1⟩ := I.base.slot b o z (I.ok.frf b hb) hb (noex b)
    obtain ⟨_, o2, e2, d2⟩ := I.ok.funs.mem hb
    have e2' : s.heap.get? b = some o2 := e2
    rw [z] at e2'; cases e2'
    obtain ⟨sl2, e3⟩ := up b _ e1 d2
    exact ⟨sl2, e3⟩
  have all : ∀ b o, s.heap.get? b = some o → b ∈ frs outer ∨ ∃ o', (PySem.W.hideAll s1.heap (e :: frs (envOfC qual scope s.heap.objs.size f cd :: outer))).get? b = some o' := fun b o z => by
    by_cases hb : b ∈ frs outer
    · exact .inl hb
    · obtain ⟨o', e1⟩ := I.base.there b o z (noex b)
      exact .inr ⟨o', hB e1 (nee b o z) (hnew b o z hb)⟩
  refine ⟨e, t, C, _, H1, d, rfl, ⟨I.os, I.bare, ⟨k1, hBe, k2, k3⟩, ⟨fun b o z n nf _ => k1 _ _ (old b o z n nf), fun b o z n hb _ => slot b o z hb, I.base.free, fun b o z _ => ?_, I.base.tups, I.base.frzs, I.base.tbls⟩, fun a u z => ?_, old, fun b u z => ⟨fun y => keepT b u z (hsub b y), fun o zo => ?_⟩, all⟩, DictAt.kp ⟨_, he, rfl⟩ kh, Chn.kp ⟨_, he, _, rfl, .inl rfl⟩ kh, q⟩
  · rcases all b o z with hb | ⟨o', y⟩
    · obtain ⟨sl, y⟩ := slot b o z hb
      exact ⟨_, y⟩
    · exact ⟨o', k1 _ _ y⟩
  · refine (I.hok a u z).stay (fun b v hb hv => k1 _ _ ?_) (fun _ y => y) fun _ _ y => y
    rcases hb with rfl | hb
    · exact hB hv (trkne _ _ z) (keepT _ _ z)
    · exact hB hv (trkne _ _ hb) (keepT _ _ hb)
  · obtain ⟨o', e1⟩ := (I.hok b u z).there
    have e2 := hB e1 (trkne b u z) (keepT b u z)
    have e3 := k1 _ _ e2
    rw [zo] at e3; cases e3
    exact e2
section
variable {X : Cx} {C fi : Addr} {k : Nat} {fd : FuncData} {ps : List Str} {sp : Sp}
def tRaiseR (h0 : Heap) (C : Addr) (sp : Sp) (E : XK) (t : TA) : TS := fun _ σ H => tMakeX h0 C sp t σ H fun v H2 => ∃ e d, v = .ref e ∧ h0.get? e = none ∧ H2 e = some (.ext (Ex1 C e d)) ∧ E (.ref C) (some d) (drp H2 e)
theorem ps_raiseR {x : Str} {E : XK} {e : Expr} {es : List Expr} {t : TA} {np cpos pos : Pos} (hx : RaisesR X E) (hh : X.A.handled = none) (T : XInit X.K C fi) (F : FnOk X.prog X.w X.K X.mg X.base CX0 k fi fd ps sp) (hr : Room (k + 1) X.A) (hb : Binds X.K fd ps []) (hg : Gl X x) (hm : X.mg x = some (.ref C)) (ha : PA X (e :: es) t)
    (hdb : (x == ("__debug__" : Str)) = false := by decide) (he : starEach (e :: es) X.env = (false, eval e X.env) :: starEach es X.env := by rfl) (hpl : (backTo cpos (starEach es X.env)).any (·.1) = false := by rfl) :
    PS X (.Raise (some (.Call (.Name x np) (e :: es) [] cpos)) none pos) (tRaiseR X.s₀.heap C sp E t) := by
  intro pins s σ H D I h
  obtain ⟨nm, q', N, bs, bm, hdct, sn, sub, ab, col, dd, k0, k1, k2, k3, k5, lk, tl, has, no, ni⟩ := T.ex
  have mk := pe_makeX (p := np) (pos := cpos) T F hr hb hg hm ha hdb he hpl pins s σ H _ I h
  rw [arm_exec_Raise]
  refine wpAny_bind (wpAny_standAt (raise_made (C := C) (nm := nm) (q := q') (N := N) (bs := bs) (bm := bm) (hdct := hdct) (sn := sn) (sub := sub) (ab := ab) (col := col) (dd := dd) (k0 := k0) (k1 := k1) (k2 := k2) (k3 := k3) (k5 := k5) (newId := "ValueError.__new__") has hh ?_))
  refine wpAny_bind (wpAny_mono mk (fun v s1 z => wpAny_bind (wpAny_standAt (wpAny_pure ?_))) fun _ _ z => z)
  obtain ⟨x', H2, I2, rx, a, d, rfl, n0, h2, q⟩ := z
  obtain rfl : v = Value.ref a := rx
  obtain ⟨⟨t', ht⟩, _, _⟩ := I2.hok _ _ h2
  exact ⟨a, t', d, rfl, I2.kIn _ _ lk, ht, hx pins σ _ s1 a C t' d (I2.drop h2) ht drp_same n0 q⟩
end
end L2
namespace L2
open PySem PySem.Spec PyProof.Rows
theorem passesR_cx {P : Program} {w : World} {K : PySem.W.Frag} {mg : Str → Option Value} {base : Heap} {N : List Str} {qual : Str} {scope : Scope} {f : Addr} {cd : Value} {A : Around} {outer : List Env} {s : Shared} {H : Hp} {E : XK} :
    Passes (CXR P w) (cxOf (CXR P w) P w K mg base N qual scope f cd A outer s H E) E := by
  intro pins σ H1 s1 ev s2 I hq
  obtain ⟨ea, t, C, B, H2, d, rfl, F, da, ch, q⟩ := hq
  have F : Fly P w (envOfC qual scope s.heap.objs.size f cd :: outer) H1 H2 s1 C ea t B s2 := F
  have hsub : ∀ b ∈ frs outer, b ∈ frs (envOfC qual scope s.heap.objs.size f cd :: outer) := fun b hb => List.mem_cons_of_mem _ hb
  have hnew : ∀ b o, s.heap.get? b = some o → b ∉ frs outer → b ∉ frs (envOfC qual scope s.heap.objs.size f cd :: outer) := fun b o e n z => by
    rcases List.mem_cons.mp (show b ∈ s.heap.objs.size :: frs outer from z) with z | z
    · exact absurd (Heap.lt_size e) (by rw [z]; exact Nat.lt_irrefl _)
    · exact n z
  have noex : ∀ b : Addr, b ∉ (cxOf (CXR P w) P w K mg base N qual scope f cd A outer s H E).ex := fun b z => absurd (show b ∈ ([] : List Addr) from z) (by simp)
  have step := wpAny_leaves_onW (M := model P w) (E := fun _ _ => False) (s := s2) (base := B) (env := envOfC qual scope s.heap.objs.size f cd) (outer := outer) (L := s.heap.objs.size) (Q := fun _ s' => ∃ h', s' = { s2 with heap := h' } ∧ B.FlyingW outer ea (.ref C) (.ref t) h' ∧ s2.heap.UpToSlots h') I.ok.frames rfl F.fly fun h' fly up => ⟨h', rfl, fly, up⟩
  refine wpAny_mono (wpAny_keep (ds_leaving _ _) step) (fun _ s' z => ?_) fun _ _ z => z.1.elim
  obtain ⟨⟨h2, rfl, fly, up⟩, kh⟩ := z
  have old : ∀ b o, s.heap.get? b = some o → H b = none → b ∉ frs outer → B.get? b = some o := fun b o e n nf =>
    F.old b o (I.base.keep b o e n nf (noex b)) (I.base.free b o e n (noex b)) (hnew b o e nf)
  have slot : ∀ b o, s.heap.get? b = some o → H b = none → b ∈ frs outer → ∃ sl, h2.get? b = some { o with slots := sl } := fun b o e hn hb => by
    obtain ⟨sl, e1⟩ := I.base.slot b o e hn hb (noex b)
    obtain ⟨sl2, e2⟩ := F.un.slot b _ e1 (I.base.free b o e hn (noex b)) (hsub b hb) (by simp)
    obtain ⟨_, o2, e3, d3⟩ := I.ok.funs.mem hb
    have e3' : s.heap.get? b = some o2 := e3
    rw [e] at e3'; cases e3'
    obtain ⟨sl3, e4⟩ := up b _ e2 d3
    exact ⟨sl3, e4⟩
  have all : ∀ b o, s.heap.get? b = some o → b ∈ frs outer ∨ ∃ o', B.get? b = some o' := fun b o e => by
    obtain ⟨o', e1⟩ := I.base.there b o e (noex b)
    rcases F.all b o' e1 with z | z
    · by_cases hb : b ∈ frs outer
      · exact .inl hb
      · exact absurd z (hnew b o e hb)
    · exact .inr z
  have stay : ∀ b u, H2 b = some u → ∀ o, s2.heap.get? b = some o → h2.get? b = some o := fun b u z o zo => fly.1 _ _ ((F.trk b u z).2 o zo)
  refine ⟨ea, t, C, B, H2, d, rfl, ⟨F.os.trans I.os, F.bare, fly, ⟨fun b o e n nf _ => fly.1 _ _ (old b o e n nf), fun b o e n hb _ => slot b o e n hb, fun b o e n _ => ?_, fun b o e _ => ?_, fun b xs e => F.un.tups b xs (I.base.tups b xs e), fun b o u e => F.un.frzs b o u (I.base.frzs b o u e), fun b ps e => ?_⟩, fun a u z => ?_, old, fun b u z => ⟨fun y => (F.trk b u z).1 (hsub b y), fun o zo => ?_⟩, all⟩, da.kp kh, ch.kp kh, q⟩
  · obtain ⟨o', e1⟩ := I.base.there b o e (noex b)
    exact F.un.free b o' e1 (I.base.free b o e n (noex b)) (by simp)
  · rcases all b o e with hb | ⟨o', z⟩
    · obtain ⟨sl, z⟩ := slot b o e (I.ok.frf b hb) hb
      exact ⟨_, z⟩
    · exact ⟨o', fly.1 _ _ z⟩
  · obtain ⟨m1, e1⟩ := I.base.tbls b ps e
    obtain ⟨m2, e2⟩ := F.un.tbls b _ e1
    exact ⟨m1 ++ m2, by rw [← Array.append_assoc]; exact e2⟩
  · refine (F.hok a u z).stay (fun b v hb hv => ?_) (fun _ y => y) fun _ _ y => y
    rcases hb with rfl | hb
    · exact stay _ _ z _ hv
    · exact stay _ _ hb _ hv
  · obtain ⟨o', e1⟩ := (F.hok b u z).there
    have e2 := (F.trk b u z).2 _ e1
    have e3 := fly.1 _ _ e2
    rw [zo] at e3; cases e3
    exact e2
def FnR (P : Program) (w : World) (K : PySem.W.Frag) (mg : Str → Option Value) (base : Heap) (k : Nat) (x : Str) (ps : List Str) (sp : Sp) : Prop :=
  ∃ f fd, mg x = some (.ref f) ∧ PySem.W.keepIn K (.ref f) = true ∧ Binds K fd ps [] ∧ FnOk P w K mg base (CXR P w) k f fd ps sp
theorem FunAt.okR {P : Program} {w : World} {K : PySem.W.Frag} {mg : Str → Option Value} {base : Heap} {x : Str} {st : Stmt} {N ps : List Str} {k : Nat} {sp : Sp} (F : FunAt K mg x st) (S : FnScope N ps (defScope st))
    (hb : ∀ (kV doc pm : Value) (an : Option Addr) (cdv ct : Value) (us : List Value), us.length = ps.length → bindArgs (PySem.W.fnOf x x (defArgs st) (defBody st) (defScope st) .none kV doc pm an cdv ct) ⟨us, []⟩ = pure (ps.zip us))
    (len : ∀ vs H Q E, sp vs H Q E → vs.length = ps.length)
    (hbody : ∀ (f : Addr) (cdv : Value) (A : Around) (outer : List Env) (s : Shared) (H : Hp) (vs : List V) (Q : VK) (E : XK), Room k (A.deeper (envOfC x (defScope st) s.heap.objs.size f cdv)) → sp vs H Q E →
      ∃ t, PSs (cxOf (CXR P w) P w K mg base N x (defScope st) f cdv A outer s H E) (defBody st) t ∧ t { nx := fun _ H' => Q .non H', rt := Q } (start N vs) H) : FnR P w K mg base (k + 1) x ps sp := by
  obtain ⟨f, fd, h1, F⟩ := F
  refine ⟨f, fd, h1, F.kp, F.binds hb, ?_⟩
  obtain ⟨oc, od, kV, doc, pm, an, cdv, ct, osl, rfl, lk, hcd⟩ := F.ex
  exact fn_of lk hcd S len fun A outer s H vs Q E hr hsp => hbody f cdv A outer s H vs Q E hr hsp
section
variable {X : Cx}
theorem pe_callR {E : XK} {k : Nat} {x : Str} {ps : List Str} {sp : Sp} {e : Expr} {es : List Expr} {t : TA} {p pos : Pos} (hx : Passes (CXR X.prog X.w) X E) (F : FnR X.prog X.w X.K X.mg X.base k x ps sp) (hr : Room k X.A) (hg : Gl X x) (ha : PA X (e :: es) t)
    (hdb : (x == ("__debug__" : Str)) = false := by decide) (he : starEach (e :: es) X.env = (false, eval e X.env) :: starEach es X.env := by rfl) (hpl : (backTo pos (starEach es X.env)).any (·.1) = false := by rfl) : PE X (.Call (.Name x p) (e :: es) [] pos) (tCall sp [] E t) := by
  obtain ⟨f, fd, h1, h2, h3, h4⟩ := F
  exact pe_call h4 hr hg h1 h2 h3 .nil hx ha hdb he hpl
end
end L2
namespace L2
open PySem PySem.Spec PyProof.Rows
structure IsR (C d : Addr) (oe : Obj) : Prop where
  cls : oe.cls = .ref C
  dict : oe.dict = some d
  fld : ∃ vs, oe.data = .fields vs
section
variable {X : Cx}
theorem land_okR {pins : List (Addr × Obj)} {σ0 : St} {H0 H' : Hp} {s0 s1 : Shared} {C ea t d : Addr} {B : Heap} {x : Str} {np hpos : Pos} {rest : List ExceptHandler} {name : Option Str} {suite : List Stmt} {Q : Flow → Shared → Prop}
    (hex : X.ex = []) (hst : X.stack = X.env :: X.outer ∧ X.env.frame = some X.env.locals) (xc : XOwn X.K C) (hg : Gl X x) (hm : X.mg x = some (.ref C)) (hdb : (x == ("__debug__" : Str)) = false)
    (I0 : Inv X pins σ0 H0 s0) (F : Fly X.prog X.w X.stack H0 H' s0 C ea t B s1) (da : DictAt s1.heap ea d) (ch : Chn H' s1.heap ea)
    (h : ∀ (s3 : Shared), (∀ {Q' : Unit → Shared → Prop} {E' : Value → Shared → Prop}, (∀ s4 oe, Inv X pins σ0 H' s4 → Inv X pins σ0 (upd H' ea (.frz oe (.own 0))) s4 → H' ea = none → IsR C d oe → ChO H' ea oe → Q' () s4) → wpAny (model X.prog X.w) (X.A.mark (some (.ref ea))) (setFlight (.ref ea) none) Q' E' s3) →
      codeAny (model X.prog X.w) (X.A.mark (some (.ref ea))) (.handlers (.ref ea) [.ExceptHandler none name suite hpos] X.env) (fun r s₂ => match r with
        | .ok f => match name with
          | none => Q f s₂
          | some n => wpAny (model X.prog X.w) X.A (do bindName X.env n Value.none; unbindBehindTheSuite X.env n hpos) (fun _ s₃ => Q f s₃) X.xe s₂
        | .error x => cameBackBy (model X.prog X.w) X.A X.env X.xe x s₂) s3) :
    wpAny (model X.prog X.w) X.A (noteFrame (.ref ea) X.env) (fun _ s₂ => wpAny (model X.prog X.w) X.A (setFlight (.ref ea) none) (fun _ s₃ => wpAny (model X.prog X.w) X.A (handleBy (.ref ea) X.env (.ExceptHandler (some (.Name x np)) name suite hpos :: rest)) Q X.xe s₃) X.xe s₂) X.xe s1 := by
  have hfl : B.FlyingW (X.env :: X.outer) ea (.ref C) (.ref t) s1.heap := by rw [← hst.1]; exact F.fly
  have st1 := wpAny_looks_onW (M := model X.prog X.w) (E := fun _ _ => False) (s := s1) (base := B) (env := X.env) (outer := X.outer) (Q := fun _ s' => ∃ h2, s' = { s1 with heap := h2 } ∧ B.HeldW (X.env :: X.outer) ea (.ref C) (.ref t) X.env.locals h2 ∧ s1.heap.UpToSlots h2) (by rw [I0.ok.frames, hst.1]) hst.2 hfl fun h2 held up => ⟨h2, rfl, held, up⟩
  refine wpAny_mono (wpAny_keep (ds_note _ _) st1) (fun _ s' z => ?_) fun _ _ z => z.1.elim
  obtain ⟨⟨h2, rfl, held, up⟩, kh2⟩ := z
  have st2 := wpAny_landsW (M := model X.prog X.w) (A := X.A) (E := fun _ _ => False) (s := { s1 with heap := h2 }) (Q := fun _ s' => ∃ h3, s' = { s1 with heap := h3 } ∧ B.FlyingW (X.env :: X.outer) ea (.ref C) (.ref t) h3 ∧ h2.UpToSlots h3) held fun h3 fly3 up3 => ⟨h3, rfl, fly3, up3⟩
  refine wpAny_mono (wpAny_keep (ds_setFlight _ _) st2) (fun _ s' z => ?_) fun _ _ z => z.1.elim
  obtain ⟨⟨h3, rfl, fly3, up3⟩, kh3⟩ := z
  have up13 : s1.heap.UpToSlots h3 := UpToSlots.trans up up3
  have I3 : Inv X pins σ0 H' { s1 with heap := h3 } := I0.fly F fly3.1 up13
  obtain ⟨st3, hne, ff3, tr3⟩ := id fly3
  obtain ⟨oe, vs, T, oT, ts, he, ⟨hc, h0⟩, hd, _⟩ := id tr3
  obtain ⟨nm, q, N, bs, bm, hdct, sn, sub, ab, col, dd, k0, k1, k2, k3, k5, lk, tl, has⟩ := xc.ex
  refine wpAny_handleBy_cons (codeAny_handlers_test ?_) (by nofun)
  refine ld_glob (X := X.hand ea) (I3.hand ea) hg hm ?_ hdb
  refine wpAny_excMatches_sub_self (I3.kIn _ _ lk) he hc has ?_
  refine h { s1 with heap := h3 } fun {Q' E'} k => ?_
  have st5 := wpAny_setFlight_noneW (M := model X.prog X.w) (A := X.A.mark (some (.ref ea))) (E := fun _ _ => False) (s := { s1 with heap := h3 }) (base := B) (l := X.env :: X.outer) (fl := .none) (Q := fun _ s' => ∃ h4, s' = { s1 with heap := h4 } ∧ B.StaysIn h4 ∧ h4.FunFrames B (X.env :: X.outer) ∧ h4.TracedW B ea (.ref C) (.ref t) ∧ ∀ b o, h3.get? b = some o → (∀ vs, o.data ≠ .fields vs) → h4.get? b = some o) st3 ff3 tr3 fun h4 st4 ff4 tr4 k4 => ⟨h4, rfl, st4, ff4, tr4, k4⟩
  refine wpAny_mono (wpAny_keep (ds_setFlight _ _) st5) (fun _ s' z => ?_) fun _ _ z => z.1.elim
  obtain ⟨⟨h4, rfl, st4, ff4, tr4, k4⟩, kh4⟩ := z
  have up34 : h3.UpToSlots h4 := fun b o e d => ⟨o.slots, k4 b o e d⟩
  have I4 : Inv X pins σ0 H' { s1 with heap := h4 } := I0.fly F st4 (UpToSlots.trans up13 up34)
  obtain ⟨oe4, vs4, T4, oT4, ts4, he4, ⟨hc4, h04⟩, hd4, _⟩ := id tr4
  have n0 : H' ea = none := by
    cases z : H' ea with
    | none => rfl
    | some u =>
      obtain ⟨_, y⟩ := F.trk ea u z
      obtain ⟨_, _, _, tr⟩ := F.fly
      obtain ⟨o1, _, _, _, _, e1, _⟩ := tr
      have := y _ e1
      rw [F.fly.2.1] at this; cases this
  have nst : ea ∉ frs X.stack := fun z => by
    obtain ⟨_, o, e, d⟩ := I4.stack.mem z
    have e' : h4.get? ea = some o := e
    rw [he4] at e'; cases e'
    exact d _ hd4
  have nall : s0.heap.get? ea = none := by
    cases z : s0.heap.get? ea with
    | none => rfl
    | some o =>
      rcases F.all ea o z with y | ⟨o', y⟩
      · exact absurd y nst
      · rw [F.fly.2.1] at y; cases y
  refine k _ oe4 I4 (I4.track' he4 n0 (fun z => ?_) (fun y c e z => ?_) (fun p hp z => ?_) ?_) n0 ⟨hc4, by
    obtain ⟨oz, ez, dz⟩ := da.kp (kh2.trans (kh3.trans kh4))
    have ez : h4.get? ea = some oz := ez
    rw [he4] at ez; cases ez; exact dz, _, hd4⟩ (by
    obtain ⟨oz, ez, cz⟩ := ch.kp (kh2.trans (kh3.trans kh4))
    have ez : h4.get? ea = some oz := ez
    rw [he4] at ez; cases ez; exact cz)
  · obtain ⟨m, ⟨o, es, ep, e, d, _⟩, _⟩ := I4.loc
    have e' : h4.get? X.env.locals = some o := e
    rw [← z, he4] at e'; cases e'
    rw [hd4] at d; cases d
  · obtain ⟨v, o, e', d⟩ := I4.cell y c e
    have e' : h4.get? c = some o := e'
    rw [z, he4] at e'; cases e'
    rw [hd4] at d; cases d
  · obtain ⟨e, _⟩ := I0.pin p hp
    rw [z, nall] at e; cases e
  · cases z : X.s₀.heap.get? ea with
    | none => rfl
    | some o =>
      obtain ⟨o', e⟩ := I0.base.there ea o z (by rw [hex]; simp)
      rw [nall] at e; cases e
end
end L2
namespace L2
open PySem PySem.Spec PyProof.Rows
structure XGet (K : PySem.W.Frag) (C : Addr) : Prop where
  own : XOwn K C
  hd : ∃ cd, PySem.W.clsIn K C = some cd ∧ cd.hasDict = true
  ga : PySem.W.findIn K (.ref C) "__getattribute__" = some (some (.builtin "BaseException.__getattribute__"))
  gn : PySem.W.findIn K (.ref C) "__getattr__" = some none
  fo : PySem.W.findIn K (.ref C) "__class__" = some (some (.builtin "object.__class__"))
  sp : PySem.W.specialIn K (.builtin "object.__class__") "__get__" = some (some (.builtin "getset_descriptor.__get__"))
  tk : PySem.W.takesIn K (.builtin "object.__class__") = some true
  mo : PySem.W.mroIn K C (.type "object") = some true
section
variable {K : PySem.W.Frag} {C e : Addr} {oe : Obj} {prog : Program} {w : World} {A : Around} {E : Value → Shared → Prop} {s : Shared}
theorem excR_get {name : Str} {fill ex : Bool} {tk : Tok} {u : Value} {Q : Value → Shared → Prop} (x : XGet K C) (X : K.In s.heap) (he : s.heap.get? e = some oe) (hc : oe.cls = .ref C) (hu : handedOut u = pure u)
    (h : ∀ {A' : Around} {E' : Value → Shared → Prop}, wpAny (model prog w) A' (Builtin.«object.__getattribute__» ⟨[.ref e, .str name tk], []⟩) (fun f s' => f = .done (.ret u) ∧ Q u s') E' s) :
    wpAny (model prog w) A (getAttrBy (.ref e) (.str name tk) fill ex) Q E s := by
  have ty : ∀ {A : Around} {Q : Value → Shared → Prop} {E : Value → Shared → Prop}, Q (.ref C) s → wpAny (model prog w) A (typeOf (.ref e)) Q E s := fun q => wpAny_typeOf_ref he (by rw [hc]; exact q)
  obtain ⟨nm, q, N, bs, bm, hdct, sn, sub, ab, col, dd, k0, k1, k2, k3, k5, lk, tl, has⟩ := x.own.ex
  have TQ := tailQ.ok X tl
  have hC := X _ _ lk
  have F4 := F.attrBase_ValueError
  unfold getAttrBy
  refine wpAny_holding (wpAny_bind (ty ?_))
  refine wpAny_bind (PySem.W.looks_findIn X x.ga A _ _ s (fun _ _ z => z) ?_)
  show wpAny _ _ (getAttrByItsOwn _ _ _ _ _ _) _ _ _
  unfold getAttrByItsOwn
  refine wpAny_bind (PySem.W.looks_hook X (r := none) (by show PySem.W.findIn K (.ref C) _ = _; exact x.gn) A _ _ s (fun _ _ z => z) ?_)
  refine wpAny_bind (wpAny_attempt (wpAny_holding ?_))
  have hg : callGetattribute (.ref e) (.str name tk) (.builtin "BaseException.__getattribute__") ex = boundAndCalled (.builtin "BaseException.__getattribute__") (.ref e) (.str name tk) := by cases ex <;> rfl
  rw [hg]
  unfold boundAndCalled
  rw [F4.ga.bind]
  refine wpAny_bind (wpAny_pure ?_)
  refine wpAny_call (codeAny_call_builtin F4.ga.plain F.entry_bexc_ga ?_)
  refine wpAny_check_ga_own F4 hC TQ he hc ?_
  refine wpAny_mono h (fun f s' z => ?_) fun _ _ z => z
  obtain ⟨rfl, z⟩ := z
  show wpAny _ _ (handedOut u) _ _ _
  rw [hu]
  exact wpAny_pure z
theorem excR_dict {name : Str} {d : Addr} {m : Str → Option Value} {u : Value} {ex : Bool} {Q : Value → Shared → Prop} (x : XGet K C) (X : K.In s.heap) (he : s.heap.get? e = some oe) (ho : IsR C d oe) (no : PySem.W.findIn K (.ref C) name = some none)
    (hn : s.heap.Ns d m) (hm : m name = some u) (hu : handedOut u = pure u) (h : Q u { s with toks := s.toks + 1 }) : wpAny (model prog w) A (getAttr (.ref e) name ex) Q E s := by
  obtain ⟨cd, hcd, hh⟩ := x.hd
  obtain ⟨vs, hf⟩ := ho.fld
  unfold getAttr
  refine wpAny_bind (wpAny_mkText ?_)
  refine excR_get (u := u) (s := { s with toks := s.toks + 1 }) x X he ho.cls hu fun {A' E'} => ?_
  unfold Builtin.«object.__getattribute__»
  refine wpAny_bind (wpAny_pure ?_)
  refine wpAny_bind (wpAny_pure ?_)
  refine wpAny_bind (wpAny_typeOf_ref he ?_)
  rw [ho.cls]
  refine wpAny_bind ?_
  unfold Builtin.ObjectAttr.find
  refine wpAny_bind (PySem.W.looks_findIn X no _ _ _ { s with toks := s.toks + 1 } (fun _ _ z => z) ?_)
  refine wpAny_bind (wpAny_pure ?_)
  refine wpAny_bind (wpAny_pure ?_)
  show wpAny _ _ (Builtin.ObjectAttr.ownThenClass _ _ _ _) _ _ _
  unfold Builtin.ObjectAttr.ownThenClass
  refine wpAny_bind ?_
  show wpAny _ _ (Builtin.ObjectAttr.ownDict e >>= fun d => Builtin.ObjectAttr.inDict name d) _ _ _
  refine wpAny_bind ?_
  unfold Builtin.ObjectAttr.ownDict
  refine wpAny_bind (wpAny_loadPart (s := { s with toks := s.toks + 1 }) he ?_)
  rw [hf]
  show wpAny _ _ (instanceDict e false) _ _ _
  unfold instanceDict
  refine wpAny_bind (wpAny_loadPart (s := { s with toks := s.toks + 1 }) he ?_)
  rw [ho.cls, ho.dict]
  refine wpAny_bind (PySem.W.looks_clsIn X hcd _ _ _ { s with toks := s.toks + 1 } (fun _ _ z => z) ?_)
  rw [hh]
  refine wpAny_pure ?_
  refine wpAny_nsGet (s := { s with toks := s.toks + 1 }) hn ?_
  rw [hm]
  refine wpAny_bind (wpAny_rule (wpAny_pure ?_))
  exact wpAny_pure ⟨rfl, h⟩
end
def tRow (K : PySem.W.Frag) (ta : TE) (f : Str) : TE := fun σ H Q => ta σ H fun x H1 => ∃ a C d oe od i, x = .ref a ∧ H1 a = some (.frz oe (.own 0)) ∧ IsR C d oe ∧ XGet K C ∧ PySem.W.findIn K (.ref C) f = some none ∧ H1 d = some (.frz od (.own 0)) ∧ RowO f (.int i) od ∧ Q (.int i) H1
theorem pe_row {X : Cx} {e : Expr} {f : Str} {ta : TE} {pos : Pos} (he : PE X e ta) (hb : attributeBase e f X.env (eval e X.env) = eval e X.env) : PE X (.Attribute e f pos) (tRow X.K ta f) := by
  intro pins s σ H Q I h
  refine attr_of hb (thn (he pins s σ H _ I h) fun u s1 ⟨x, H1, I1, rx, a, C, d, oe, od, i, ex, ea, ix, xg, no, ed, ro, q⟩ => ?_)
  subst ex
  obtain rfl : u = Value.ref a := rx
  obtain ⟨m, uv, hn, hm, ru⟩ := ro _ _ (I1.hok _ _ ed).1
  obtain ⟨t, rfl⟩ := id ru
  exact excR_dict xg I1.kIn (I1.hok _ _ ea).1 ix no hn.ns hm rfl ⟨.int i, H1, I1.tok _, ru, q⟩
abbrev XRr := St → Addr → Addr → Hp → Prop
def XQR (X : Cx) (pins : List (Addr × Obj)) (R : XRr) (e : Value) (s' : Shared) : Prop :=
  ∃ ea t C B H H' σ s d, e = .ref ea ∧ Inv X pins σ H s ∧ Fly X.prog X.w X.stack H H' s C ea t B s' ∧ DictAt s'.heap ea d ∧ Chn H' s'.heap ea ∧ R σ C d H'
abbrev TSr := Ends → XRr → St → Hp → Prop
def PSsr (X : Cx) (st : List Stmt) (t : TSr) : Prop :=
  ∀ (pins : List (Addr × Obj)) (s : Shared) (σ : St) (H : Hp) (D : Ends) (R : XRr), Inv X pins σ H s → t D R σ H → wpAny (model X.prog X.w) X.A (execs st X.env) (SP X pins D) (XQR X pins R) s
section
variable {X : Cx} {e : Expr} {es : List Expr} {pos : Pos}
theorem run_fnR {pins : List (Addr × Obj)} {σ : St} {H : Hp} {s : Shared} {Q : VK} {R : XRr} {us : List Value} {vs : List V} {k : Nat} {f : Addr} {fd : FuncData} {ps : List Str} {sp : Sp} (F : FnOk X.prog X.w X.K X.mg X.base (CXR X.prog X.w) k f fd ps sp) (hr : Room k X.A) (hb : Binds X.K fd ps [])
    (I : Inv X pins σ H s) (r : Vals vs us) (h : sp vs H Q (fun c d H2 => ∃ C d', c = .ref C ∧ d = some d' ∧ R σ C d' H2)) : wpAny (model X.prog X.w) X.A (call (.ref f) us) (EP X pins σ Q) (XQR X pins R) s := by
  have hl : us.length = ps.length := by rw [← r.length]; exact F.len _ _ _ _ h
  have hb' : BindsTo s fd ⟨us, []⟩ (ps.zip us) := by
    have z := hb s us I.kIn (by simpa using hl)
    rwa [List.append_nil] at z
  refine wpAny_call (codeAny_mono (F.run X.A X.stack s H ⟨us, []⟩ us vs Q _ hr I.env0 hb' r h) fun r s' hq => ?_)
  cases r with
  | error e =>
    obtain ⟨ea, t, C, B, H', d, e1, F, da, ch, C', d', e2, e3, q⟩ := hq
    cases e2; cases e3
    exact ⟨ea, t, C, B, H, H', σ, s, d, e1, I, F, da, ch, q⟩
  | ok fl =>
    cases fl with
    | ret u => exact I.after hq
    | next => exact False.elim hq
    | brk => exact False.elim hq
    | cont => exact False.elim hq
def trSet (i : Nat) (sp : Sp) (t : TA) : TSr := fun D R σ H => t σ H fun vs H1 => sp vs H1 (fun v H2 => D.nx (σ.set i (some v)) H2) (fun c d H2 => ∃ C d', c = .ref C ∧ d = some d' ∧ R σ C d' H2)
theorem pssr_set {k i : Nat} {x y : Str} {ps : List Str} {sp : Sp} {t : TA} {p p2 apos : Pos} (hN : X.N.Nodup) (hi : X.N[i]? = some y) (hy : Loc X.env.scope y) (F : FnR X.prog X.w X.K X.mg X.base k x ps sp) (hr : Room k X.A) (hg : Gl X x) (ha : PA X.nox (e :: es) t)
    (hs : swapsWith (.Call (.Name x p) (e :: es) [] pos) (some (.Name y p2)) apos.line X.env = pure false := by rfl) (hf : X.fn y = true ∨ X.env.scope.names.lookup y = some .local := by first | exact .inl rfl | exact .inr rfl | assumption) (hdb : (x == ("__debug__" : Str)) = false := by decide)
    (he : starEach (e :: es) X.env = (false, eval e X.env) :: starEach es X.env := by rfl) (hpl : (backTo pos (starEach es X.env)).any (·.1) = false := by rfl) : PSsr X [.Assign [.Name y p2] (.Call (.Name x p) (e :: es) [] pos) apos] (trSet i sp t) := by
  obtain ⟨f, fd, h1, h2, h3, h4⟩ := F
  intro pins s σ H D R I h
  refine wpAny_execs_cons (wpAny_Assign_Name (wpAny_Call_Name_kw (ld_glob I hg h1 ?_ hdb)) hs)
  refine PySem.W.callWith_K (h₀ := X.base) I.ok.mod.kin h2 (wpAny_mono (ha pos pins s σ H _ (I.wish _) h) (fun us s1 ⟨vs, H1, I1, r, q⟩ => ⟨I1.unwish.kIn, ?_⟩) fun _ _ z => False.elim z) he hpl
  refine wpAny_mono (run_fnR h4 hr h3 I1.unwish r q) (fun u s2 ⟨v, H2, I2, rv, q2⟩ => ?_) fun _ _ z => z
  exact store_ok I2 hN hi hy rv (fun s3 I3 => wpAny_execs_nil ⟨_, H2, I3, q2⟩) hf
end
end L2
namespace L2
open PySem PySem.Spec PyProof.Rows
theorem eqB_tupS {H : Hp} {a c : Addr} {xs : List V} (ha : H a = some (.tup xs)) (hc : H c = some (.tup xs)) (hf : ∀ x ∈ xs, flatV x = true) : EqB H 1 (.ref a) (.ref c) true := by
  refine .inr (.inl ⟨a, c, xs, xs, fun _ => true, rfl, rfl, ha, hc, fun i u v h1 h2 => ?_, ?_⟩)
  · rw [h1] at h2; cases h2
    have f := hf u (List.mem_of_getElem? h1)
    exact .inl ⟨f, f, (eqV_self f).symm⟩
  · rw [all_true]; simp
theorem eqB_lstS {H : Hp} {n : Nat} {a c : Addr} {xs ys : List V} (ha : H a = some (.lst xs)) (hc : H c = some (.lst ys)) (hl : xs.length = ys.length) (hf : ∀ (i : Nat) u v, xs[i]? = some u → ys[i]? = some v → EqB H n u v true) : EqB H (n + 1) (.ref a) (.ref c) true := by
  refine .inr (.inr ⟨a, c, xs, ys, fun _ => true, rfl, rfl, ha, hc, hf, ?_⟩)
  rw [all_true, hl]; simp
theorem pe_rowK {X : Cx} (K : PySem.W.Frag) (hK : X.K = K) {e : Expr} {f : Str} {ta : TE} {pos : Pos} (he : PE X e ta) (hb : attributeBase e f X.env (eval e X.env) = eval e X.env) : PE X (.Attribute e f pos) (tRow K ta f) := by subst hK; exact pe_row he hb
end L2
namespace L2
open PySem PySem.Spec PyProof.Rows
def Clean (h : Heap) (e : Addr) : Prop := ∃ oe vs, h.get? e = some oe ∧ oe.data = .fields vs ∧ vs[2]? = some Value.none
theorem Clean.kp {h h' : Heap} {e : Addr} (x : Clean h e) (k : KpH h h') : Clean h' e := by
  obtain ⟨oe, vs, e1, e2, e3⟩ := x
  obtain ⟨o', e4, kr⟩ := k e oe e1
  obtain ⟨vs', e5, _, e6⟩ := kr.2.2.2 vs e2
  exact ⟨o', vs', e4, e5, (e6 2 (by decide) (by decide)).trans e3⟩
def CXN (P : Program) (w : World) : CXT := fun outer H s E e s' => ∃ ea t C B H', e = .ref ea ∧ Fly P w outer H H' s C ea t B s' ∧ Clean s'.heap ea ∧ E (.ref C) none H'
theorem raisesN_cx {P : Program} {w : World} {K : PySem.W.Frag} {mg : Str → Option Value} {base : Heap} {N : List Str} {qual : Str} {scope : Scope} {f : Addr} {cd : Value} {A : Around} {outer : List Env} {s : Shared} {H : Hp} {E : XK} :
    Raises (cxOf (CXN P w) P w K mg base N qual scope f cd A outer s H E) E := by
  intro pins σ H1 s1 h' e C vs I M q
  have hfr : ∀ b ∈ frs (envOfC qual scope s.heap.objs.size f cd :: outer), H1 b = none := I.stkFree
  have hB : ∀ {b o}, s1.heap.get? b = some o → b ∉ frs (envOfC qual scope s.heap.objs.size f cd :: outer) → (PySem.W.hideAll s1.heap (frs (envOfC qual scope s.heap.objs.size f cd :: outer))).get? b = some o := fun e n => PySem.W.hideAll_get _ e n
  have hsub : ∀ b ∈ frs outer, b ∈ frs (envOfC qual scope s.heap.objs.size f cd :: outer) := fun b hb => List.mem_cons_of_mem _ hb
  have hnew : ∀ b o, s.heap.get? b = some o → b ∉ frs outer → b ∉ frs (envOfC qual scope s.heap.objs.size f cd :: outer) := fun b o e n z => by
    rcases List.mem_cons.mp (show b ∈ s.heap.objs.size :: frs outer from z) with z | z
    · exact absurd (Heap.lt_size e) (by rw [z]; exact Nat.lt_irrefl _)
    · exact n z
  obtain ⟨t0, me, mt⟩ := M.there
  have step := wpAny_leaves_madeW (M := model P w) (A := A.deeper (envOfC qual scope s.heap.objs.size f cd)) (E := fun _ _ => False) (s := { s1 with heap := h' }) (base := PySem.W.hideAll s1.heap (frs (envOfC qual scope s.heap.objs.size f cd :: outer))) (h := s1.heap) (outer := outer) (L := s.heap.objs.size) (env := envOfC qual scope s.heap.objs.size f cd)
    (Q := fun _ s' => ∃ h2 t, s' = { s1 with heap := h2 } ∧ Heap.FlyingW (PySem.W.hideAll s1.heap (frs (envOfC qual scope s.heap.objs.size f cd :: outer))) outer e (.ref C) (.ref t) h2 ∧ h'.UpToSlots h2) I.ok.frames rfl (fun b o z => PySem.W.of_hideAll _ z)
    (funFrames_base I.stack fun a ha => PySem.W.hideAll_none _ ha) M fun h2 t fly tup tn up => ⟨h2, t, rfl, fly, up⟩
  refine wpAny_mono (wpAny_keep (ds_leaving _ _) step) (fun _ s' z => ?_) fun _ _ z => z.1.elim
  obtain ⟨⟨h2, t, rfl, fly, up⟩, kh⟩ := z
  have keepT : ∀ b u, H1 b = some u → b ∉ frs (envOfC qual scope s.heap.objs.size f cd :: outer) := fun b u e z => by rw [hfr b z] at e; cases e
  have old : ∀ b o, s.heap.get? b = some o → H b = none → b ∉ frs outer → (PySem.W.hideAll s1.heap (frs (envOfC qual scope s.heap.objs.size f cd :: outer))).get? b = some o := fun b o e n nf =>
    hB (I.base.keep b o e n nf (fun z => absurd (show b ∈ ([] : List Addr) from z) (by simp))) (hnew b o e nf)
  have slot : ∀ b o, s.heap.get? b = some o → b ∈ frs outer → ∃ sl, h2.get? b = some { o with slots := sl } := fun b o e hb => by
    have hn : H b = none := I.ok.frf b hb
    obtain ⟨sl, e1⟩ := I.base.slot b o e hn hb (fun z => absurd (show b ∈ ([] : List Addr) from z) (by simp))
    obtain ⟨_, o2, e2, d2⟩ := I.ok.funs.mem hb
    have e2' : s.heap.get? b = some o2 := e2
    rw [e] at e2'; cases e2'
    obtain ⟨sl2, e3⟩ := up b _ (M.keeps _ _ e1) d2
    exact ⟨sl2, e3⟩
  have all : ∀ b o, s.heap.get? b = some o → b ∈ frs outer ∨ ∃ o', (PySem.W.hideAll s1.heap (frs (envOfC qual scope s.heap.objs.size f cd :: outer))).get? b = some o' := fun b o e => by
    by_cases hb : b ∈ frs outer
    · exact .inl hb
    · obtain ⟨o', e1⟩ := I.base.there b o e (fun z => absurd (show b ∈ ([] : List Addr) from z) (by simp))
      exact .inr ⟨o', hB e1 (hnew b o e hb)⟩
  refine ⟨e, t, C, _, H1, rfl, ⟨I.os, I.bare, fly, ⟨fun b o e n nf _ => fly.1 _ _ (old b o e n nf), fun b o e n hb _ => slot b o e hb, I.base.free, fun b o e _ => ?_, I.base.tups, I.base.frzs, I.base.tbls⟩, fun a u z => ?_, old, fun b u z => ⟨fun y => keepT b u z (hsub b y), fun o zo => ?_⟩, all⟩, Clean.kp ⟨_, _, me, rfl, rfl⟩ kh, q⟩
  · rcases all b o e with hb | ⟨o', z⟩
    · obtain ⟨sl, z⟩ := slot b o e hb
      exact ⟨_, z⟩
    · exact ⟨o', fly.1 _ _ z⟩
  · refine (I.hok a u z).stay (fun b v hb hv => fly.1 _ _ (hB hv ?_)) (fun _ y => y) fun _ _ y => y
    rcases hb with rfl | hb
    · exact keepT _ _ z
    · exact keepT _ _ hb
  · obtain ⟨o', e1⟩ := (I.hok b u z).there
    have e2 := hB e1 (keepT b u z)
    have e3 := fly.1 _ _ e2
    rw [zo] at e3; cases e3
    exact e2
theorem passesN_cx {P : Program} {w : World} {K : PySem.W.Frag} {mg : Str → Option Value} {base : Heap} {N : List Str} {qual : Str} {scope : Scope} {f : Addr} {cd : Value} {A : Around} {outer : List Env} {s : Shared} {H : Hp} {E : XK} :
    Passes (CXN P w) (cxOf (CXN P w) P w K mg base N qual scope f cd A outer s H E) E := by
  intro pins σ H1 s1 ev s2 I hq
  obtain ⟨ea, t, C, B, H2, rfl, F, cn, q⟩ := hq
  have F : Fly P w (envOfC qual scope s.heap.objs.size f cd :: outer) H1 H2 s1 C ea t B s2 := F
  have hsub : ∀ b ∈ frs outer, b ∈ frs (envOfC qual scope s.heap.objs.size f cd :: outer) := fun b hb => List.mem_cons_of_mem _ hb
  have hnew : ∀ b o, s.heap.get? b = some o → b ∉ frs outer → b ∉ frs (envOfC qual scope s.heap.objs.size f cd :: outer) := fun b o e n z => by
    rcases List.mem_cons.mp (show b ∈ s.heap.objs.size :: frs outer from z) with z | z
    · exact absurd (Heap.lt_size e) (by rw [z]; exact Nat.lt_irrefl _)
    · exact n z
  have noex : ∀ b : Addr, b ∉ (cxOf (CXN P w) P w K mg base N qual scope f cd A outer s H E).ex := fun b z => absurd (show b ∈ ([] : List Addr) from z) (by simp)
  have step := wpAny_leaves_onW (M := model P w) (E := fun _ _ => False) (s := s2) (base := B) (env := envOfC qual scope s.heap.objs.size f cd) (outer := outer) (L := s.heap.objs.size) (Q := fun _ s' => ∃ h', s' = { s2 with heap := h' } ∧ B.FlyingW outer ea (.ref C) (.ref t) h' ∧ s2.heap.UpToSlots h') I.ok.frames rfl F.fly fun h' fly up => ⟨h', rfl, fly, up⟩
  refine wpAny_mono (wpAny_keep (ds_leaving _ _) step) (fun _ s' z => ?_) fun _ _ z => z.1.elim
  obtain ⟨⟨h2, rfl, fly, up⟩, kh⟩ := z
  have old : ∀ b o, s.heap.get? b = some o → H b = none → b ∉ frs outer → B.get? b = some o := fun b o e n nf =>
    F.old b o (I.base.keep b o e n nf (noex b)) (I.base.free b o e n (noex b)) (hnew b o e nf)
  have slot : ∀ b o, s.heap.get? b = some o → H b = none → b ∈ frs outer → ∃ sl, h2.get? b = some { o with slots := sl } := fun b o e hn hb => by
    obtain ⟨sl, e1⟩ := I.base.slot b o e hn hb (noex b)
    obtain ⟨sl2, e2⟩ := F.un.slot b _ e1 (I.base.free b o e hn (noex b)) (hsub b hb) (by simp)
    obtain ⟨_, o2, e3, d3⟩ := I.ok.funs.mem hb
    have e3' : s.heap.get? b = some o2 := e3
    rw [e] at e3'; cases e3'
    obtain ⟨sl3, e4⟩ := up b _ e2 d3
    exact ⟨sl3, e4⟩
  have all : ∀ b o, s.heap.get? b = some o → b ∈ frs outer ∨ ∃ o', B.get? b = some o' := fun b o e => by
    obtain ⟨o', e1⟩ := I.base.there b o e (noex b)
    rcases F.all b o' e1 with z | z
    · by_cases hb : b ∈ frs outer
      · exact .inl hb
      · exact absurd z (hnew b o e hb)
    · exact .inr z
  have stay : ∀ b u, H2 b = some u → ∀ o, s2.heap.get? b = some o → h2.get? b = some o := fun b u z o zo => fly.1 _ _ ((F.trk b u z).2 o zo)
  refine ⟨ea, t, C, B, H2, rfl, ⟨F.os.trans I.os, F.bare, fly, ⟨fun b o e n nf _ => fly.1 _ _ (old b o e n nf), fun b o e n hb _ => slot b o e n hb, fun b o e n _ => ?_, fun b o e _ => ?_, fun b xs e => F.un.tups b xs (I.base.tups b xs e), fun b o u e => F.un.frzs b o u (I.base.frzs b o u e), fun b ps e => ?_⟩, fun a u z => ?_, old, fun b u z => ⟨fun y => (F.trk b u z).1 (hsub b y), fun o zo => ?_⟩, all⟩, cn.kp kh, q⟩
  · obtain ⟨o', e1⟩ := I.base.there b o e (noex b)
    exact F.un.free b o' e1 (I.base.free b o e n (noex b)) (by simp)
  · rcases all b o e with hb | ⟨o', z⟩
    · obtain ⟨sl, z⟩ := slot b o e (I.ok.frf b hb) hb
      exact ⟨_, z⟩
    · exact ⟨o', fly.1 _ _ z⟩
  · obtain ⟨m1, e1⟩ := I.base.tbls b ps e
    obtain ⟨m2, e2⟩ := F.un.tbls b _ e1
    exact ⟨m1 ++ m2, by rw [← Array.append_assoc]; exact e2⟩
  · refine (F.hok a u z).stay (fun b v hb hv => ?_) (fun _ y => y) fun _ _ y => y
    rcases hb with rfl | hb
    · exact stay _ _ z _ hv
    · exact stay _ _ hb _ hv
  · obtain ⟨o', e1⟩ := (F.hok b u z).there
    have e2 := (F.trk b u z).2 _ e1
    have e3 := fly.1 _ _ e2
    rw [zo] at e3; cases e3
    exact e2
def MtN (P : Program) (w : World) (K : PySem.W.Frag) (mg : Str → Option Value) (base : Heap) (C : Addr) (k : Nat) (m : Str) (ps : List Str) (sp : Sp) : Prop := ∃ f fd, Meth K C m f ∧ Binds K fd ps [] ∧ FnOk P w K mg base (CXN P w) k f fd ps sp
theorem MethAt.okN {P : Program} {w : World} {K : PySem.W.Frag} {mg : Str → Option Value} {base : Heap} {C : Addr} {m qual : Str} {st : Stmt} {N ps : List Str} {k : Nat} {sp : Sp} (F : MethAt K C m qual st) (S : FnScope N ps (defScope st))
    (hb : ∀ (kV doc pm : Value) (an : Option Addr) (cdv ct : Value) (us : List Value), us.length = ps.length → bindArgs (PySem.W.fnOf m qual (defArgs st) (defBody st) (defScope st) .none kV doc pm an cdv ct) ⟨us, []⟩ = pure (ps.zip us))
    (len : ∀ vs H Q E, sp vs H Q E → vs.length = ps.length)
    (hbody : ∀ (f : Addr) (cdv : Value) (A : Around) (outer : List Env) (s : Shared) (H : Hp) (vs : List V) (Q : VK) (E : XK), Room k (A.deeper (envOfC qual (defScope st) s.heap.objs.size f cdv)) → sp vs H Q E →
      ∃ t, PSs (cxOf (CXN P w) P w K mg base N qual (defScope st) f cdv A outer s H E) (defBody st) t ∧ t { nx := fun _ H' => Q .non H', rt := Q } (start N vs) H) : MtN P w K mg base C (k + 1) m ps sp := by
  obtain ⟨f, fd, h1, F⟩ := F
  refine ⟨f, fd, h1, F.binds hb, ?_⟩
  obtain ⟨oc, od, kV, doc, pm, an, cdv, ct, osl, rfl, lk, hcd⟩ := F.ex
  exact fn_of lk hcd S len fun A outer s H vs Q E hr hsp => hbody f cdv A outer s H vs Q E hr hsp
end L2
namespace L2
open PySem PySem.Spec PyProof.Rows
structure IsN (K : PySem.W.Frag) (C : Addr) (oe : Obj) : Prop where
  x : IsExc K C oe
  cl : ∃ vs, oe.data = .fields vs ∧ vs[2]? = some Value.none
section
variable {X : Cx}
theorem land_okN {pins : List (Addr × Obj)} {σ0 : St} {H0 H' : Hp} {s0 s1 : Shared} {C ea t : Addr} {B : Heap} {x : Str} {np hpos : Pos} {rest : List ExceptHandler} {name : Option Str} {suite : List Stmt} {Q : Flow → Shared → Prop}
    (hex : X.ex = []) (hst : X.stack = X.env :: X.outer ∧ X.env.frame = some X.env.locals) (xc : XCls X.K C) (hg : Gl X x) (hm : X.mg x = some (.ref C)) (hdb : (x == ("__debug__" : Str)) = false)
    (I0 : Inv X pins σ0 H0 s0) (F : Fly X.prog X.w X.stack H0 H' s0 C ea t B s1) (cn : Clean s1.heap ea)
    (h : ∀ (s3 : Shared), (∀ {Q' : Unit → Shared → Prop} {E' : Value → Shared → Prop}, (∀ s4 oe, Inv X pins σ0 H' s4 → Inv X pins σ0 (upd H' ea (.frz oe (.own 0))) s4 → H' ea = none → IsN X.K C oe → Q' () s4) → wpAny (model X.prog X.w) (X.A.mark (some (.ref ea))) (setFlight (.ref ea) none) Q' E' s3) →
      codeAny (model X.prog X.w) (X.A.mark (some (.ref ea))) (.handlers (.ref ea) [.ExceptHandler none name suite hpos] X.env) (fun r s₂ => match r with
        | .ok f => match name with
          | none => Q f s₂
          | some n => wpAny (model X.prog X.w) X.A (do bindName X.env n Value.none; unbindBehindTheSuite X.env n hpos) (fun _ s₃ => Q f s₃) X.xe s₂
        | .error x => cameBackBy (model X.prog X.w) X.A X.env X.xe x s₂) s3) :
    wpAny (model X.prog X.w) X.A (noteFrame (.ref ea) X.env) (fun _ s₂ => wpAny (model X.prog X.w) X.A (setFlight (.ref ea) none) (fun _ s₃ => wpAny (model X.prog X.w) X.A (handleBy (.ref ea) X.env (.ExceptHandler (some (.Name x np)) name suite hpos :: rest)) Q X.xe s₃) X.xe s₂) X.xe s1 := by
  have hfl : B.FlyingW (X.env :: X.outer) ea (.ref C) (.ref t) s1.heap := by rw [← hst.1]; exact F.fly
  have st1 := wpAny_looks_onW (M := model X.prog X.w) (E := fun _ _ => False) (s := s1) (base := B) (env := X.env) (outer := X.outer) (Q := fun _ s' => ∃ h2, s' = { s1 with heap := h2 } ∧ B.HeldW (X.env :: X.outer) ea (.ref C) (.ref t) X.env.locals h2 ∧ s1.heap.UpToSlots h2) (by rw [I0.ok.frames, hst.1]) hst.2 hfl fun h2 held up => ⟨h2, rfl, held, up⟩
  refine wpAny_mono (wpAny_keep (ds_note _ _) st1) (fun _ s' z => ?_) fun _ _ z => z.1.elim
  obtain ⟨⟨h2, rfl, held, up⟩, kh2⟩ := z
  have st2 := wpAny_landsW (M := model X.prog X.w) (A := X.A) (E := fun _ _ => False) (s := { s1 with heap := h2 }) (Q := fun _ s' => ∃ h3, s' = { s1 with heap := h3 } ∧ B.FlyingW (X.env :: X.outer) ea (.ref C) (.ref t) h3 ∧ h2.UpToSlots h3) held fun h3 fly3 up3 => ⟨h3, rfl, fly3, up3⟩
  refine wpAny_mono (wpAny_keep (ds_setFlight _ _) st2) (fun _ s' z => ?_) fun _ _ z => z.1.elim
  obtain ⟨⟨h3, rfl, fly3, up3⟩, kh3⟩ := z
  have up13 : s1.heap.UpToSlots h3 := UpToSlots.trans up up3
  have I3 : Inv X pins σ0 H' { s1 with heap := h3 } := I0.fly F fly3.1 up13
  obtain ⟨st3, hne, ff3, tr3⟩ := id fly3
  obtain ⟨oe, vs, T, oT, ts, he, ⟨hc, h0⟩, hd, _⟩ := id tr3
  obtain ⟨nm, q, N, bs, bm, bmB, hdct, sn, sub, ab, col, dd, k0, k1, k2, k3, k5, newId, B', nid, initId, Bn, inN, bmN, lk, qn, tl, has, F1, F2, F3, F4⟩ := xc.ex
  refine wpAny_handleBy_cons (codeAny_handlers_test ?_) (by nofun)
  refine ld_glob (X := X.hand ea) (I3.hand ea) hg hm ?_ hdb
  refine wpAny_excMatches_sub_self (I3.kIn _ _ lk) he hc has ?_
  refine h { s1 with heap := h3 } fun {Q' E'} k => ?_
  have st5 := wpAny_setFlight_noneW (M := model X.prog X.w) (A := X.A.mark (some (.ref ea))) (E := fun _ _ => False) (s := { s1 with heap := h3 }) (base := B) (l := X.env :: X.outer) (fl := .none) (Q := fun _ s' => ∃ h4, s' = { s1 with heap := h4 } ∧ B.StaysIn h4 ∧ h4.FunFrames B (X.env :: X.outer) ∧ h4.TracedW B ea (.ref C) (.ref t) ∧ ∀ b o, h3.get? b = some o → (∀ vs, o.data ≠ .fields vs) → h4.get? b = some o) st3 ff3 tr3 fun h4 st4 ff4 tr4 k4 => ⟨h4, rfl, st4, ff4, tr4, k4⟩
  refine wpAny_mono (wpAny_keep (ds_setFlight _ _) st5) (fun _ s' z => ?_) fun _ _ z => z.1.elim
  obtain ⟨⟨h4, rfl, st4, ff4, tr4, k4⟩, kh4⟩ := z
  have up34 : h3.UpToSlots h4 := fun b o e d => ⟨o.slots, k4 b o e d⟩
  have I4 : Inv X pins σ0 H' { s1 with heap := h4 } := I0.fly F st4 (UpToSlots.trans up13 up34)
  obtain ⟨oe4, vs4, T4, oT4, ts4, he4, ⟨hc4, h04⟩, hd4, _⟩ := id tr4
  have n0 : H' ea = none := by
    cases z : H' ea with
    | none => rfl
    | some u =>
      obtain ⟨_, y⟩ := F.trk ea u z
      obtain ⟨_, _, _, tr⟩ := F.fly
      obtain ⟨o1, _, _, _, _, e1, _⟩ := tr
      have := y _ e1
      rw [F.fly.2.1] at this; cases this
  have nst : ea ∉ frs X.stack := fun z => by
    obtain ⟨_, o, e, d⟩ := I4.stack.mem z
    have e' : h4.get? ea = some o := e
    rw [he4] at e'; cases e'
    exact d _ hd4
  have nall : s0.heap.get? ea = none := by
    cases z : s0.heap.get? ea with
    | none => rfl
    | some o =>
      rcases F.all ea o z with y | ⟨o', y⟩
      · exact absurd y nst
      · rw [F.fly.2.1] at y; cases y
  refine k _ oe4 I4 (I4.track' he4 n0 (fun z => ?_) (fun y c e z => ?_) (fun p hp z => ?_) ?_) n0 ⟨⟨xc, hc4⟩, by
    obtain ⟨oz, vz, ez, dz, cz⟩ := cn.kp (kh2.trans (kh3.trans kh4))
    have ez : h4.get? ea = some oz := ez
    rw [he4] at ez; cases ez; exact ⟨vz, dz, cz⟩⟩
  · obtain ⟨m, ⟨o, es, ep, e, d, _⟩, _⟩ := I4.loc
    have e' : h4.get? X.env.locals = some o := e
    rw [← z, he4] at e'; cases e'
    rw [hd4] at d; cases d
  · obtain ⟨v, o, e', d⟩ := I4.cell y c e
    have e' : h4.get? c = some o := e'
    rw [z, he4] at e'; cases e'
    rw [hd4] at d; cases d
  · obtain ⟨e, _⟩ := I0.pin p hp
    rw [z, nall] at e; cases e
  · cases z : X.s₀.heap.get? ea with
    | none => rfl
    | some o =>
      obtain ⟨o', e⟩ := I0.base.there ea o z (by rw [hex]; simp)
      rw [nall] at e; cases e
end
def XQN (X : Cx) (pins : List (Addr × Obj)) (R : XR) (e : Value) (s' : Shared) : Prop :=
  ∃ ea t C B H H' σ s, e = .ref ea ∧ Inv X pins σ H s ∧ Fly X.prog X.w X.stack H H' s C ea t B s' ∧ Clean s'.heap ea ∧ R σ C H'
def PSn (X : Cx) (st : Stmt) (t : TSx) : Prop :=
  ∀ (pins : List (Addr × Obj)) (s : Shared) (σ : St) (H : Hp) (D : Ends) (R : XR), Inv X pins σ H s → t D R σ H → wpAny (model X.prog X.w) X.A (exec st X.env) (SP X pins D) (XQN X pins R) s
def PSsn (X : Cx) (st : List Stmt) (t : TSx) : Prop :=
  ∀ (pins : List (Addr × Obj)) (s : Shared) (σ : St) (H : Hp) (D : Ends) (R : XR), Inv X pins σ H s → t D R σ H → wpAny (model X.prog X.w) X.A (execs st X.env) (SP X pins D) (XQN X pins R) s
section
variable {X : Cx} {o e : Expr} {es : List Expr} {st : Stmt} {rest : List Stmt} {pos : Pos}
theorem psn_if {c : Expr} {a b : List Stmt} {tc : TT} {t u : TSx} (hc : PT X.nox c tc) (ha : PSsn X a t) (hb : PSsn X b u) : PSn X (.If c a b pos) (txIf tc t u) := by
  intro pins s σ H D R I h
  refine wpAny_If (wpAny_mono (hc pins s σ H _ (I.wish _) h) (fun d s1 ⟨H1, I1, q1⟩ => ?_) fun _ _ z => False.elim z)
  cases d with
  | true => exact ha pins s1 σ H1 D R I1.unwish q1
  | false => exact hb pins s1 σ H1 D R I1.unwish q1
theorem pssn_one {t : TSx} (h1 : PSn X st t) : PSsn X [st] t := by
  intro pins s σ H D R I h
  refine wpAny_execs_cons (thn (h1 pins s σ H D R I h) fun f s1 q => ?_)
  cases f with
  | next => exact wpAny_execs_nil q
  | brk => exact q
  | cont => exact q
  | ret v => exact q
def tnMeth (C : Addr) (m : Str) (sp : Sp) (ta : TE) (t : TA) : TSx := fun D R σ H => ta σ H fun x H1 => ∃ a dx fs, x = .ref a ∧ H1 a = some (.ins C dx fs) ∧ fs.lookup m = none ∧
  t σ H1 fun vs H2 => sp (x :: vs) H2 (fun _ H3 => D.nx σ H3) (fun c _ H3 => ∃ C', c = .ref C' ∧ R σ C' H3)
theorem psn_meth {C : Addr} {k : Nat} {ps : List Str} {sp : Sp} {m : Str} {ta : TE} {t : TA} {apos cpos : Pos} {pl : Sem Bool} (F : MtN X.prog X.w X.K X.mg X.base C k m ps sp) (he : PE X.nox o ta) (c : Cls X.K C) (hr : Room k X.A) (ha : PA X.nox (e :: es) t)
    (hs : swapsWith (.Call (.Attribute o m apos) (e :: es) [] cpos) none pos.line X.env = pure false := by rfl)
    (hst : starEach (e :: es) X.env = (false, eval e X.env) :: starEach es X.env := by rfl) (hpl : (backTo cpos (starEach es X.env)).any (·.1) = false := by rfl)
    (ht : eval (.Call (.Attribute o m apos) (e :: es) [] cpos) X.env = (do
      let ov ← eval o X.env
      standAt apos.atName
      let (f, first) ← holding [ov] (getMethod ov m pl)
      callWith cpos f first (backTo cpos (starEach (e :: es) X.env)) (backToKw cpos (keywordEach [] X.env))) := by rfl) :
    PSn X (.Expr (.Call (.Attribute o m apos) (e :: es) [] cpos) pos) (tnMeth C m sp ta t) := by
  obtain ⟨f, fd, h1, h3, h4⟩ := F
  intro pins s σ H D R I h
  refine wpAny_Expr_any ?_ I.quiet hs
  refine PySem.W.methodCall_KW (pl := pl) (wpAny_mono (he pins s σ H _ (I.wish _) h) (fun u s1 hq => ?_) fun _ _ z => False.elim z) ht
  obtain ⟨x, H1, I1, rx, a, dx, fs, ex, ea, l, q⟩ := hq
  subst ex
  obtain rfl : u = Value.ref a := rx
  refine getmeth_ok I1.unwish ea c h1 l ?_
  refine PySem.W.callWith_K (first := [.ref a]) (h₀ := X.base) I1.unwish.ok.mod.kin h1.kp (wpAny_mono (ha cpos pins s1 σ H1 _ I1 q) (fun us s2 hq2 => ?_) fun _ _ z => False.elim z) hst hpl
  obtain ⟨vs, H2, I2, r, q2⟩ := hq2
  have I2 := I2.unwish
  refine ⟨I2.kIn, ?_⟩
  have r2 : Vals (V.ref a :: vs) (Value.ref a :: us) := .cons rfl r
  have hl : (Value.ref a :: us).length = ps.length := by rw [← r2.length]; exact h4.len _ _ _ _ q2
  have hb' : BindsTo s2 fd ⟨.ref a :: us, []⟩ (ps.zip (.ref a :: us)) := by
    have z := h3 s2 (.ref a :: us) I2.kIn (by simpa using hl)
    rwa [List.append_nil] at z
  refine wpAny_call (codeAny_mono (h4.run X.A X.stack s2 H2 ⟨.ref a :: us, []⟩ (.ref a :: us) (.ref a :: vs) _ _ hr I2.env0 hb' (.cons rfl r) q2) fun r s' hq => ?_)
  cases r with
  | error e =>
    obtain ⟨ea, t, C, B, H', e1, F, cn, C', e2, q⟩ := hq
    cases e2
    exact ⟨ea, t, C, B, H2, H', σ, s2, e1, I2, F, cn, q⟩
  | ok fl =>
    cases fl with
    | ret u =>
      obtain ⟨v, H3, I3, _, q3⟩ := I2.after hq
      exact ⟨σ, H3, I3, q3⟩
    | next => exact False.elim hq
    | brk => exact False.elim hq
    | cont => exact False.elim hq
end
section
variable {X : Cx}
end
end L2
namespace L2
open PySem PySem.Spec PyProof.Rows
theorem entry_unchain : entryFor table "proto.unchain" = some Builtin.«proto.unchain» := entryFor_of_tree (by kernel_rfl)
abbrev ctx2 (h : Value) : Obj → Obj := Obj.mapFields (·.setIfInBounds 2 h)
section
variable {prog : Program} {w : World} {A : Around} {E : Value → Shared → Prop} {s : Shared}
theorem raise_h {α : Type} {e h : Addr} {oh oe : Obj} {vs ve : Array Value} {Q : α → Shared → Prop} (hA : A.handled = some (.ref h)) (hh : s.heap.get? h = some oh) (hd : oh.data = .fields vs) (h2 : vs[2]? = some Value.none) (ne : h ≠ e)
    (he : s.heap.get? e = some oe) (hf : oe.data = .fields ve) (hz : 2 < ve.size) (hE : E (.ref e) { s with heap := s.heap.update e (ctx2 (.ref h)) }) : wpAny (model prog w) A (raiseNew (.ref e) : Sem α) Q E s := by
  unfold raiseNew
  refine wpAny_bind (wpAny_handled ?_)
  rw [hA]
  have nb : (Value.ref h != Value.ref e) = true := by simpa using ne
  show wpAny _ _ (if (Value.ref h != Value.ref e) = true then _ else _) _ _ _
  rw [if_pos nb]
  refine wpAny_bind (wpAny_holding (wpAny_runValue (codeAny_builtin entry_unchain ?_)))
  show wpAny _ _ (field (.ref h) 2 >>= _) _ _ _
  refine wpAny_bind (wpAny_field hh hd h2 ?_)
  refine wpAny_pure ?_
  refine wpAny_bind (wpAny_setField (i := 2) he hf hz ?_)
  exact wpAny_throw hE
end
end L2
namespace L2
open PySem PySem.Spec PyProof.Rows
structure RoomH (k : Nat) (A : Around) : Prop where
  dp : A.depth + 3 * k + 5 < recursionLimit
  un : A.units + 16 * k + 200 < cLine
theorem RoomH.deeper {k : Nat} {A : Around} (r : RoomH (k + 1) A) (env : Env) : RoomH k (A.deeper env) :=
  ⟨by have := r.dp; show A.depth + 1 + 3 * k + 5 < _; omega, by have := r.un; show A.units + 3 + 16 * k + 200 < _; omega⟩
theorem Room.toH {k : Nat} {A : Around} (r : Room k A) (v : Option Value) : RoomH k (A.mark v) := ⟨r.dp, r.un⟩
abbrev Cx.still (X : Cx) : Cx := { X with calm := false }
structure FnOkH (P : Program) (w : World) (K : PySem.W.Frag) (mg : Str → Option Value) (base : Heap) (CX : CXT) (k : Nat) (f : Addr) (fd : FuncData) (ps : List Str) (sp : Addr → Sp) : Prop where
  len : ∀ h vs H Q E, sp h vs H Q E → vs.length = ps.length
  run : ∀ (A : Around) (h : Addr) (outer : List Env) (s : Shared) (H : Hp) (args : Args) (us : List Value) (vs : List V) (Q : VK) (E : XK), A.handled = some (.ref h) → RoomH k A → Env0 P w K mg base A outer s H → BindsTo s fd args (ps.zip us) → Vals vs us → sp h vs H Q E →
    codeAny (model P w) A (.call (.ref f) args) (CR CX outer P w H s Q E) s
theorem inv_startH {CX : CXT} {P : Program} {w : World} {K : PySem.W.Frag} {mg : Str → Option Value} {base : Heap} {N ps : List Str} {qual : Str} {scope : Scope} {f : Addr} {cd : Value} {A : Around} {outer : List Env} {s s1 : Shared} {H : Hp} {E : XK} {us : List Value} {vs : List V}
    (S : FnScope N ps scope) (e0 : Env0 P w K mg base A outer s H) (hl : vs.length = ps.length) (r : Vals vs us)
    (x : InCallC s s.heap.objs.size (bindL (envOfC qual scope s.heap.objs.size f cd).kindOf (ps.zip us) fun _ => none) (cellsFrom (s.heap.objs.size + 1) scope.names []) (bindC (envOfC qual scope s.heap.objs.size f cd).kindOf (ps.zip us) fun _ => none) s1) :
    Inv (cxOf CX P w K mg base N qual scope f cd A outer s H E).still [] (start N vs) H s1 := by
  have I := inv_start (CX := CX) (A := { A with handled := none }) (E := E) S rfl ⟨e0.frames, e0.mod, e0.bs, e0.bsz, e0.funs, e0.frf, e0.hok, e0.bare⟩ hl r x
  exact ⟨⟨I.ok.mod, I.ok.kind, I.ok.glob, I.ok.blt, I.ok.above, I.ok.inj, I.ok.has, I.ok.cab, (fun z => by cases z), Around.frames_deeper e0.frames, I.ok.stk, I.ok.exf, I.ok.bs, I.ok.bsz, I.ok.noex, I.ok.exfs, I.ok.funs, I.ok.frf⟩, I.os, I.bare, I.base, I.loc, I.cell, I.free, I.freeC, I.pin, I.hok, I.len⟩
theorem fn_ofH {CX : CXT} {P : Program} {w : World} {K : PySem.W.Frag} {mg : Str → Option Value} {base : Heap} {k : Nat} {f : Addr} {name qual : Str} {params : Arguments} {body : List Stmt} {scope : Scope} {dV kV doc pm cdv ct oc : Value} {an od : Option Addr}
    {osl : Array (Option Value)} {N ps : List Str} {sp : Addr → Sp} (lk : K.lookup f = some ⟨oc, od, .func (PySem.W.fnOf name qual params body scope dV kV doc pm an cdv ct), osl⟩) (hcd : PySem.W.codeIn K cdv qual = true) (S : FnScope N ps scope)
    (len : ∀ h vs H Q E, sp h vs H Q E → vs.length = ps.length)
    (hbody : ∀ (A : Around) (h : Addr) (outer : List Env) (s : Shared) (H : Hp) (vs : List V) (Q : VK) (E : XK), (A.deeper (envOfC qual scope s.heap.objs.size f cdv)).handled = some (.ref h) → RoomH k (A.deeper (envOfC qual scope s.heap.objs.size f cdv)) → sp h vs H Q E →
      ∃ t, PSs (cxOf CX P w K mg base N qual scope f cdv A outer s H E).still body t ∧ t { nx := fun _ H' => Q .non H', rt := Q } (start N vs) H) :
    FnOkH P w K mg base CX (k + 1) f (PySem.W.fnOf name qual params body scope dV kV doc pm an cdv ct) ps sp := by
  refine ⟨len, fun A h outer s H args us vs Q E hA hr e0 hb r hsp => ?_⟩
  have hl := len _ _ _ _ _ hsp
  have KX : K.In s.heap := e0.mod.kin.keeps fun b o e => (e0.bs b o e).1
  have lim : s.heap.NoLimit := e0.mod.nolimit.keeps fun b o e => (e0.bs b o e).1
  have hkind : ∀ y ∈ ps.zip us, scope.names.lookup y.1 = some .local ∨ (scope.names.lookup y.1 = some .cell ∧ ((cellsFrom (s.heap.objs.size + 1) scope.names []).lookup y.1).isSome = true) := fun ⟨n, v⟩ hy => by
    rcases S.par n (List.of_mem_zip hy).1 with q | q
    · exact .inl q
    · exact .inr ⟨q, PySem.W.cellsFrom_some _ _ _ (.inl q)⟩
  refine codeAny_call_function (by have := hr.dp; omega) (KX _ _ lk) rfl S.co S.gen rfl (PySem.W.codeRec_of KX hcd) (hb _ _ _ _ ?_)
  refine wpAny_newFunctionEnv_cells S.kind hkind fun env he s1 x => ?_
  subst he
  refine ⟨lim.keeps x.toInCall.keep, codeAny_func ?_⟩
  obtain ⟨t, ht, hq⟩ := hbody A h outer s H vs Q E hA (hr.deeper _) hsp
  have I : Inv (cxOf CX P w K mg base N qual scope f cdv A outer s H E).still [] (start N vs) H s1 := inv_startH S e0 hl r x
  refine wpAny_mono (ht [] s1 (start N vs) H _ I hq) (fun fl s' hs => ?_) fun e s' hs => hs
  have fin : ∀ {σ' : St} {H' : Hp} {v : V} {u : Value}, Inv (cxOf CX P w K mg base N qual scope f cdv A outer s H E).still [] σ' H' s' → RelV v u → Q v H' → CE outer P w H s Q u s' :=
    fun {σ' H' v u} J rv q => ⟨v, H', J.os, J.bare, J.base, J.hok, rv, q⟩
  cases fl with
  | ret u =>
    obtain ⟨v, σ', H', J, rv, q⟩ := hs
    exact fin J rv q
  | next =>
    obtain ⟨σ', H', J, q⟩ := hs
    exact fin (v := V.non) (u := Value.none) J rfl q
  | brk =>
    obtain ⟨_, _, _, q⟩ := hs
    exact False.elim q
  | cont =>
    obtain ⟨_, _, _, q⟩ := hs
    exact False.elim q
def MtH (P : Program) (w : World) (K : PySem.W.Frag) (mg : Str → Option Value) (base : Heap) (CX : CXT) (C : Addr) (k : Nat) (m : Str) (ps : List Str) (sp : Addr → Sp) : Prop := ∃ f fd, Meth K C m f ∧ Binds K fd ps [] ∧ FnOkH P w K mg base CX k f fd ps sp
theorem MethAt.okH {CX : CXT} {P : Program} {w : World} {K : PySem.W.Frag} {mg : Str → Option Value} {base : Heap} {C : Addr} {m qual : Str} {st : Stmt} {N ps : List Str} {k : Nat} {sp : Addr → Sp} (F : MethAt K C m qual st) (S : FnScope N ps (defScope st))
    (hb : ∀ (kV doc pm : Value) (an : Option Addr) (cdv ct : Value) (us : List Value), us.length = ps.length → bindArgs (PySem.W.fnOf m qual (defArgs st) (defBody st) (defScope st) .none kV doc pm an cdv ct) ⟨us, []⟩ = pure (ps.zip us))
    (len : ∀ h vs H Q E, sp h vs H Q E → vs.length = ps.length)
    (hbody : ∀ (f : Addr) (cdv : Value) (A : Around) (h : Addr) (outer : List Env) (s : Shared) (H : Hp) (vs : List V) (Q : VK) (E : XK), (A.deeper (envOfC qual (defScope st) s.heap.objs.size f cdv)).handled = some (.ref h) → RoomH k (A.deeper (envOfC qual (defScope st) s.heap.objs.size f cdv)) → sp h vs H Q E →
      ∃ t, PSs (cxOf CX P w K mg base N qual (defScope st) f cdv A outer s H E).still (defBody st) t ∧ t { nx := fun _ H' => Q .non H', rt := Q } (start N vs) H) : MtH P w K mg base CX C (k + 1) m ps sp := by
  obtain ⟨f, fd, h1, F⟩ := F
  refine ⟨f, fd, h1, F.binds hb, ?_⟩
  obtain ⟨oc, od, kV, doc, pm, an, cdv, ct, osl, rfl, lk, hcd⟩ := F.ex
  exact fn_ofH lk hcd S len fun A h outer s H vs Q E hA hr hsp => hbody f cdv A h outer s H vs Q E hA hr hsp
section
variable {X : Cx} {CX : CXT} {k : Nat} {f C h : Addr} {fd : FuncData} {ps : List Str} {sp : Addr → Sp} {E : XK} {x m : Str} {p pos apos : Pos} {e o : Expr} {es : List Expr} {ta : TE} {t : TA}
end
end L2
namespace L2
open PySem PySem.Spec PyProof.Rows
section
variable {M : Model} {A : Around} {E : Value → Shared → Prop} {s : Shared} {env : Env} {nm q : Str} {C N : Addr} {bs bm : List Value} {hdct : Bool} {sn : List Str} {sub : List Value} {ab : Bool} {col : Option Bool} {dd : Option Addr} {k0 k1 k2 k3 k5 : Option Value} {newId : String}
end
section
variable {X : Cx}
end
end L2
namespace L2
open PySem PySem.Spec PyProof.Rows
section
variable {X : Cx}
end
end L2
namespace L2
open PySem PySem.Spec PyProof.Rows
section
variable {X : Cx}
theorem pe_methNN {C : Addr} {k : Nat} {ps : List Str} {sp : Sp} {m : Str} {o e : Expr} {es : List Expr} {ta : TE} {t : TA} {apos pos : Pos} {E : XK} {pl : Sem Bool} (F : MtN X.prog X.w X.K X.mg X.base C k m ps sp) (he : PE X o ta) (c : Cls X.K C) (hr : Room k X.A) (hx : Passes (CXN X.prog X.w) X E) (ha : PA X (e :: es) t)
    (hst : starEach (e :: es) X.env = (false, eval e X.env) :: starEach es X.env := by rfl) (hpl : (backTo pos (starEach es X.env)).any (·.1) = false := by rfl)
    (ht : eval (.Call (.Attribute o m apos) (e :: es) [] pos) X.env = (do
      let ov ← eval o X.env
      standAt apos.atName
      let (f, first) ← holding [ov] (getMethod ov m pl)
      callWith pos f first (backTo pos (starEach (e :: es) X.env)) (backToKw pos (keywordEach [] X.env))) := by rfl) :
    PE X (.Call (.Attribute o m apos) (e :: es) [] pos) (tMeth C m sp [] E ta t) := by
  obtain ⟨f, fd, h1, h3, h4⟩ := F
  exact pe_meth he c h1 h4 hr h3 .nil hx ha hst hpl ht
end
end L2
namespace L2
open PySem PySem.Spec PyProof.Rows
section
variable {M : Model} {A : Around} {E : Value → Shared → Prop} {s : Shared}
theorem note_firstW {base : Heap} {env : Env} {outer : List Env} {L e : Addr} {oe : Obj} {vs : Array Value} {a0 : Value} {Q : Unit → Shared → Prop} (hfr : A.frames = some (env :: outer)) (hl : s.heap.FunFrames base (env :: outer)) (hf : env.frame = some L) (he : s.heap.get? e = some oe)
    (hkb : base.StaysIn s.heap) (hen : base.get? e = none) (hd : oe.data = .fields vs) (h1 : vs[1]? = some Value.none) (h0 : vs[0]? = some a0) (h : ∀ h', Heap.HeldW base (env :: outer) e oe.cls a0 L h' → s.heap.UpToSlots h' → Q () { s with heap := h' }) : wpAny M A (noteFrame (.ref e) env) Q E s := by
  unfold noteFrame
  simp only [hf]
  refine wpAny_bind (wpAny_field he hd h1 ?_)
  rw [if_neg (by decide)]
  exact wpAny_entryW hfr hl hf he hkb hen hd (Array.getElem?_eq_some_iff.mp h1).1 h0 fun h' ⟨k1, k2, k3, k4⟩ => h h' ⟨k1, hen, k2, k3⟩ k4
theorem back_heldW {base : Heap} {env : Env} {l : List Env} {L e : Addr} {cls a0 : Value} {Q : Unit → Shared → Prop} (hf : env.frame = some L) (hh : Heap.HeldW base l e cls a0 L s.heap) (hQ : ∀ h', Heap.HeldW base l e cls a0 L h' → s.heap.UpToSlots h' → Q () { s with heap := h' }) :
    wpAny M A (do
      if (← field (.ref e) 1) == .none then unsupported "frame.own-activation:exception-without-traceback"
      setFlight (.ref e) env.frame) Q E s := by
  obtain ⟨k1, k2, k3, oe, vs, T, oT, ts, he, hcls, hd, h1, hnT, hTe, hT, hdT, h3⟩ := hh
  have sz : 3 < ts.size := (Array.getElem?_eq_some_iff.mp h3).1
  refine wpAny_bind (wpAny_field he hd h1 ?_)
  show wpAny _ _ (setFlight (.ref e) env.frame) _ _ _
  unfold setFlight
  refine wpAny_bind (wpAny_field he hd h1 ?_)
  rw [if_pos (show (Value.ref T != Value.none) = true from by simp), hf]
  have oth : ∀ b, b ≠ T → (s.heap.update T (Obj.mapFields (·.setIfInBounds 3 (rawInt L)))).get? b = s.heap.get? b := fun b hb => Heap.get?_update_other _ _ (Ne.symm hb)
  have nof : ∀ b o, s.heap.get? b = some o → (∀ vs, o.data ≠ .fields vs) → b ≠ T := fun b o hb hnf q => by
    rw [q, hT] at hb; cases hb; exact hnf ts hdT
  refine wpAny_setField hT hdT sz (hQ _ ⟨fun b o hbo => (oth b fun q => by rw [q, hnT] at hbo; cases hbo).trans (k1 b o hbo), k2, k3.of_keeps fun b o hb hnf => ⟨o, (oth b (nof b o hb hnf)).trans hb, rfl⟩, ?_⟩ fun b o hb hnf => ⟨o.slots, (oth b (nof b o hb hnf)).trans hb⟩)
  exact ⟨oe, vs, T, _, _, (oth e (Ne.symm hTe)).trans he, hcls, hd, h1, hnT, hTe, Heap.get?_update_self _ hT (Obj.isFreed_of_fields (Obj.data_mapFields hdT _)), Obj.data_mapFields hdT _, by simp [sz]⟩
theorem ds_back (e : Value) (env : Env) : DS (do
      if (← field e 1) == .none then unsupported "frame.own-activation:exception-without-traceback"
      setFlight e env.frame : Sem Unit) := by
  refine .bnd (fun a => ?_) (ds_field e 1)
  split
  · exact .bnd (fun _ => ds_setFlight _ _) (.unsup _)
  · exact ds_setFlight _ _
end
def RaisesS (X : Cx) (E : XK) : Prop := ∀ (pins : List (Addr × Obj)) (σ : St) (H : Hp) (s : Shared) (e C t d h : Addr) (oe : Obj) (ve : Array Value), Inv X pins σ H s → s.heap.get? e = some oe → oe.cls = .ref C → oe.dict = some d → oe.data = .fields ve → ve[1]? = some Value.none → ve[0]? = some (.ref t) → ChO H e oe → H e = none → X.s₀.heap.get? e = none → E (.ref C) (some d) H →
  notedBy (model X.prog X.w) (X.A.mark (some (.ref h))) X.env (fun x s2 => cameBackBy (model X.prog X.w) X.A X.env X.xe x s2) (.ref e) s
theorem raisesS_cx {P : Program} {w : World} {K : PySem.W.Frag} {mg : Str → Option Value} {base : Heap} {N : List Str} {qual : Str} {scope : Scope} {f : Addr} {cd : Value} {A : Around} {outer : List Env} {s : Shared} {H : Hp} {E : XK} :
    RaisesS (cxOf (CXR P w) P w K mg base N qual scope f cd A outer s H E) E := by
  intro pins σ H1 s1 e C t d h oe ve I he hc hdi hd hv1 hv0 cho hne h0 q
  have h0 : s.heap.get? e = none := h0
  have hfr : ∀ b ∈ frs (envOfC qual scope s.heap.objs.size f cd :: outer), H1 b = none := I.stkFree
  have hsub : ∀ b ∈ frs outer, b ∈ frs (envOfC qual scope s.heap.objs.size f cd :: outer) := fun b hb => List.mem_cons_of_mem _ hb
  have noex : ∀ b : Addr, b ∉ (cxOf (CXR P w) P w K mg base N qual scope f cd A outer s H E).ex := fun b z => absurd (show b ∈ ([] : List Addr) from z) (by simp)
  have hB : ∀ {b o}, s1.heap.get? b = some o → b ≠ e → b ∉ frs (envOfC qual scope s.heap.objs.size f cd :: outer) → (PySem.W.hideAll s1.heap (e :: frs (envOfC qual scope s.heap.objs.size f cd :: outer))).get? b = some o := fun z n1 n2 => PySem.W.hideAll_get _ z (fun y => (List.mem_cons.mp y).elim n1 n2)
  have hnew : ∀ b o, s.heap.get? b = some o → b ∉ frs outer → b ∉ frs (envOfC qual scope s.heap.objs.size f cd :: outer) := fun b o z n y => by
    rcases List.mem_cons.mp (show b ∈ s.heap.objs.size :: frs outer from y) with y | y
    · exact absurd (Heap.lt_size z) (by rw [y]; exact Nat.lt_irrefl _)
    · exact n y
  have nee : ∀ b o, s.heap.get? b = some o → b ≠ e := fun b o z y => by rw [y, h0] at z; cases z
  have hBe : (PySem.W.hideAll s1.heap (e :: frs (envOfC qual scope s.heap.objs.size f cd :: outer))).get? e = none := PySem.W.hideAll_none _ List.mem_cons_self
  have stays : (PySem.W.hideAll s1.heap (e :: frs (envOfC qual scope s.heap.objs.size f cd :: outer))).StaysIn s1.heap := fun b o z => PySem.W.of_hideAll _ z
  have funs := funFrames_base (b2 := PySem.W.hideAll s1.heap (e :: frs (envOfC qual scope s.heap.objs.size f cd :: outer))) I.stack fun a ha => PySem.W.hideAll_none _ (List.mem_cons_of_mem _ ha)
  have trkne : ∀ b u, H1 b = some u → b ≠ e := fun b u z y => by rw [y, hne] at z; cases z
  have keepT : ∀ b u, H1 b = some u → b ∉ frs (envOfC qual scope s.heap.objs.size f cd :: outer) := fun b u z y => by rw [hfr b y] at z; cases z
  have st1 := note_firstW (M := model P w) (A := (A.deeper (envOfC qual scope s.heap.objs.size f cd)).mark (some (.ref h))) (E := fun _ _ => False) (s := s1) (a0 := .ref t) (Q := fun _ s' => ∃ h', s' = { s1 with heap := h' } ∧ Heap.HeldW (PySem.W.hideAll s1.heap (e :: frs (envOfC qual scope s.heap.objs.size f cd :: outer))) (envOfC qual scope s.heap.objs.size f cd :: outer) e (.ref C) (.ref t) s.heap.objs.size h' ∧ s1.heap.UpToSlots h')
    I.ok.frames funs rfl he stays hBe hd hv1 hv0 fun h' hL up => ⟨h', rfl, by rw [hc] at hL; exact hL, up⟩
  refine wpAny_mono (wpAny_keep (ds_note _ _) st1) (fun _ s' z => ?_) fun _ _ z => z.1.elim
  obtain ⟨⟨h1, rfl, held1, up1⟩, kh1⟩ := z
  have st2 := back_heldW (M := model P w) (A := A.deeper (envOfC qual scope s.heap.objs.size f cd)) (E := fun _ _ => False) (s := { s1 with heap := h1 }) (env := envOfC qual scope s.heap.objs.size f cd) (Q := fun _ s' => ∃ h', s' = { s1 with heap := h' } ∧ Heap.HeldW (PySem.W.hideAll s1.heap (e :: frs (envOfC qual scope s.heap.objs.size f cd :: outer))) (envOfC qual scope s.heap.objs.size f cd :: outer) e (.ref C) (.ref t) s.heap.objs.size h' ∧ h1.UpToSlots h')
    rfl held1 fun h' hL up => ⟨h', rfl, hL, up⟩
  refine wpAny_mono (wpAny_keep (ds_back _ _) st2) (fun _ s' z => ?_) fun _ _ z => z.1.elim
  obtain ⟨⟨h2', rfl, held2, up2⟩, kh2⟩ := z
  have st3 : wpAny (model P w) (A.deeper (envOfC qual scope s.heap.objs.size f cd)) (leaving (envOfC qual scope s.heap.objs.size f cd) (.ref e)) (fun _ s' => ∃ h', s' = { s1 with heap := h' } ∧ Heap.FlyingW (PySem.W.hideAll s1.heap (e :: frs (envOfC qual scope s.heap.objs.size f cd :: outer))) (envOfC qual scope s.heap.objs.size f cd :: outer) e (.ref C) (.ref t) h' ∧ h2'.UpToSlots h') (fun _ _ => False) { s1 with heap := h2' } := by
    unfold leaving
    refine wpAny_bind (wpAny_noteFrame_againW (s := { s1 with heap := h2' }) rfl held2.2.2.2 ?_)
    exact wpAny_landsW (s := { s1 with heap := h2' }) held2 fun h' fly up => ⟨h', rfl, fly, up⟩
  show wpAny (model P w) (A.deeper (envOfC qual scope s.heap.objs.size f cd)) (leaving (envOfC qual scope s.heap.objs.size f cd) (.ref e)) _ _ _
  refine wpAny_mono (wpAny_keep (ds_leaving _ _) st3) (fun _ s' z => ?_) fun _ _ z => z.1.elim
  obtain ⟨⟨h2, rfl, ⟨k1, _, ⟨_, _, k2⟩, k3⟩, up3⟩, kh3⟩ := z
  have up := UpToSlots.trans up1 (UpToSlots.trans up2 up3)
  have kh := kh1.trans (kh2.trans kh3)
  have old : ∀ b o, s.heap.get? b = some o → H b = none → b ∉ frs outer → (PySem.W.hideAll s1.heap (e :: frs (envOfC qual scope s.heap.objs.size f cd :: outer))).get? b = some o := fun b o z n nf =>
    hB (I.base.keep b o z n nf (noex b)) (nee b o z) (hnew b o z nf)
  have slot : ∀ b o, s.heap.get? b = some o → b ∈ frs outer → ∃ sl, h2.get? b = some { o with slots := sl } := fun b o z hb => by
    obtain ⟨sl, e1⟩ := I.base.slot b o z (I.ok.frf b hb) hb (noex b)
    obtain ⟨_, o2, e2, d2⟩ := I.ok.funs.mem hb
    have e2' : s.heap.get? b = some o2 := e2
    rw [z] at e2'; cases e2'
    obtain ⟨sl2, e3⟩ := up b _ e1 d2
    exact ⟨sl2, e3⟩
  have all : ∀ b o, s.heap.get? b = some o → b ∈ frs outer ∨ ∃ o', (PySem.W.hideAll s1.heap (e :: frs (envOfC qual scope s.heap.objs.size f cd :: outer))).get? b = some o' := fun b o z => by
    by_cases hb : b ∈ frs outer
    · exact .inl hb
    · obtain ⟨o', e1⟩ := I.base.there b o z (noex b)
      exact .inr ⟨o', hB e1 (nee b o z) (hnew b o z hb)⟩
  refine ⟨e, t, C, _, H1, d, rfl, ⟨I.os, I.bare, ⟨k1, hBe, k2, k3⟩, ⟨fun b o z n nf _ => k1 _ _ (old b o z n nf), fun b o z n hb _ => slot b o z hb, I.base.free, fun b o z _ => ?_, I.base.tups, I.base.frzs, I.base.tbls⟩, fun a u z => ?_, old, fun b u z => ⟨fun y => keepT b u z (hsub b y), fun o zo => ?_⟩, all⟩, DictAt.kp ⟨_, he, hdi⟩ kh, Chn.kp ⟨_, he, cho⟩ kh, q⟩
  · rcases all b o z with hb | ⟨o', y⟩
    · obtain ⟨sl, y⟩ := slot b o z hb
      exact ⟨_, y⟩
    · exact ⟨o', k1 _ _ y⟩
  · refine (I.hok a u z).stay (fun b v hb hv => k1 _ _ ?_) (fun _ y => y) fun _ _ y => y
    rcases hb with rfl | hb
    · exact hB hv (trkne _ _ z) (keepT _ _ z)
    · exact hB hv (trkne _ _ hb) (keepT _ _ hb)
  · obtain ⟨o', e1⟩ := (I.hok b u z).there
    have e2 := hB e1 (trkne b u z) (keepT b u z)
    have e3 := k1 _ _ e2
    rw [zo] at e3; cases e3
    exact e2
end L2
namespace L2
open PySem PySem.Spec PyProof.Rows
section
variable {A : Around} {E : Value → Shared → Prop} {s : Shared} {env : Env} {nm q : Str} {C N : Addr} {bs bm : List Value} {hdct : Bool} {sn : List Str} {sub : List Value} {ab : Bool} {col : Option Bool} {dd : Option Addr} {k0 k1 k2 k3 k5 : Option Value} {newId : String}
abbrev fromN (h : Addr) (e : Addr) (hp : Heap) : Heap := ((hp.update e (Obj.mapFields (·.setIfInBounds 3 Value.none))).update e (Obj.mapFields (·.setIfInBounds 4 (.bool true)))).update e (ctx2 (.ref h))
theorem raise_fromN {prog : Program} {w : World} {x c : Sem Value} {h : Addr} {Q : Flow → Shared → Prop} (hbase : bm.contains (.type "BaseException") = true) (hA : A.handled = some (.ref h))
    (hx : wpAny (model prog w) A x (fun v s1 => ∃ e t d oh vs, v = .ref e ∧ s1.heap.get? C = some (excClassObj nm q C N bs bm hdct sn sub ab col dd k0 k1 k2 k3 k5 newId) ∧ s1.heap.get? e = some { excO C t with dict := some d } ∧ s1.heap.get? h = some oh ∧ oh.data = .fields vs ∧ vs[2]? = some Value.none ∧ h ≠ e ∧ e ≠ C ∧
      (∀ {Q' : Value → Shared → Prop} {E' : Value → Shared → Prop}, Q' Value.none s1 → wpAny (model prog w) A c Q' E' s1) ∧ E (.ref e) { s1 with heap := fromN h e s1.heap }) E s) : wpAny (model prog w) A (raiseStmt env (some x) (some c)) Q E s := by
  have isB : (Value.ref C :: bm).contains (.type "BaseException") = true := by rw [List.contains_cons, hbase, Bool.or_true]
  unfold raiseStmt
  refine wpAny_bind (wpAny_mono hx (fun v s1 z => ?_) fun _ _ z => z)
  obtain ⟨e, t, d, oh, vs, rfl, hC, he, hh, hd, h2, ne, neC, hc, hE⟩ := z
  refine wpAny_bind (wpAny_holding (hc ?_))
  refine wpAny_bind (wpAny_pure ?_)
  obtain ⟨hp, g, dr, tk, os⟩ := s1
  repeat first | (with_reducible refine wpAny_loadPart_at he ?_) | (with_reducible refine wpAny_loadPart_at hC ?_) | ((with_reducible refine wpAny_isSubtype_exc hC ?_); rw [isB]) | wp_step
  have he1 := Heap.get?_update_self (Obj.mapFields (·.setIfInBounds 3 Value.none)) he rfl
  have he2 := Heap.get?_update_self (Obj.mapFields (·.setIfInBounds 4 (Value.bool true))) he1 rfl
  exact raise_h hA ((Heap.get?_update_other _ _ (Ne.symm ne)).trans ((Heap.get?_update_other _ _ (Ne.symm ne)).trans hh)) hd h2 ne he2 rfl (by show 2 < 6; decide) hE
end
theorem RoomH.make {k : Nat} {A : Around} (r : RoomH (k + 1) A) (C : Addr) (us : List Value) (kw : List (Str × Value)) : RoomH k (A.under (.builtin "type.__call__" ⟨.ref C :: us, kw⟩)) :=
  ⟨by have := r.dp; rw [make_depth]; omega, by have := r.un; rw [make_units]; omega⟩
section
variable {X : Cx} {C fi h : Addr} {k : Nat} {fd : FuncData} {ps : List Str} {sp : Addr → Sp}
theorem run_makeXH {pins : List (Addr × Obj)} {σ : St} {H : Hp} {s : Shared} {Q : VK} {us : List Value} {vs : List V} (T : XInit X.K C fi) (F : FnOkH X.prog X.w X.K X.mg X.base CX0 k fi fd ps sp) (hA : X.A.handled = some (.ref h)) (hr : RoomH (k + 1) X.A) (hb : Binds X.K fd ps [])
    (I : Inv X pins σ H s) (r : Vals vs us) (hl : us.length ≤ sizeLine) (hsp : ∀ e, H e = none → X.s₀.heap.get? e = none → sp h (.ref e :: vs) (upd H e (.ext (Ex0 C e))) (fun v H2 => v = .non ∧ Q (.ref e) H2) E0) :
    wpAny (model X.prog X.w) X.A (call (.ref C) us) (EP X pins σ Q) X.xe s := by
  obtain ⟨nm, q', N, bs, bm, hdct, sn, sub, ab, col, dd, k0, k1, k2, k3, k5, lk, tl, has, no, ni⟩ := T.ex
  obtain ⟨fo, lf, fc⟩ := T.fn
  have XK := I.kIn
  have tail := (tailQ.ok XK tl).tail
  have FB := PySem.F.excBase_ValueError
  have hn := Heap.Ns.of_isNs (PySem.W.isNs_of_in XK no)
  have hi : s.heap.nsMap N "__init__" = some (.ref fi) := ns_some XK hn ni
  have he : (newH s.heap C us).get? (s.heap.objs.size + 1) = some (excO C s.heap.objs.size) := by
    have := Heap.get?_push_size (s.heap.push (tupO us)) (o := excO C s.heap.objs.size) rfl
    rwa [Heap.size_push] at this
  have I2 : Inv X pins σ (upd H (s.heap.objs.size + 1) (.ext (Ex0 C (s.heap.objs.size + 1)))) { s with heap := newH s.heap C us } :=
    I.laid (t' := s.toks) (fun b o e => Heap.get?_push_of_some _ (Heap.get?_push_of_some _ e)) (Nat.le_succ _) ⟨⟨_, he⟩, ⟨_, he⟩, fun h1 h2 ⟨t1, y⟩ kk => ⟨t1, kk _ y⟩⟩
  have hq := hsp (s.heap.objs.size + 1) (I.hok.fresh (Nat.le_succ _)) (Heap.get?_none_of_le (Nat.le_trans I.sz (Nat.le_succ _)))
  have r2 : Vals (V.ref (s.heap.objs.size + 1) :: vs) (Value.ref (s.heap.objs.size + 1) :: us) := .cons rfl r
  have hlen : (Value.ref (s.heap.objs.size + 1) :: us ++ []).length = ps.length := by
    have e := r2.length
    rw [F.len _ _ _ _ _ hq] at e
    rw [List.append_nil]; exact e.symm
  have bd := hb { s with heap := newH s.heap C us } (Value.ref (s.heap.objs.size + 1) :: us) I2.kIn hlen
  rw [List.append_nil] at bd
  obtain ⟨hp, g, d, t, os⟩ := s
  refine call_exc_own FB (by decide) FB tail (XK _ _ lk) hn hi (XK _ _ lf) fc hl ?_
  refine wpAny_call (codeAny_mono (F.run _ h X.stack _ _ ⟨Value.ref (hp.objs.size + 1) :: us, []⟩ _ _ _ E0 hA (hr.make C us []) (I2.env0.make C us []) bd r2 hq) fun r s' hq' => ?_)
  cases r with
  | error e => exact pass0 pins σ _ _ e s' I2 hq'
  | ok fl =>
    cases fl with
    | ret u =>
      obtain ⟨v, H', I3, rv, ev, q3⟩ := I2.after hq'
      subst ev
      exact ⟨rv, V.ref (hp.objs.size + 1), H', I3, rfl, q3⟩
    | next => exact False.elim hq'
    | brk => exact False.elim hq'
    | cont => exact False.elim hq'
theorem pe_makeXH {x : Str} {e : Expr} {es : List Expr} {t : TA} {p pos : Pos} (T : XInit X.K C fi) (F : FnOkH X.prog X.w X.K X.mg X.base CX0 k fi fd ps sp) (hA : X.A.handled = some (.ref h)) (hr : RoomH (k + 1) X.A) (hb : Binds X.K fd ps []) (hg : Gl X x) (hm : X.mg x = some (.ref C)) (ha : PA X (e :: es) t)
    (hdb : (x == ("__debug__" : Str)) = false := by decide) (he : starEach (e :: es) X.env = (false, eval e X.env) :: starEach es X.env := by rfl) (hpl : (backTo pos (starEach es X.env)).any (·.1) = false := by rfl) :
    PE X (.Call (.Name x p) (e :: es) [] pos) (tMakeX X.s₀.heap C (sp h) t) := by
  intro pins s σ H Q I hq
  refine wpAny_Call_Name_kw (ld_glob I hg hm ?_ hdb)
  refine PySem.W.callWith_K (h₀ := X.base) I.ok.mod.kin T.kp (thn (ha pos pins s σ H _ I hq) fun us s1 ⟨vs, H1, I1, r, hl, q⟩ => ⟨I1.kIn, ?_⟩) he hpl
  exact run_makeXH T F hA hr hb I1 r (by show us.length ≤ _; rw [← r.length, sizeLine_eq]; omega) q
end
end L2
namespace L2
open PySem PySem.Spec PyProof.Rows
def Ex2 (C e d h : Addr) : Heap → Prop := fun hp => ∃ t, hp.get? e = some { cls := .ref C, dict := some d, data := .fields #[.ref t, .none, .ref h, .none, .bool true, .none], slots := #[] }
theorem drp_upd {H : Hp} {a : Addr} {o : HO} : drp (upd H a o) a = drp H a := by
  funext b
  by_cases e : b = a
  · rw [e, drp_same, drp_same]
  · rw [drp_ne e, drp_ne e, upd_ne e]
section
variable {X : Cx}
def tTryS (K : PySem.W.Frag) (h0 : Heap) (C1 C : Addr) (sp : Addr → Sp) (E : XK) (tb : TSx) (t : TA) : TS := fun D σ H => tb D (fun σ' C' H' => C' = C1 ∧ ∀ e1 o1, H' e1 = none → IsN K C1 o1 → tMakeX h0 C (sp e1) t σ' (upd H' e1 (.frz o1 (.own 0))) fun v H2 =>
  ∃ e d, v = .ref e ∧ h0.get? e = none ∧ e ≠ e1 ∧ H2 e = some (.ext (Ex1 C e d)) ∧ H2 e1 = some (.frz o1 (.own 0)) ∧ E (.ref C) (some d) (drp H2 e)) σ H
theorem ps_tryS {x y : Str} {C1 C fi : Addr} {k : Nat} {fd : FuncData} {ps : List Str} {sp : Addr → Sp} {E : XK} {body : List Stmt} {tb : TSx} {t : TA} {a : Expr} {as : List Expr} {np yp cpos cp rpos hpos pos : Pos} {cj : Nat} (hex : X.ex = []) (hst : X.stack = X.env :: X.outer ∧ X.env.frame = some X.env.locals)
    (xc : XCls X.K C1) (hg : Gl X x) (hm : X.mg x = some (.ref C1)) (hb : PSsn X body tb) (hx : RaisesS X E) (T : XInit X.K C fi) (F : FnOkH X.prog X.w X.K X.mg X.base CX0 k fi fd ps sp) (hr : Room (k + 1) X.A) (hbi : Binds X.K fd ps []) (hgy : Gl X y) (hmy : X.mg y = some (.ref C))
    (ha : ∀ e1 E', PA ((X.hand e1).wish E') (a :: as) t) (hdb : (x == ("__debug__" : Str)) = false := by decide) (hdy : (y == ("__debug__" : Str)) = false := by decide) (he : starEach (a :: as) X.env = (false, eval a X.env) :: starEach as X.env := by rfl) (hpl : (backTo cpos (starEach as X.env)).any (·.1) = false := by rfl) :
    PS X (.Try body [.ExceptHandler (some (.Name x np)) none [.Raise (some (.Call (.Name y yp) (a :: as) [] cpos)) (some (.Constant .none cj cp)) rpos] hpos] [] [] pos) (tTryS X.K X.s₀.heap C1 C sp E tb t) := by
  intro pins s σ H D I h
  refine wpAny_Try_except (wpAny_mono (hb pins s σ H D _ I h) (fun f s1 q => ?_) fun e s1 q => ?_)
  · cases f with
    | next => exact wpAny_execs_nil q
    | brk => exact q
    | cont => exact q
    | ret u => exact q
  · obtain ⟨ea, t0, C', B, H0, H', σ', s0, rfl, I0, F0, cn, rfl, q⟩ := q
    obtain ⟨nm, q', N, bs, bm, hdct, sn, sub, ab, col, dd, k0, k1, k2, k3, k5, lk, tl, has, no, ni⟩ := T.ex
    refine land_okN hex hst xc hg hm hdb I0 F0 cn fun s3 kk => codeAny_handlers_suite (kk fun s4 oe I4 I5 n0 ix => ?_)
    have q := q ea oe n0 ix
    refine wpAny_execs_cons ?_
    rw [arm_exec_Raise]
    refine wpAny_bind (wpAny_standAt (raise_fromN (h := ea) (C := C) (nm := nm) (q := q') (N := N) (bs := bs) (bm := bm) (hdct := hdct) (sn := sn) (sub := sub) (ab := ab) (col := col) (dd := dd) (k0 := k0) (k1 := k1) (k2 := k2) (k3 := k3) (k5 := k5) (newId := "ValueError.__new__") has rfl ?_))
    refine wpAny_bind (wpAny_mono (pe_makeXH (X := (X.hand ea).wish _) (h := ea) (p := yp) (pos := cpos) T F rfl (hr.toH _) hbi hgy hmy (ha ea _) hdy he hpl pins s4 σ' _ _ ((I5.hand ea).wish _) q) (fun v s5 z => wpAny_bind (wpAny_standAt (wpAny_pure ?_))) fun _ _ z => z)
    obtain ⟨x', H2, I2, rx, e, d, rfl, hn, ne, h2, h1, q⟩ := z
    obtain rfl : v = Value.ref e := rx
    obtain ⟨⟨t', ht⟩, _, _⟩ := I2.hok _ _ h2
    obtain ⟨vs, v1, v2⟩ := ix.cl
    have hC := I2.kIn _ _ lk
    have neC : e ≠ C := by rintro rfl; rw [ht] at hC; cases congrArg Obj.data (Option.some.inj hC)
    refine ⟨e, t', d, oe, vs, rfl, hC, ht, (I2.hok _ _ h1).1, v1, v2, Ne.symm ne, neC, fun {Q' E'} q' => ?_, ?_⟩
    · exact wpAny_bind (Constant_none (wpAny_bind (wpAny_standAt (wpAny_pure q'))))
    · have IX : Inv X pins σ' H2 s5 := Inv.unhand I0.ok (ea := ea) I2.unwish
      have ob : (fromN ea e s5.heap).get? e = some { cls := .ref C, dict := some d, data := .fields #[.ref t', .none, .ref ea, .none, .bool true, .none], slots := #[] } :=
        Heap.get?_update_self (ctx2 (.ref ea)) (Heap.get?_update_self (Obj.mapFields (·.setIfInBounds 4 (Value.bool true))) (Heap.get?_update_self (Obj.mapFields (·.setIfInBounds 3 Value.none)) ht rfl) rfl) rfl
      have I3 : Inv X pins σ' (upd H2 e (.ext (Ex2 C e d ea))) { s5 with heap := fromN ea e s5.heap } :=
        IX.write (x := e) (e := e) (t' := s5.toks) (by rw [h2]; trivial) (.inl rfl) (fun b w hb z => (Heap.get?_update_other _ _ (Ne.symm hb)).trans ((Heap.get?_update_other _ _ (Ne.symm hb)).trans ((Heap.get?_update_other _ _ (Ne.symm hb)).trans z))) ⟨_, ob⟩ ⟨⟨t', ob⟩, ⟨_, ob⟩, fun h1 h2 ⟨t1, z⟩ kk => ⟨t1, kk _ z⟩⟩
      have I4' := I3.drop upd_same
      rw [drp_upd] at I4'
      exact hx pins σ' (drp H2 e) _ e C t' d ea _ _ I4' ob rfl rfl rfl rfl rfl ⟨_, rfl, .inr ⟨ea, oe, vs, rfl, Ne.symm ne, by rw [drp_ne (Ne.symm ne)]; exact h1, v1, v2⟩⟩ drp_same hn q
end
end L2
namespace L2
open PySem PySem.Spec PyProof.Rows
theorem mt_insertAt {X : Cx} : MtM X "list.insert" (fun x vs H Q => ∃ l xs y, ∃ k : Nat, x = .ref l ∧ vs = [.int (k : Int), y] ∧ k ≤ xs.length ∧ xs.length < 1000 ∧ H l = some (.lst xs) ∧ Q .non (upd H l (.lst (xs.take k ++ y :: xs.drop k)))) := by
  intro pins s σ H x vs v us Q I rx rv h
  obtain ⟨l, xs, y, k, rfl, rfl, hk, hz, hH, q⟩ := h
  cases rx
  obtain ⟨u0, u, rfl, ⟨t, rfl⟩, ru⟩ := vals2 rv
  obtain ⟨z, its, n, r, hl, e⟩ := I.lstM hH
  have hlen := r.length
  have fits : ¬ (!Builtin.List.listFitsIndex (k : Int)) = true := by
    have : Builtin.List.listFitsIndex (k : Int) = true := by
      unfold Builtin.List.listFitsIndex
      rw [Bool.and_eq_true]
      exact ⟨decide_eq_true (Int.le_trans (by decide : (-(2 ^ 63) : Int) ≤ 0) (by omega)), decide_eq_true (Int.lt_of_lt_of_le (show (k : Int) < 1000 by omega) (by decide : (1000 : Int) ≤ 2 ^ 63))⟩
    rw [this]; decide
  have hsz : its.toArray.size ≤ sizeLine := by rw [List.size_toArray, sizeLine_eq]; omega
  generalize hx : ((k : Nat) : Int) = xi at fits
  have g := PySem.AutoListH.list_insert_list_int_val_1 l its.toArray n xi t u fits hsz
  refine call_meets F.slot_list_insert ⟨_, e, rfl⟩ F.entry_list_insert (F.args_list_insert_3 _ _ _) g ⟨e, ?_⟩
  refine ⟨.non, _, I.lset (its' := its.take k ++ u :: its.drop k) hH e ?_ ?_ ?_, rfl, q⟩
  · have e1 : (if xi < 0 then (xi + ((its.toArray.size : Nat) : Int)).toNat else min xi.toNat its.toArray.size) = k := by
      rw [if_neg (by omega), ← hx, Int.toNat_natCast, List.size_toArray]; omega
    show (have k' := if xi < 0 then (xi + ((its.toArray.size : Nat) : Int)).toNat else min xi.toNat its.toArray.size; (its.toArray.extract 0 k').push u ++ its.toArray.extract k') = _
    rw [e1]
    simp
    exact List.take_of_length_le (by rw [List.length_drop]; omega)
  · exact pr_app (Vals.take k r) (.cons ru (Vals.drop k r))
  · rw [List.length_append, List.length_take, List.length_cons, List.length_drop, sizeLine_eq]; omega
end L2
namespace L2
open PySem PySem.Spec PyProof.Rows
def HdOk (h : Heap) (a : Addr) : Prop := ∃ oh vs, h.get? a = some oh ∧ oh.data = .fields vs ∧ (vs[2]? = some Value.none ∨ ∃ b ob vb, b ≠ a ∧ vs[2]? = some (.ref b) ∧ h.get? b = some ob ∧ ob.data = .fields vb ∧ vb[2]? = some Value.none)
def CalmH (A : Around) (h : Heap) : Prop := A.handled = none ∨ ∃ a, A.handled = some (.ref a) ∧ HdOk h a
theorem HdOk.keeps {h h' : Heap} {a : Addr} (x : HdOk h a) (k : ∀ b o vs, o.data = .fields vs → (b = a ∨ (∃ y, vs[2]? = some (y : Value))) → h.get? b = some o → h'.get? b = some o) : HdOk h' a := by
  obtain ⟨oh, vs, e1, e2, e3⟩ := x
  refine ⟨oh, vs, k _ _ _ e2 (.inl rfl) e1, e2, ?_⟩
  rcases e3 with e3 | ⟨b, ob, vb, n, e3, e4, e5, e6⟩
  · exact .inl e3
  · exact .inr ⟨b, ob, vb, n, e3, k _ _ _ e5 (.inr ⟨_, e6⟩) e4, e5, e6⟩
theorem HdOk.all {h h' : Heap} {a : Addr} (x : HdOk h a) (k : ∀ b o, h.get? b = some o → h'.get? b = some o) : HdOk h' a := x.keeps fun b o _ _ _ e => k b o e
theorem CalmH.all {A : Around} {h h' : Heap} (x : CalmH A h) (k : ∀ b o, h.get? b = some o → h'.get? b = some o) : CalmH A h' := by
  rcases x with x | ⟨a, x, y⟩
  · exact .inl x
  · exact .inr ⟨a, x, y.all k⟩
section
variable {prog : Program} {w : World} {A : Around} {E : Value → Shared → Prop} {s : Shared}
theorem raise_q {α : Type} {e : Addr} {oe : Obj} {ve : Array Value} {Q : α → Shared → Prop} {h0 : Heap} (c : CalmH A h0) (k : ∀ b o, h0.get? b = some o → s.heap.get? b = some o ∧ b ≠ e) (he : s.heap.get? e = some oe) (hf : oe.data = .fields ve) (hz : 2 < ve.size)
    (hE : ∀ h', (∀ b o, b ≠ e → s.heap.get? b = some o → h'.get? b = some o) → (∃ o', h'.get? e = some o' ∧ o'.cls = oe.cls) → E (.ref e) { s with heap := h' }) : wpAny (model prog w) A (raiseNew (.ref e) : Sem α) Q E s := by
  rcases c with c | ⟨h, hA, oh, vs, e1, e2, e3⟩
  · exact wpAny_raiseNew_none c (hE s.heap (fun _ _ _ z => z) ⟨oe, he, rfl⟩)
  obtain ⟨hh, ne⟩ := k _ _ e1
  unfold raiseNew
  refine wpAny_bind (wpAny_handled ?_)
  rw [hA]
  have nb : (Value.ref h != Value.ref e) = true := by simpa using ne
  show wpAny _ _ (if (Value.ref h != Value.ref e) = true then _ else _) _ _ _
  rw [if_pos nb]
  have last : wpAny (model prog w) A (setField (.ref e) 2 (.ref h) >>= fun _ => (throw (.ref e) : Sem α)) Q E s := by
    refine wpAny_bind (wpAny_setField (i := 2) he hf hz ?_)
    refine wpAny_throw (hE _ (fun b o n z => (Heap.get?_update_other _ _ (Ne.symm n)).trans z) ⟨_, Heap.get?_update_self _ he (Obj.isFreed_of_fields (Obj.data_mapFields hf _)), Obj.cls_mapFields ..⟩)
  rcases e3 with e3 | ⟨b, ob, vb, nba, e3, e4, e5, e6⟩
  · refine wpAny_bind (wpAny_holding (wpAny_runValue (codeAny_builtin entry_unchain ?_)))
    show wpAny _ _ (field (.ref h) 2 >>= _) _ _ _
    refine wpAny_bind (wpAny_field hh e2 e3 ?_)
    exact wpAny_pure last
  · obtain ⟨hb, nbe⟩ := k _ _ e4
    refine wpAny_bind (wpAny_holding (wpAny_runValue (codeAny_builtin entry_unchain ?_)))
    show wpAny _ _ (field (.ref h) 2 >>= _) _ _ _
    refine wpAny_bind (wpAny_field hh e2 e3 ?_)
    show wpAny _ _ (if (Value.ref b == Value.none) = true then _ else _) _ _ _
    rw [if_neg (by simp)]
    show wpAny _ _ (if (Value.ref b == Value.ref e) = true then _ else _) _ _ _
    rw [if_neg (by simpa using nbe)]
    show wpAny _ _ (if (Value.ref b == Value.ref h) = true then _ else _) _ _ _
    rw [if_neg (by simpa using nba)]
    refine wpAny_pure ⟨by first | rfl | exact plainId_quiet (by decide +kernel) _, codeAny_builtin entry_unchain ?_⟩
    show wpAny _ _ (field (.ref b) 2 >>= _) _ _ _
    refine wpAny_bind (wpAny_field hb e5 e6 ?_)
    exact wpAny_pure last
theorem stop_q {α : Type} {Q : α → Shared → Prop} (c : CalmH A s.heap) (hE : ∀ h' e, (∀ b o, s.heap.get? b = some o → h'.get? b = some o) → (∃ o, h'.get? e = some o ∧ o.cls = .type "StopIteration") → E (.ref e) { s with heap := h' }) :
    wpAny (model prog w) A (newExc (.type "StopIteration") [] >>= fun e => (raiseNew e : Sem α)) Q E s := by
  refine wpAny_bind ?_
  simp only [newExc, newTuple]
  refine wpAny_bind (wpAny_newObj_type ?_ (by size_fits))
  refine wpAny_bind (m := firstArgMember _ _) (wpAny_of_eq (a := Value.none) (by first | rfl | (simp only [firstArgMember]; rfl)) ?_)
  refine wpAny_newObj_type ?_ (by size_fits)
  refine raise_q (h0 := s.heap) c (fun b o z => ⟨Heap.get?_push_of_some _ (Heap.get?_push_of_some _ z), fun y => ?_⟩) (Heap.get?_push_size _ rfl) rfl (by show 2 < 6; decide) fun h' k ⟨o', e1, e2⟩ => ?_
  · have hlt := Heap.lt_size z
    rw [y, Heap.size_push] at hlt
    exact Nat.lt_irrefl _ (Nat.lt_of_succ_lt hlt)
  · refine hE h' _ (fun b o z => k b o (fun y => ?_) (Heap.get?_push_of_some _ (Heap.get?_push_of_some _ z))) ⟨o', e1, e2⟩
    have hlt := Heap.lt_size z
    rw [y, Heap.size_push] at hlt
    exact Nat.lt_irrefl _ (Nat.lt_of_succ_lt hlt)
theorem list_endQ {it l : Addr} {i : Nat} {items : Array Value} {Q : Option Value → Shared → Prop} (c : CalmH A s.heap) (nt : ∀ h', Heap.SameBut it s.heap h' → CalmH A h') (hit : s.heap.IsListIter it l i) (hl : s.heap.IsList l items) (hx : items[i]? = none)
    (hQ : ∀ h', Heap.ExtBut it s.heap h' → Q none { s with heap := h' }) : wpAny (model prog w) A (pyNext (.ref it)) Q E s := by
  obtain ⟨o, ho, hc, hd⟩ := id hit
  obtain ⟨ol, hol, _, nl, hdl⟩ := hl
  unfold pyNext
  refine wpAny_bind (wpAny_attempt (wpAny_callSpecial?_slot (name := Str.ofString "__next__") hit.typeIs slot_listiter_next (wpAny_call_entry slot_listiter_next hit.typeIs entry_listiter_next ?_ (args_listiter_next _))))
  show wpAny _ _ (field (.ref it) 0 >>= _) _ _ s; refine wpAny_bind (wpAny_field ho hd (x := .ref l) rfl ?_)
  rw [if_neg (show ¬ ((Value.ref l == Value.none) = true) from Bool.false_ne_true)]; refine wpAny_bind (wpAny_field ho hd (x := .int i 0) rfl ?_)
  show wpAny _ _ (seqItems? (.ref l) >>= _) _ _ s; refine wpAny_bind (wpAny_seqItems hol hdl ?_)
  simp only [Int.toNat_natCast, hx]
  refine wpAny_bind (wpAny_rule (wpAny_bind (wpAny_setField ho hd (by simp) ?_)))
  refine stop_q (nt _ (Heap.SameBut.update ..)) fun h' e k ⟨oe, e1, e2⟩ => ?_
  refine wpAny_bind (wpAny_isInstance (T := "StopIteration") (b := true) ⟨_, e1, e2⟩ isSubtype_stop ?_)
  exact wpAny_pure (hQ _ fun b o n z => k b o ((Heap.SameBut.update ..).extBut b o n z))
end
end L2
namespace L2
open PySem PySem.Spec PyProof.Rows
def Mild (A : Around) (H : Hp) : Prop := A.handled = none ∨ ∃ a oh vs, A.handled = some (.ref a) ∧ H a = some (.frz oh (.own 0)) ∧ oh.data = .fields vs ∧ (vs[2]? = some Value.none ∨ ∃ b ob vb, b ≠ a ∧ vs[2]? = some (.ref b) ∧ H b = some (.frz ob (.own 0)) ∧ ob.data = .fields vb ∧ vb[2]? = some Value.none)
theorem Mild.up {A : Around} {H H' : Hp} (x : Mild A H) (k : ∀ b o, H b = some (.frz o (.own 0)) → H' b = some (.frz o (.own 0))) : Mild A H' := by
  rcases x with x | ⟨a, oh, vs, e1, e2, e3, e4⟩
  · exact .inl x
  · refine .inr ⟨a, oh, vs, e1, k _ _ e2, e3, ?_⟩
    rcases e4 with e4 | ⟨b, ob, vb, n, e4, e5, e6, e7⟩
    · exact .inl e4
    · exact .inr ⟨b, ob, vb, n, e4, k _ _ e5, e6, e7⟩
theorem Mild.calm {P : Program} {w : World} {A : Around} {H : Hp} {h h' : Heap} (x : Mild A H) (ok : HOk P w H h) (k : ∀ b o u, H b = some u → h.get? b = some o → h'.get? b = some o) : CalmH A h' := by
  rcases x with x | ⟨a, oh, vs, e1, e2, e3, e4⟩
  · exact .inl x
  · refine .inr ⟨a, e1, oh, vs, k _ _ _ e2 (ok _ _ e2).1, e3, ?_⟩
    rcases e4 with e4 | ⟨b, ob, vb, n, e4, e5, e6, e7⟩
    · exact .inl e4
    · exact .inr ⟨b, ob, vb, n, e4, k _ _ _ e5 (ok _ _ e5).1, e6, e7⟩
structure RoomQ (k : Nat) (A : Around) (H : Hp) : Prop where
  md : Mild A H
  dp : A.depth + 3 * k + 5 < recursionLimit
  un : A.units + 16 * k + 200 < cLine
theorem RoomQ.mono {j k : Nat} {A : Around} {H : Hp} (r : RoomQ k A H) (h : j ≤ k) : RoomQ j A H := ⟨r.md, by have := r.dp; omega, by have := r.un; omega⟩
theorem RoomQ.up {k : Nat} {A : Around} {H H' : Hp} (r : RoomQ k A H) (h : ∀ b o, H b = some (.frz o (.own 0)) → H' b = some (.frz o (.own 0))) : RoomQ k A H' := ⟨r.md.up h, r.dp, r.un⟩
theorem RoomQ.deeper {k : Nat} {A : Around} {H : Hp} (r : RoomQ (k + 1) A H) (env : Env) : RoomQ k (A.deeper env) H :=
  ⟨r.md, by have := r.dp; show A.depth + 1 + 3 * k + 5 < _; omega, by have := r.un; show A.units + 3 + 16 * k + 200 < _; omega⟩
theorem RoomQ.depth {k : Nat} {A : Around} {H : Hp} (r : RoomQ k A H) : A.depth < recursionLimit := by have := r.dp; omega
theorem Room.toQ {k : Nat} {A : Around} (r : Room k A) (H : Hp) : RoomQ k A H := ⟨.inl r.hd, r.dp, r.un⟩
theorem hu_ofQ {A : Around} {k : Nat} {H : Hp} (hr : RoomQ k A H) : A.units + 1 < cLine := by have := hr.un; omega
structure FnOkQ (P : Program) (w : World) (K : PySem.W.Frag) (mg : Str → Option Value) (base : Heap) (k : Nat) (f : Addr) (fd : FuncData) (ps : List Str) (sp : Sp) : Prop where
  len : ∀ vs H Q E, sp vs H Q E → vs.length = ps.length
  run : ∀ (A : Around) (outer : List Env) (s : Shared) (H : Hp) (args : Args) (us : List Value) (vs : List V) (Q : VK) (E : XK), RoomQ k A H → Env0 P w K mg base A outer s H → BindsTo s fd args (ps.zip us) → Vals vs us → sp vs H Q E →
    codeAny (model P w) A (.call (.ref f) args) (CR CX0 outer P w H s Q E) s
def CallOkQ (P : Program) (w : World) (K : PySem.W.Frag) (mg : Str → Option Value) (base : Heap) (k : Nat) (sp : Addr → Sp) : Prop :=
  ∀ (f : Addr) (A : Around) (outer : List Env) (s : Shared) (H : Hp) (us : List Value) (vs : List V) (Q : VK) (E : XK), RoomQ k A H → Env0 P w K mg base A outer s H → Vals vs us → sp f vs H Q E →
    codeAny (model P w) A (.call (.ref f) ⟨us, []⟩) (CR CX0 outer P w H s Q E) s
section
variable {P : Program} {w : World} {K : PySem.W.Frag} {mg : Str → Option Value} {base : Heap} {C : Addr}
theorem FnOkQ.mono {j k : Nat} {f : Addr} {fd : FuncData} {ps : List Str} {sp : Sp} (F : FnOkQ P w K mg base j f fd ps sp) (h : j ≤ k) : FnOkQ P w K mg base k f fd ps sp :=
  ⟨F.len, fun A outer s H args us vs Q E hr => F.run A outer s H args us vs Q E (hr.mono h)⟩
theorem FnOkQ.toF {k : Nat} {f : Addr} {fd : FuncData} {ps : List Str} {sp : Sp} (F : FnOkQ P w K mg base k f fd ps sp) : FnOk P w K mg base CX0 k f fd ps sp :=
  ⟨F.len, fun A outer s H args us vs Q E hr => F.run A outer s H args us vs Q E (hr.toQ H)⟩
theorem FnOkQ.called {k : Nat} {f : Addr} {fd : FuncData} {ps : List Str} {sp : Sp} (F : FnOkQ P w K mg base k f fd ps sp) (hb : Binds K fd ps [])
    {A : Around} {outer : List Env} {s : Shared} {H : Hp} {us : List Value} {vs : List V} {Q : VK} {E : XK} (hr : RoomQ k A H) (e0 : Env0 P w K mg base A outer s H) (r : Vals vs us) (h : sp vs H Q E) :
    codeAny (model P w) A (.call (.ref f) ⟨us, []⟩) (CR CX0 outer P w H s Q E) s := by
  have KX : K.In s.heap := e0.mod.kin.keeps fun b o e => (e0.bs b o e).1
  have hl : (us ++ []).length = ps.length := by rw [List.append_nil, ← r.length]; exact F.len _ _ _ _ h
  have b := hb s us KX hl
  rw [List.append_nil] at b
  exact F.run A outer s H ⟨us, []⟩ us vs Q E hr e0 b r h
def FnQ (P : Program) (w : World) (K : PySem.W.Frag) (mg : Str → Option Value) (base : Heap) (k : Nat) (x : Str) (ps : List Str) (sp : Sp) : Prop :=
  ∃ f fd, mg x = some (.ref f) ∧ PySem.W.keepIn K (.ref f) = true ∧ Binds K fd ps [] ∧ FnOkQ P w K mg base k f fd ps sp ∧ ∃ oc od sl, K.lookup f = some ⟨oc, od, .func fd, sl⟩
def MtQ (P : Program) (w : World) (K : PySem.W.Frag) (mg : Str → Option Value) (base : Heap) (C : Addr) (k : Nat) (m : Str) (ps : List Str) (sp : Sp) : Prop := ∃ f fd, Meth K C m f ∧ Binds K fd ps [] ∧ FnOkQ P w K mg base k f fd ps sp
theorem FnQ.mono {j k : Nat} {x : Str} {ps : List Str} {sp : Sp} (F : FnQ P w K mg base j x ps sp) (h : j ≤ k) : FnQ P w K mg base k x ps sp := by
  obtain ⟨f, fd, h1, h2, h3, h4, h5⟩ := F
  exact ⟨f, fd, h1, h2, h3, h4.mono h, h5⟩
theorem FnQ.toP {k : Nat} {x : Str} {ps : List Str} {sp : Sp} (F : FnQ P w K mg base k x ps sp) : FnP P w K mg base k x ps sp := by
  obtain ⟨f, fd, h1, h2, h3, h4, h5⟩ := F
  exact ⟨f, fd, h1, h2, h3, h4.toF, h5⟩
theorem fn_ofQ {k : Nat} {f : Addr} {name qual : Str} {params : Arguments} {body : List Stmt} {scope : Scope} {dV kV doc pm cdv ct oc : Value} {an od : Option Addr}
    {osl : Array (Option Value)} {N ps : List Str} {sp : Sp} (lk : K.lookup f = some ⟨oc, od, .func (PySem.W.fnOf name qual params body scope dV kV doc pm an cdv ct), osl⟩) (hcd : PySem.W.codeIn K cdv qual = true) (S : FnScope N ps scope)
    (len : ∀ vs H Q E, sp vs H Q E → vs.length = ps.length)
    (hbody : ∀ (A : Around) (outer : List Env) (s : Shared) (H : Hp) (vs : List V) (Q : VK) (E : XK), RoomQ k (A.deeper (envOfC qual scope s.heap.objs.size f cdv)) H → sp vs H Q E →
      ∃ t, PSs (cxOf CX0 P w K mg base N qual scope f cdv A outer s H E).still.nox body t ∧ t { nx := fun _ H' => Q .non H', rt := Q } (start N vs) H) :
    FnOkQ P w K mg base (k + 1) f (PySem.W.fnOf name qual params body scope dV kV doc pm an cdv ct) ps sp := by
  refine ⟨len, fun A outer s H args us vs Q E hr e0 hb r hsp => ?_⟩
  have hl := len _ _ _ _ hsp
  have KX : K.In s.heap := e0.mod.kin.keeps fun b o e => (e0.bs b o e).1
  have lim : s.heap.NoLimit := e0.mod.nolimit.keeps fun b o e => (e0.bs b o e).1
  have hkind : ∀ y ∈ ps.zip us, scope.names.lookup y.1 = some .local ∨ (scope.names.lookup y.1 = some .cell ∧ ((cellsFrom (s.heap.objs.size + 1) scope.names []).lookup y.1).isSome = true) := fun ⟨n, v⟩ hy => by
    rcases S.par n (List.of_mem_zip hy).1 with q | q
    · exact .inl q
    · exact .inr ⟨q, PySem.W.cellsFrom_some _ _ _ (.inl q)⟩
  refine codeAny_call_function hr.depth (KX _ _ lk) rfl S.co S.gen rfl (PySem.W.codeRec_of KX hcd) (hb _ _ _ _ ?_)
  refine wpAny_newFunctionEnv_cells S.kind hkind fun env he s1 x => ?_
  subst he
  refine ⟨lim.keeps x.toInCall.keep, codeAny_func ?_⟩
  obtain ⟨t, ht, hq⟩ := hbody A outer s H vs Q E (hr.deeper _) hsp
  have I : Inv (cxOf CX0 P w K mg base N qual scope f cdv A outer s H E).still [] (start N vs) H s1 := inv_startH S e0 hl r x
  refine wpAny_mono (ht [] s1 (start N vs) H _ (I.wish _) hq) (fun fl s' hs => ?_) fun e s' hs => False.elim hs
  have fin : ∀ {σ' : St} {H' : Hp} {v : V} {u : Value}, Inv (cxOf CX0 P w K mg base N qual scope f cdv A outer s H E).still.nox [] σ' H' s' → RelV v u → Q v H' → CE outer P w H s Q u s' :=
    fun {σ' H' v u} J rv q => ⟨v, H', J.os, J.bare, J.base, J.hok, rv, q⟩
  cases fl with
  | ret u =>
    obtain ⟨v, σ', H', J, rv, q⟩ := hs
    exact fin J rv q
  | next =>
    obtain ⟨σ', H', J, q⟩ := hs
    exact fin (v := V.non) (u := Value.none) J rfl q
  | brk =>
    obtain ⟨_, _, _, q⟩ := hs
    exact False.elim q
  | cont =>
    obtain ⟨_, _, _, q⟩ := hs
    exact False.elim q
theorem FunAt.okQ {x : Str} {st : Stmt} {N ps : List Str} {k : Nat} {sp : Sp} (F : FunAt K mg x st) (S : FnScope N ps (defScope st))
    (hb : ∀ (kV doc pm : Value) (an : Option Addr) (cdv ct : Value) (us : List Value), us.length = ps.length → bindArgs (PySem.W.fnOf x x (defArgs st) (defBody st) (defScope st) .none kV doc pm an cdv ct) ⟨us, []⟩ = pure (ps.zip us))
    (len : ∀ vs H Q E, sp vs H Q E → vs.length = ps.length)
    (hbody : ∀ (f : Addr) (cdv : Value) (A : Around) (outer : List Env) (s : Shared) (H : Hp) (vs : List V) (Q : VK) (E : XK), RoomQ k (A.deeper (envOfC x (defScope st) s.heap.objs.size f cdv)) H → sp vs H Q E →
      ∃ t, PSs (cxOf CX0 P w K mg base N x (defScope st) f cdv A outer s H E).still.nox (defBody st) t ∧ t { nx := fun _ H' => Q .non H', rt := Q } (start N vs) H) : FnQ P w K mg base (k + 1) x ps sp := by
  obtain ⟨f, fd, h1, F⟩ := F
  refine ⟨f, fd, h1, F.kp, F.binds hb, ?_⟩
  obtain ⟨oc, od, kV, doc, pm, an, cdv, ct, osl, rfl, lk, hcd⟩ := F.ex
  exact ⟨fn_ofQ lk hcd S len fun A outer s H vs Q E hr hsp => hbody f cdv A outer s H vs Q E hr hsp, _, _, _, lk⟩
theorem MethAt.okQ {m qual : Str} {st : Stmt} {N ps : List Str} {k : Nat} {sp : Sp} (F : MethAt K C m qual st) (S : FnScope N ps (defScope st))
    (hb : ∀ (kV doc pm : Value) (an : Option Addr) (cdv ct : Value) (us : List Value), us.length = ps.length → bindArgs (PySem.W.fnOf m qual (defArgs st) (defBody st) (defScope st) .none kV doc pm an cdv ct) ⟨us, []⟩ = pure (ps.zip us))
    (len : ∀ vs H Q E, sp vs H Q E → vs.length = ps.length)
    (hbody : ∀ (f : Addr) (cdv : Value) (A : Around) (outer : List Env) (s : Shared) (H : Hp) (vs : List V) (Q : VK) (E : XK), RoomQ k (A.deeper (envOfC qual (defScope st) s.heap.objs.size f cdv)) H → sp vs H Q E →
      ∃ t, PSs (cxOf CX0 P w K mg base N qual (defScope st) f cdv A outer s H E).still.nox (defBody st) t ∧ t { nx := fun _ H' => Q .non H', rt := Q } (start N vs) H) : MtQ P w K mg base C (k + 1) m ps sp := by
  obtain ⟨f, fd, h1, F⟩ := F
  refine ⟨f, fd, h1, F.binds hb, ?_⟩
  obtain ⟨oc, od, kV, doc, pm, an, cdv, ct, osl, rfl, lk, hcd⟩ := F.ex
  exact fn_ofQ lk hcd S len fun A outer s H vs Q E hr hsp => hbody f cdv A outer s H vs Q E hr hsp
theorem clos_runQ {k : Nat} {f c c' : Addr} {name qual y : Str} {params : Arguments} {body : List Stmt} {scope : Scope} {doc pm ct oc : Value} {od : Option Addr} {osl : Array (Option Value)} {ps : List Str} {ob co : Obj} {cvs : Array Value} {ctk : Tok} {cu : Value} {cv : V}
    {A : Around} {outer : List Env} {s : Shared} {H : Hp} {us : List Value} {vs : List V} {Q : VK} {E : XK}
    (S : ClScope ps y scope) (hr : RoomQ (k + 1) A H) (e0 : Env0 P w K mg base A outer s H) (r : Vals vs us) (hl : vs.length = ps.length)
    (hf : H f = some (.frz ⟨oc, od, .func (PySem.W.fnX name qual params body scope [(y, c)] .none .none doc pm none (.ref c') ct), osl⟩ (.own 0)))
    (hc' : H c' = some (.frz ob (.own 0))) (hob : ob.data = .fields cvs) (hcq : cvs[1]? = some (.str qual ctk))
    (hc : H c = some (.frz co (.own 0))) (hco : co.data = .cell (some cu)) (rc : RelV cv cu)
    (hbind : ∀ us : List Value, us.length = ps.length → bindArgs (PySem.W.fnX name qual params body scope [(y, c)] .none .none doc pm none (.ref c') ct) ⟨us, []⟩ = pure (ps.zip us))
    (hbody : RoomQ k (A.deeper (PySem.W.envX qual scope s.heap.objs.size f (.ref c') [(y, c)])) H →
      ∃ t, PSs (cxCl P w K mg base (ps ++ [y]) qual scope f (.ref c') [(y, c)] A outer s H).still body t ∧ t { nx := fun _ H' => Q .non H', rt := Q } (vs.map some ++ [some cv]) H) :
    codeAny (model P w) A (.call (.ref f) ⟨us, []⟩) (CR CX0 outer P w H s Q E) s := by
  have lim : s.heap.NoLimit := e0.mod.nolimit.keeps fun b o e => (e0.bs b o e).1
  have of := (e0.hok _ _ hf).1
  have oc' := (e0.hok _ _ hc').1
  have occ := (e0.hok _ _ hc).1
  have hul : us.length = ps.length := by rw [← r.length]; exact hl
  refine codeAny_call_function hr.depth of rfl S.co S.gen rfl ⟨c', ob, cvs, ctk, rfl, oc', hob, hcq⟩ (BindsTo.of_eq (hbind us hul) _ _ _ _ ?_)
  refine wpAny_newFunctionEnv S.nocell (fun x hx => S.par _ (List.of_mem_zip (show (x.1, x.2) ∈ ps.zip us from hx)).1) (fun h1 hns hsb => ?_) S.kind
  have hk : ∀ b o, s.heap.get? b = some o → h1.get? b = some o := fun b o e => hsb.extBut b o (Nat.ne_of_lt (Heap.lt_size e)) (Heap.get?_push_of_some _ e)
  refine ⟨lim.keeps hk, codeAny_func ?_⟩
  obtain ⟨t, ht, hq⟩ := hbody (hr.deeper _)
  have noA : ∀ b : Addr, b ∉ (cxCl P w K mg base (ps ++ [y]) qual scope f (.ref c') [(y, c)] A outer s H).still.ex := fun b z => absurd (show b ∈ ([] : List Addr) from z) (by simp)
  have lk : ∀ x a, ([(y, c)] : List (Str × Addr)).lookup x = some a → x = y ∧ a = c := fun x a e => by
    rw [List.lookup_cons] at e
    cases hb : x == y with
    | true => rw [hb] at e; cases e; exact ⟨eq_of_beq hb, rfl⟩
    | false => rw [hb] at e; cases e
  have ly : ([(y, c)] : List (Str × Addr)).lookup y = some c := by simp [List.lookup_cons]
  have I : Inv (cxCl P w K mg base (ps ++ [y]) qual scope f (.ref c') [(y, c)] A outer s H).still [] (vs.map some ++ [some cv]) H { s with heap := h1, toks := s.toks + (ps.zip us).length } := by
    refine ⟨⟨e0.mod, S.kind, rfl, rfl, Nat.le_refl _, fun x z a h1 h2 => ?_, fun x hx => ?_, fun x a q _ => ?_, (fun z => by cases z), Around.frames_deeper e0.frames, .inr ⟨rfl, rfl⟩, fun b z => absurd z (noA b), e0.bs, e0.bsz, fun b _ _ => noA b, fun b z => absurd z (noA b), e0.funs, e0.frf⟩,
      rfl, e0.bare, Un.kept hk, ⟨_, hns, fun i x v h1 h2 h3 => ?_⟩, fun x a h => ?_, e0.hok.fresh (Nat.le_refl _), fun x a h => ?_, fun p hp => absurd (show p ∈ ([] : List (Addr × Obj)) from hp) (by simp), e0.hok.kept hk, ?_⟩
    · rw [(lk x a h1).1, (lk z a h2).1]
    · have hx : scope.names.lookup x = some .cell ∨ scope.names.lookup x = some .free := hx
      rcases hx with hx | hx
      · exact absurd rfl (S.nocell _ (PySem.mem_of_lookup hx))
      · rw [S.free x hx]; exact ⟨c, ly⟩
    · exact absurd (show false = true from q) (by simp)
    · by_cases hi : i < ps.length
      · have h1' : ps[i]? = some x := by
          have h1 : (ps ++ [y])[i]? = some x := h1
          rwa [List.getElem?_append_left hi] at h1
        have h2' : vs[i]? = some v := by
          rw [List.getElem?_append_left (by simp; omega), List.getElem?_map] at h2
          cases e : vs[i]? with
          | none => rw [e] at h2; cases h2
          | some a => rw [e] at h2; cases h2; rfl
        obtain ⟨u, hu, rv⟩ := r.get h2'
        refine ⟨u, rv, .inl ⟨S.par x (List.mem_of_getElem? h1'), ?_⟩⟩
        have ndP : ps.Nodup := S.nd.sublist (List.sublist_append_left _ _)
        exact lookup_rev_zip ndP h1' hu hul.symm
      · have h1 : (ps ++ [y])[i]? = some x := h1
        rw [List.getElem?_append_right (by omega)] at h1
        rw [List.getElem?_append_right (by simp; omega)] at h2
        have e1 : i - ps.length = 0 := by
          cases q : i - ps.length with
          | zero => rfl
          | succ j => rw [q] at h1; simp at h1
        have e2 : i - (vs.map some).length = 0 := by simp; omega
        rw [e1] at h1; rw [e2] at h2
        simp at h1 h2
        subst h1 h2
        exact ⟨cu, rc, .inr ⟨.inr S.isfree, c, ly, co, hk _ _ occ, hco⟩⟩
    · rw [(lk x a h).2]; exact ⟨_, co, hk _ _ occ, hco⟩
    · rw [(lk x a h).2]; exact .inr ⟨rfl, co, hc⟩
    · show _ = (ps ++ [y]).length
      simp; exact hl
  refine wpAny_mono (ht [] _ _ H _ I hq) (fun fl s' hs => ?_) fun e s' hs => False.elim hs
  have fin : ∀ {σ' : St} {H' : Hp} {v : V} {u : Value}, Inv (cxCl P w K mg base (ps ++ [y]) qual scope f (.ref c') [(y, c)] A outer s H).still [] σ' H' s' → RelV v u → Q v H' → CE outer P w H s Q u s' :=
    fun {σ' H' v u} J rv q => ⟨v, H', J.os, J.bare, J.base, J.hok, rv, q⟩
  cases fl with
  | ret u =>
    obtain ⟨v, σ', H', J, rv, q⟩ := hs
    exact fin J rv q
  | next =>
    obtain ⟨σ', H', J, q⟩ := hs
    exact fin (v := V.non) (u := Value.none) J rfl q
  | brk =>
    obtain ⟨_, _, _, q⟩ := hs
    exact False.elim q
  | cont =>
    obtain ⟨_, _, _, q⟩ := hs
    exact False.elim q
end
section
variable {X : Cx} {k : Nat} {f C : Addr} {fd : FuncData} {ps : List Str} {sp : Sp} {spa : Addr → Sp} {x m : Str} {p pos apos : Pos} {e o : Expr} {es : List Expr} {ta : TE} {t : TA} {i : Nat}
theorem Inv.mild {pins : List (Addr × Obj)} {σ : St} {H : Hp} {s : Shared} (I : Inv X pins σ H s) (hr : RoomQ k X.A X.H₀) : RoomQ k X.A H := hr.up fun b o z => I.base.frzs b o _ z
theorem cr_done {pins : List (Addr × Obj)} {σ : St} {H : Hp} {s : Shared} {Q : VK} {E : XK} {us : List Value} (I : Inv X pins σ H s) (h : codeAny (model X.prog X.w) X.A (.call (.ref f) ⟨us, []⟩) (CR CX0 X.stack X.prog X.w H s Q E) s) :
    wpAny (model X.prog X.w) X.A (call (.ref f) us) (EP X pins σ Q) X.xe s := by
  refine wpAny_call (codeAny_mono h fun r s' hq => ?_)
  cases r with
  | error e => exact False.elim hq
  | ok fl =>
    cases fl with
    | ret u => exact I.after hq
    | next => exact False.elim hq
    | brk => exact False.elim hq
    | cont => exact False.elim hq
theorem run_fnQ {pins : List (Addr × Obj)} {σ : St} {H : Hp} {s : Shared} {Q : VK} {us : List Value} {vs : List V} (F : FnOkQ X.prog X.w X.K X.mg X.base k f fd ps sp) (hr : RoomQ k X.A X.H₀) (hb : Binds X.K fd ps [])
    (I : Inv X pins σ H s) (r : Vals vs us) (q : sp vs H Q E0) : wpAny (model X.prog X.w) X.A (call (.ref f) us) (EP X pins σ Q) X.xe s :=
  cr_done I (F.called hb (I.mild hr) I.env0 r q)
theorem pe_callQ (F : FnQ X.prog X.w X.K X.mg X.base k x ps sp) (hr : RoomQ k X.A X.H₀) (hg : Gl X x) (ha : PA X (e :: es) t) (hdb : (x == ("__debug__" : Str)) = false := by decide)
    (he : starEach (e :: es) X.env = (false, eval e X.env) :: starEach es X.env := by rfl) (hpl : (backTo pos (starEach es X.env)).any (·.1) = false := by rfl) : PE X (.Call (.Name x p) (e :: es) [] pos) (tCall sp [] E0 t) := by
  obtain ⟨f, fd, h1, h2, h3, h4, _⟩ := F
  intro pins s σ H Q I hq
  refine wpAny_Call_Name_kw (ld_glob I hg h1 ?_ hdb)
  refine PySem.W.callWith_K (h₀ := X.base) I.ok.mod.kin h2 (thn (ha pos pins s σ H _ I hq) fun us s1 ⟨vs, H1, I1, r, q⟩ => ⟨I1.kIn, ?_⟩) he hpl
  exact run_fnQ h4 hr h3 I1 r (by simpa using q)
theorem pe_callVQ (F : CallOkQ X.prog X.w X.K X.mg X.base k spa) (hr : RoomQ k X.A X.H₀) (hN : X.N[i]? = some x) (hv : Vis X.env.scope x) (ha : PA X (e :: es) t)
    (hdb : (x == ("__debug__" : Str)) = false := by decide) (hcd : (x == ("__classdict__" : Str)) = false := by decide)
    (he : starEach (e :: es) X.env = (false, eval e X.env) :: starEach es X.env := by rfl) (hpl : (backTo pos (starEach es X.env)).any (·.1) = false := by rfl) :
    PE X (.Call (.Name x p) (e :: es) [] pos) (tCallV X.K i spa E0 t) := by
  intro pins s σ H Q I h
  obtain ⟨f, ef, hf, h⟩ := h
  refine wpAny_Call_Name_kw (thn (pe_var (i := i) hN hv hdb hcd pins s σ H (fun v H' => v = .ref f ∧ H' = H) I ⟨_, ef, rfl, rfl⟩) fun u s1 ⟨v, H1, I1, r1, e1, e2⟩ => ?_)
  subst e1 e2
  obtain rfl : u = Value.ref f := r1
  refine PySem.W.callWith_F (first := []) (I1.fnAt hf) (thn (ha pos pins s1 σ H1 _ I1 h) fun us s2 ⟨vs, H2, I2, r, hf2, q⟩ => ⟨I2.fnAt hf2, ?_⟩) he hpl
  exact cr_done I2 (F f X.A X.stack s2 H2 us vs Q E0 (I2.mild hr) I2.env0 r q)
theorem pe_methQ0 {pl : Sem Bool} (F : MtQ X.prog X.w X.K X.mg X.base C k m ps sp) (he : PE X o ta) (c : Cls X.K C) (hr : RoomQ k X.A X.H₀)
    (ht : eval (.Call (.Attribute o m apos) [] [] pos) X.env = (do
      let ov ← eval o X.env
      standAt apos.atName
      let (f, first) ← holding [ov] (getMethod ov m pl)
      callWith pos f first (backTo pos (starEach [] X.env)) (backToKw pos (keywordEach [] X.env))) := by rfl) :
    PE X (.Call (.Attribute o m apos) [] [] pos) (tMeth C m sp [] E0 ta tNil) := by
  obtain ⟨f, fd, h1, h3, h4⟩ := F
  intro pins s σ H Q I h
  refine PySem.W.methodCall_KW (pl := pl) (thn (he pins s σ H _ I h) fun u s1 ⟨x, H1, I1, rx, a, dx, fs, ex, ea, l, q⟩ => ?_) ht
  subst ex
  obtain rfl : u = Value.ref a := rx
  refine getmeth_ok I1 ea c h1 l ?_
  exact PySem.W.callWith_K0 (first := [.ref a]) I1.kIn h1.kp (run_fnQ (us := [.ref a]) (vs := [.ref a]) h4 hr h3 I1 (.cons rfl .nil) (by simpa [tNil] using q))
end
end L2
namespace L2
open PySem PySem.Spec PyProof.Rows
structure TurnQ (P : Program) (w : World) (K : PySem.W.Frag) (tg : Expr) (J : It) (fp : List Addr) (it : Addr) (tn : Nat → Heap → Prop) : Prop where
  obj : ∀ i h, tn i h → ∀ b ∈ fp, ∃ o, h.get? b = some o ∧ ∀ v, o.data ≠ .cell v
  keep : ∀ i h h', tn i h → (∀ b ∈ fp, ∀ o, h.get? b = some o → h'.get? b = some o) → tn i h'
  item : ∀ (X : Cx), X.prog = P → X.w = w → X.K = K → ∀ (i : Nat) (pins : List (Addr × Obj)) (s : Shared) (σ : St) (H : Hp) (E : Value → Shared → Prop), Inv X pins σ H s → (∀ b ∈ fp, FpOk X pins H b) → tn i s.heap → J.go i H →
    wpAny (model P w) X.A (pyNext (.ref it)) (fun r s1 => ∃ u, r = some u ∧
      wpAny (model P w) X.A (letOwnedTupleGo tg (.ref it) u) (fun _ s2 => ∃ x H', Inv X pins σ H' s2 ∧ RelV x u ∧ J.yld i H x H' ∧ tn (i + 1) s2.heap ∧ ∀ b ∈ fp, H' b = none) E s1) E s
  done : ∀ (X : Cx), X.prog = P → X.w = w → X.K = K → ∀ (i : Nat) (pins : List (Addr × Obj)) (s : Shared) (σ : St) (H : Hp) (E : Value → Shared → Prop), Mild X.A H → Inv X pins σ H s → (∀ b ∈ fp, FpOk X pins H b) → tn i s.heap → J.stop i H →
    wpAny (model P w) X.A (pyNext (.ref it)) (fun r s1 => r = none ∧ Inv X pins σ H s1) E s
  self : ∀ (A : Around) (i : Nat) (s : Shared) (Q : Value → Shared → Prop) (E : Value → Shared → Prop), tn i s.heap → Q (.ref it) s → wpAny (model P w) A (pyIter (.ref it)) Q E s
def PIEQ (X : Cx) (pins : List (Addr × Obj)) (σ : St) (tg : Expr) (R : It → Hp → Prop) (itv : Value) (s2 : Shared) : Prop :=
  ∃ (it : Addr) (fp : List Addr) (tn : Nat → Heap → Prop) (J : It) (H' : Hp), itv = .ref it ∧ Inv X pins σ H' s2 ∧ TurnQ X.prog X.w X.K tg J fp it tn ∧ tn 0 s2.heap ∧ (∀ b ∈ fp, FpOk X pins H' b) ∧ R J H'
def PIQ (X : Cx) (tg iter : Expr) (wi : TI) : Prop :=
  ∀ (pins : List (Addr × Obj)) (s : Shared) (σ : St) (H : Hp) (R : It → Hp → Prop), Inv X pins σ H s → wi σ H R →
    wpAny (model X.prog X.w) X.A (eval iter X.env) (fun v s1 => wpAny (model X.prog X.w) X.A (pyIter v) (PIEQ X pins σ tg R) X.xe s1) X.xe s
theorem turn_listQ {P : Program} {w : World} {K : PySem.W.Frag} {tg : Expr} (a it : Addr) : TurnQ P w K tg (Itl K a) [it] it (fun i h => h.IsListIter it a i) where
  obj := fun i h st b hb => by
    obtain rfl : b = it := by simpa using hb
    obtain ⟨o, e, c, d⟩ := st
    exact ⟨o, e, fun v z => by rw [d] at z; cases z⟩
  keep := fun i h h' st k => st.at fun o e => k it (by simp) o e
  item := by
    intro X hP hw hK i pins s σ H E I hf st hg
    subst hP hw hK
    obtain ⟨xs, x, hq, hx⟩ := hg
    obtain ⟨its, rv, p, hz⟩ := I.list hq
    obtain ⟨u, hu, ru⟩ := rv.get hx
    obtain ⟨f0, f1, f2, f3, f4, f5⟩ := hf it (by simp)
    refine wpAny_pyNext_list_item st p.isList (x := u) (by simpa using hu) fun h' st' sb => ?_
    have I1 : Inv X pins σ H { s with heap := h' } := I.turned (t' := s.toks) (fun b o hb e => (sb.2 b hb).trans e) f0 f1 f3 f4 f5
    obtain ⟨o, e, c, d⟩ := id st'
    exact ⟨u, rfl, go_of (s := { s with heap := h' }) e c d (by decide) ⟨x, H, I1, ru, ⟨rfl, fun ys hy => by rw [I.list_inj hy hq]; exact hx⟩, st', fun b hb => (hf b hb).1⟩⟩
  done := by
    intro X hP hw hK i pins s σ H E md I hf st hg
    subst hP hw hK
    obtain ⟨xs, hq, hx⟩ := hg
    obtain ⟨its, rv, p, hz⟩ := I.list hq
    obtain ⟨f0, f1, f2, f3, f4, f5⟩ := hf it (by simp)
    have hl := rv.length
    refine list_endQ (md.calm I.hok fun _ _ _ _ z => z) (fun h' sb => md.calm I.hok fun b o u hu z => sb.extBut b o (fun y => by rw [y, f0] at hu; cases hu) z) st p.isList (by simp; omega) fun h' eb => ?_
    exact ⟨rfl, I.turned (t' := s.toks) (fun b o hb e => eb b o hb e) f0 f1 f3 f4 f5⟩
  self := fun _ _ _ _ _ st h => wpAny_pyIter_listiter st h
theorem pi_listQ {X : Cx} {tg l : Expr} {tl : TE} (hl : PE X l tl) : PIQ X tg l (iList X.K tl) := by
  intro pins s σ H R I h
  refine thn (hl pins s σ H _ I h) fun v s1 ⟨x, H1, I1, r1, q1⟩ => ?_
  obtain ⟨a, e, ⟨xs, hq⟩, q⟩ := q1
  subst e
  cases r1
  obtain ⟨its, rv, p, hz⟩ := I1.list hq
  refine wpAny_pyIter_list p.isList ?_
  refine ⟨s1.heap.objs.size, [s1.heap.objs.size], _, _, H1, rfl, I1.kept (t' := s1.toks) fun b o e => Heap.get?_push_of_some _ e, turn_listQ a _, ⟨_, Heap.get?_push_size _ rfl, rfl, rfl⟩, fun b hb => ?_, q⟩
  obtain rfl : b = s1.heap.objs.size := by simpa using hb
  exact I1.fpOk (Nat.le_refl _) (I1.hok.fresh (Nat.le_refl _))
structure CompQ (X : Cx) (x : Str) (ys : List Str) (js : List Nat) (sc : Scope) (cl : List (Str × Addr)) : Prop where
  mild : Mild X.A X.H₀
  clos : closureFor sc X.env = pure cl
  kind : sc.kind = .function
  names : ∀ z ∈ sc.names, z.2 = .local → sc.names.lookup z.1 = some .local
  nocell : ∀ z ∈ sc.names, z.2 ≠ .cell
  own : sc.names.lookup x = some .local
  nd : (x :: ys).Nodup
  same : ∀ z c, cl.lookup z = some c → X.env.cells.lookup z = some c
  has : (relabel sc X.env).names.all (fun p => !(p.2 == .cell || p.2 == .free) || (cl.lookup p.1).isSome) = true
  cap : ∀ (i : Nat) y, ys[i]? = some y → ∃ j, js[i]? = some j ∧ X.N[j]? = some y ∧ X.env.scope.names.lookup y = some .cell ∧ (relabel sc X.env).names.lookup y = some .cell
  len : ys.length = js.length
theorem comp_coreQ {X : Cx} {x : Str} {px : Pos} {ys : List Str} {js : List Nat} {sc : Scope} {cl : List (Str × Addr)} {elt iter : Expr} {ifs : List Expr} {pos : Pos} {wi : TI} {tt : TT} {te : TE} {use : Option (Value → Sem Unit)} {QQ : Value → Shared → Prop}
    (ok : CompQ X x ys js sc cl) (hi : PIQ X (.Name x px) iter wi)
    (ht : ∀ s₂ H₂ fp, PTs (cxComp X s₂ H₂ fp sc cl (x :: ys)) ifs tt) (he : ∀ s₂ H₂ fp, PE (cxComp X s₂ H₂ fp sc cl (x :: ys)) elt te)
    {pins : List (Addr × Obj)} {s : Shared} {σ : St} {H : Hp} {Q : VK} (I : Inv X pins σ H s) (h : tComp wi js tt te σ H Q)
    (fin : ∀ (D C : Addr) (H' : Hp) (s' : Shared), Inv X pins σ H' s' → Q (.ref D) H' → FpOk X pins H' C → (∃ m, s'.heap.Ns C m) → compPost (model X.prog X.w) X.A X.xe use QQ (.ref D) C (.ok .next) s')
    (hs : ∀ x, foldedSetIterable iter X.env x = pure x) {p2 : Pos} :
    wpAny (model X.prog X.w) X.A (comprehension (.ListComp elt [⟨.Name x px, iter, ifs, 0⟩] sc pos) sc X.env p2 (newList []) false (eval iter X.env) use) QQ X.xe s := by
  refine wpAny_comprehension_free (use := use) rfl hs ok.clos ok.kind ok.names (thn (hi pins s σ H _ I h) fun v s0 h0 => thn h0 fun itv s1 h1 => ?_)
  obtain ⟨it, fp, tn, J, H1, e, I1, T, st1, f1, h1⟩ := h1
  subst e
  -- the new list
  refine wpAny_newObj_type ?_
  have I2 := I1.lnew (ys := []) (its := []) (t' := s1.toks) .nil (by simp)
  obtain ⟨W, ⟨m0, w0⟩, turn⟩ := h1 s1.heap.objs.size I1.fresh
  generalize hs2 : ({ s1 with heap := s1.heap.push { cls := .type "list", data := .seq ([] : List Value).toArray }, toks := s1.toks } : Shared) = s2 at I2
  have es2 : s2.heap = s1.heap.push { cls := .type "list", data := .seq ([] : List Value).toArray } := by rw [← hs2]
  have hD : s1.heap.objs.size < s2.heap.objs.size := by rw [es2, Heap.size_push]; exact Nat.lt_succ_self _
  generalize hH2 : upd H1 s1.heap.objs.size (.lst []) = H2 at I2 w0
  have k12 : ∀ b o, s1.heap.get? b = some o → s2.heap.get? b = some o := fun b o e => by rw [es2]; exact Heap.get?_push_of_some _ e
  have st2 : tn 0 s2.heap := T.keep _ _ _ st1 fun b hb o e => k12 b o e
  have fplt : ∀ b ∈ fp, b < s1.heap.objs.size := fun b hb => by obtain ⟨o, e, _⟩ := T.obj _ _ st1 b hb; exact Heap.lt_size e
  have f2 : ∀ b ∈ fp, FpOk X pins H2 b := fun b hb => ⟨by rw [← hH2, upd_ne (Nat.ne_of_lt (fplt b hb))]; exact (f1 b hb).1, (f1 b hb).2⟩
  -- the block's frame
  refine wpAny_newFunctionEnv ok.nocell (by intro z hz; simp at hz) (fun h3 hns hsb => ?_) ok.kind
  have k23 : ∀ b o, s2.heap.get? b = some o → h3.get? b = some o := fun b o e => hsb.extBut b o (Nat.ne_of_lt (Heap.lt_size e)) (Heap.get?_push_of_some _ e)
  generalize hs3 : ({ s2 with heap := h3, toks := s2.toks + ([] : List (Str × Value)).length } : Shared) = s3
  have es3 : s3.heap = h3 := by rw [← hs3]
  have os3 : s3.os = s2.os := by rw [← hs3]
  have gs3 : s3.gens = s2.gens := by rw [← hs3]
  have hX : (cxComp X s2 H2 fp sc cl (x :: ys)).Ok := by
    refine ⟨I2.mod, ok.kind, I2.ok.glob, I2.ok.blt, Nat.le_refl _, fun a b c e1 e2 => I2.ok.inj a b c (ok.same a c e1) (ok.same b c e2), fun z hz => ?_, fun z c q _ => absurd (show false = true from q) (by simp), I2.ok.hd, I2.ok.frames, .inl rfl,
      fun b hb => ?_, I2.bs, ?_, fun b o e hb => ?_, fun b hb hf => ?_, I2.stack, I2.stkFree⟩
    · have hz : (relabel sc X.env).names.lookup z = some .cell ∨ (relabel sc X.env).names.lookup z = some .free := hz
      have go : ∀ k, (relabel sc X.env).names.lookup z = some k → (k == .cell || k == .free) = true → ∃ c, cl.lookup z = some c := fun k hk hb => by
        have q := List.all_eq_true.mp ok.has (z, k) (PySem.mem_of_lookup hk)
        rw [hb] at q
        exact Option.isSome_iff_exists.mp q
      rcases hz with hz | hz
      · exact go _ hz rfl
      · exact go _ hz rfl
    · refine ⟨?_, fun z c e => (f2 b hb).2.2.2.2.1 z c (ok.same z c e)⟩
      show b ≠ s2.heap.objs.size
      exact Nat.ne_of_lt (Nat.lt_trans (fplt b hb) hD)
    · show X.base.objs.size ≤ s2.heap.objs.size
      exact Nat.le_trans I2.ok.bsz I2.sz
    · rcases (f2 b hb).2.2.2.1 with z | z
      · exact I2.ok.noex b o e z
      · exact absurd (Nat.lt_of_lt_of_le (Heap.lt_size e) (Nat.le_trans I2.ok.bsz z)) (Nat.lt_irrefl _)
    · rcases List.mem_cons.mp (I2.stkSub b hf) with z | z
      · exact (f2 b hb).2.1 z
      · exact (f2 b hb).2.2.1 z
  have hlt2 : ∀ z c, X.env.cells.lookup z = some c → c < s2.heap.objs.size := fun z c e => by obtain ⟨v, q⟩ := I2.cell z c e; exact q.lt
  have I3 : ∀ o : Option V, Inv (cxComp X s2 H2 fp sc cl (x :: ys)) [] (none :: capt js σ) H2 s3 := fun _ => by
    refine ⟨hX, os3, by rw [gs3]; exact I2.bare, Un.kept (by rw [es3]; exact k23), ⟨_, by rw [es3]; exact hns, fun i y v e1 e2 e3 => ?_⟩, fun z c e => ?_, I2.hok.fresh (Nat.le_refl _), fun z c e => ?_, fun p hp => absurd (show p ∈ ([] : List (Addr × Obj)) from hp) (by simp), by rw [es3]; exact I2.hok.kept k23, ?_⟩
    · cases i with
      | zero => simp at e2
      | succ i =>
        have e1 : ys[i]? = some y := by simpa [cxComp] using e1
        obtain ⟨j, hj, hN, hk, hk2⟩ := ok.cap i y e1
        have e2 : (capt js σ)[i]? = some (some v) := by simpa using e2
        unfold capt at e2
        rw [List.getElem?_map, hj] at e2
        have e2' : (σ[j]?).join = some v := by simpa using e2
        have e4 : σ[j]? = some (some v) := by
          cases q : σ[j]? with
          | none => rw [q] at e2'; cases e2'
          | some w => rw [q] at e2'; simp at e2'; rw [e2']
        obtain ⟨m, hn, hl⟩ := I2.loc
        obtain ⟨u, r, l⟩ := hl j y v hN e4 (.inr (.inl hk))
        refine ⟨u, r, ?_⟩
        rcases l with ⟨k, _⟩ | ⟨_, c, hc, z⟩
        · exact absurd ((show X.env.scope.names.lookup y = some .local from k).symm.trans hk) (by simp)
        · have q := List.all_eq_true.mp ok.has (y, .cell) (PySem.mem_of_lookup hk2)
          obtain ⟨c', hc'⟩ : ∃ c', cl.lookup y = some c' := Option.isSome_iff_exists.mp (by simpa using q)
          have e5 := ok.same y c' hc'
          rw [hc] at e5
          cases e5
          refine .inr ⟨.inl hk2, c, hc', ?_⟩
          rw [es3]
          exact z.keeps k23
    · obtain ⟨v, q⟩ := I2.cell z c (ok.same z c e)
      exact ⟨v, by rw [es3]; exact q.keeps k23⟩
    · rcases I2.freeC z c (ok.same z c e) with q | ⟨_, ob, q⟩
      · exact .inl q
      · exact .inr ⟨rfl, ob, q⟩
    · show _ = (x :: ys).length
      unfold capt
      simp; exact ok.len.symm
  -- the loop
  have stat : ∀ {H' : Hp}, (∀ b ∈ fp, H' b = none) → ∀ b ∈ fp, FpOk (cxComp X s2 H2 fp sc cl (x :: ys)) [] H' b := fun {H'} hn b hb => by
    refine ⟨hn b hb, Nat.ne_of_lt (Nat.lt_trans (fplt b hb) hD), fun hf => ?_, .inl hb, fun z c e => (f2 b hb).2.2.2.2.1 z c (ok.same z c e), fun p hp => absurd (show p ∈ ([] : List (Addr × Obj)) from hp) (by simp)⟩
    rcases List.mem_cons.mp (I2.stkSub b hf) with z | z
    · exact (f2 b hb).2.1 z
    · exact (f2 b hb).2.2.1 z
  have loop : codeAny (model X.prog X.w) X.A (.compLoop (.ListComp elt [⟨.Name x px, iter, ifs, 0⟩] sc pos) 0 (.ref it) (.ref s1.heap.objs.size) (compEnvC sc cl s2.heap.objs.size X.env)) (compPost (model X.prog X.w) X.A X.xe use QQ (.ref s1.heap.objs.size) s2.heap.objs.size) s3 := by
    refine codeAny_compLoop_tests (fun n s' => ∃ i o zs H', Inv (cxComp X s2 H2 fp sc cl (x :: ys)) [] (o :: capt js σ) H' s' ∧ tn i s'.heap ∧ (∀ b ∈ fp, H' b = none) ∧ W i n zs H') ?_ m0 ⟨0, none, [], H2, I3 none, T.keep _ _ _ st2 fun b hb o e => by rw [es3]; exact k23 b o e, fun b hb => (f2 b hb).1, w0⟩
    rintro n s4 ⟨i, o, zs, H4, I4, st4, fr4, w4⟩
    rcases turn i n zs H4 w4 with ⟨stop, qn⟩ | ⟨go, step⟩
    · refine wpAny_mono (T.done (cxComp X s2 H2 fp sc cl (x :: ys)) rfl rfl rfl i [] s4 _ H4 (fun _ _ => False) (ok.mild.up fun b o z => I4.base.frzs b o _ (I2.base.frzs b o _ z)) I4 (stat fr4) st4 stop) (fun r s5 ⟨hr, I5⟩ => ?_) fun _ _ e => e.elim
      subst hr
      have I6 : Inv X pins σ H4 s5 := I2.call' (ch := fp) I5.os I5.base I5.hok I5.bare fun b hb => ⟨(f2 b hb).2.2.2.1, (f2 b hb).2.1, (f2 b hb).2.2.2.2.1, (f2 b hb).2.2.2.2.2⟩
      obtain ⟨m, hn, _⟩ := I5.loc
      exact fin _ _ H4 s5 I6 qn (I2.fpOk (Nat.le_refl _) I5.free) ⟨m, hn⟩
    · refine wpAny_mono (T.item (cxComp X s2 H2 fp sc cl (x :: ys)) rfl rfl rfl i [] s4 _ H4 (fun _ _ => False) I4 (stat fr4) st4 go) (fun r s5 ⟨u, hr, h5⟩ => ?_) fun _ _ e => e.elim
      subst hr
      -- the store
      have asg : ∀ (Q2 : Unit → Shared → Prop), (∀ s6 v H6, Inv (cxComp X s2 H2 fp sc cl (x :: ys)) ([] ++ pinsAt fp s6.heap) (some v :: capt js σ) H6 s6 → J.yld i H4 v H6 → tn (i + 1) s6.heap → (∀ b ∈ fp, H6 b = none) → Q2 () s6) →
          wpAny (model X.prog X.w) X.A (assign (.Name x px) (compEnvC sc cl s2.heap.objs.size X.env) u) Q2 (fun _ _ => False) s5 := fun Q2 hQ2 => by
        have z : wpAny (model X.prog X.w) X.A (letOwnedTupleGo (.Name x px) (.ref it) u >>= fun _ => assign (.Name x px) (compEnvC sc cl s2.heap.objs.size X.env) u) Q2 (fun _ _ => False) s5 := by
          refine wpAny_bind (wpAny_mono h5 (fun _ s6 ⟨v, H6, I6, r6, y6, st6, fr6⟩ => ?_) fun _ _ e => e)
          have I6' := I6.pinned (stat fr6) (T.obj _ _ st6)
          refine wpAny_assign_Name (store_ok (X := cxComp X s2 H2 fp sc cl (x :: ys)) (i := 0) I6' ok.nd rfl (.inl (lookup_relabel_local ok.own)) r6 (fun s7 I7 => ?_) (.inr (lookup_relabel_local ok.own)))
          have e7 : ∀ b ∈ fp, ∀ o, s6.heap.get? b = some o → s7.heap.get? b = some o := fun b hb o e => (I7.pin (b, o) (List.mem_append_right _ (List.mem_append_right _ (mem_pinsAt hb e)))).1
          have st7 : tn (i + 1) s7.heap := T.keep _ _ _ st6 e7
          refine hQ2 s7 v H6 ?_ y6 st7 fr6
          have I8 := I7.unpinned
          exact I8.pinned (stat fr6) (T.obj _ _ st7)
        have e : letOwnedTupleGo (.Name x px) (.ref it) u = pure () := rfl
        rw [e, pure_bind] at z
        exact z
      refine wpAny_mono (asg _ fun s6 v H6 I6 y6 st6 fr6 => ?_) (fun _ _ q => q) fun _ _ e => e.elim
      have keepI : ∀ {H7 : Hp} {s7 : Shared} {σ7 : St}, Inv (cxComp X s2 H2 fp sc cl (x :: ys)) ([] ++ pinsAt fp s6.heap) σ7 H7 s7 → tn (i + 1) s7.heap ∧ ∀ b ∈ fp, H7 b = none := fun {H7 s7 σ7} I7 =>
        ⟨T.keep _ _ _ st6 fun b hb o e => (I7.pin (b, o) (List.mem_append_right _ (List.mem_append_right _ (mem_pinsAt hb e)))).1, fun b hb => by
          obtain ⟨o, e, d⟩ := T.obj _ _ st6 b hb
          exact (I7.pin (b, o) (List.mem_append_right _ (List.mem_append_right _ (mem_pinsAt hb e)))).2.1⟩
      refine wpAny_mono (ht s2 H2 fp _ s6 _ H6 _ (fun _ _ => False) rfl I6 (step v H6 y6)) (fun b s7 ⟨H7, I7, q7⟩ => ?_) fun _ _ e => e.elim
      cases b with
      | false =>
        rw [if_neg Bool.false_ne_true] at q7 ⊢
        obtain ⟨m', hm, w7⟩ := q7
        obtain ⟨st7, fr7⟩ := keepI I7
        exact ⟨m', hm, i + 1, some v, zs, H7, I7.unpinned, st7, fr7, w7⟩
      | true =>
        rw [if_pos rfl] at q7 ⊢
        refine wpAny_mono (he s2 H2 fp _ s7 _ H7 _ I7 q7) (fun y s8 ⟨yv, H8, I8, r8, hD8, hz8, m', hm, w8⟩ => ?_) fun _ _ (e : False) => e.elim
        refine wpAny_mono (mt_append (X := cxComp X s2 H2 fp sc cl (x :: ys)) _ s8 _ H8 (.ref s1.heap.objs.size) [yv] (.ref s1.heap.objs.size) [y] (fun v H9 => H9 = upd H8 s1.heap.objs.size (.lst (zs ++ [yv]))) I8 rfl (.cons r8 .nil) ⟨_, zs, yv, rfl, rfl, hD8, hz8, rfl⟩)
          (fun _ s9 ⟨_, H9, I9, _, e9⟩ => ?_) fun _ _ (e : False) => e.elim
        subst e9
        obtain ⟨st9, fr9⟩ := keepI I9
        exact ⟨m', hm, i + 1, some v, zs ++ [yv], _, I9.unpinned, st9, fr9, w8⟩
  have self3 : tn 0 s3.heap := T.keep _ _ _ st2 fun b hb o e => by rw [es3]; exact k23 b o e
  exact codeAny_compStart_list loop (T.self X.A 0 _ _ _ self3 loop)
theorem pe_compQ {X : Cx} {x : Str} {px : Pos} {ys : List Str} {js : List Nat} {sc : Scope} {cl : List (Str × Addr)} {elt iter : Expr} {ifs : List Expr} {pos : Pos} {wi : TI} {tt : TT} {te : TE} (ok : CompQ X x ys js sc cl) (hi : PIQ X (.Name x px) iter wi)
    (ht : ∀ s₂ H₂ fp, PTs (cxComp X s₂ H₂ fp sc cl (x :: ys)) ifs tt) (he : ∀ s₂ H₂ fp, PE (cxComp X s₂ H₂ fp sc cl (x :: ys)) elt te) (hs : ∀ x, foldedSetIterable iter X.env x = pure x := by intro _; rfl) :
    PE X (.ListComp elt [⟨.Name x px, iter, ifs, 0⟩] sc pos) (tComp wi js tt te) := by
  intro pins s σ H Q I h
  rw [eval_ListComp]
  refine comp_coreQ (use := none) ok hi ht he I h (fun D C H' s' I' q fc ⟨m, hn⟩ => ⟨m, hn, fun h' hs' => ?_⟩) hs
  obtain ⟨f0, f1, f2, f3, f4, f5⟩ := fc
  exact ⟨.ref D, H', I'.turned (t' := s'.toks) (fun b o hb e => (hs'.2 b hb).trans e) f0 f1 f3 f4 f5, rfl, q⟩
theorem ps_setCompQ {X : Cx} {x z : Str} {px pz : Pos} {iz : Nat} {ys : List Str} {js : List Nat} {sc : Scope} {cl : List (Str × Addr)} {elt iter : Expr} {ifs : List Expr} {pos spos : Pos} {wi : TI} {tt : TT} {te : TE} (ok : CompQ X x ys js sc cl) (hi : PIQ X (.Name x px) iter wi)
    (ht : ∀ s₂ H₂ fp, PTs (cxComp X s₂ H₂ fp sc cl (x :: ys)) ifs tt) (he : ∀ s₂ H₂ fp, PE (cxComp X s₂ H₂ fp sc cl (x :: ys)) elt te)
    (hN : X.N.Nodup) (hiz : X.N[iz]? = some z) (hz : Loc X.env.scope z) (hf : X.fn z = true ∨ X.env.scope.names.lookup z = some .local)
    (hsw : swapsWith (.ListComp elt [⟨.Name x px, iter, ifs, 0⟩] sc pos) (some (.Name z pz)) spos.line X.env = pure true) (hs : ∀ x, foldedSetIterable iter X.env x = pure x := by intro _; rfl) :
    PS X (.Assign [.Name z pz] (.ListComp elt [⟨.Name x px, iter, ifs, 0⟩] sc pos) spos) (tAsg (tComp wi js tt te) (gName iz)) := by
  intro pins s σ H D I h
  rw [exec_Assign_Name_used _ _ _ _ hsw]
  refine wpAny_bind (wpAny_standAt (wpAny_bind ?_))
  show wpAny _ X.A (do let _ ← comprehension (.ListComp elt [⟨.Name x px, iter, ifs, 0⟩] sc pos) sc X.env _ (newList []) false (eval iter X.env) (some (assign (.Name z pz) X.env))) _ _ s
  refine wpAny_bind (wpAny_mono (comp_coreQ (use := some (assign (.Name z pz) X.env)) (QQ := fun _ s' => SP X pins D .next s') ok hi ht he I h (fun d C H' s' I' q fc ⟨m, hn⟩ => ?_) hs) (fun _ s' hq => wpAny_pure (wpAny_pure hq)) fun _ _ e => e)
  obtain ⟨f0, f1, f2, f3, f4, f5⟩ := fc
  show wpAny _ _ (assign (.Name z pz) X.env (.ref d)) _ _ s'
  refine wpAny_assign_Name (store_ok2 I' hN hiz hz (v := .ref d) rfl (fun s2 I2 ⟨a, hsb, ha⟩ => ?_) hf)
  have hCa : C ≠ a := by
    rcases ha with rfl | ha
    · exact f1
    · exact fun e => f4 z a ha e.symm
  refine ⟨m, hn.sameBut hsb hCa, fun h' hs' => ⟨_, H', I2.turned (t' := s2.toks) (fun b o hb e => (hs'.2 b hb).trans e) f0 f1 f3 f4 f5, q⟩⟩
end L2
namespace L2
open PySem PySem.Spec PyProof.Rows
section
variable {prog : Program} {w : World} {A : Around} {s : Shared} {n : Nat} {J : Nat → List Value → Heap → Prop}
structure Feeds (prog : Program) (w : World) (A : Around) (s : Shared) (S I : Addr) (n : Nat) (J : Nat → List Value → Heap → Prop) : Prop where
  keep : ∀ i vs h h', J i vs h → (∀ b o, b ≠ S → h.get? b = some o → h'.get? b = some o) → J i vs h'
  item : ∀ i vs h tk (Q : Option Value → Shared → Prop) (E : Value → Shared → Prop), i < n → vs.length = i → J i vs h → S < h.objs.size → (∀ v h', J (i + 1) (vs ++ [v]) h' → (∀ b o, b ≠ I → h.get? b = some o → h'.get? b = some o) → Q (some v) { s with heap := h', toks := tk }) →
    wpAny (model prog w) A (pyNext (.ref I)) Q E { s with heap := h, toks := tk }
  done : ∀ vs h tk (Q : Option Value → Shared → Prop) (E : Value → Shared → Prop), J n vs h → (∀ h', (∀ b o, b ≠ I → h.get? b = some o → h'.get? b = some o) → Q none { s with heap := h', toks := tk }) → wpAny (model prog w) A (pyNext (.ref I)) Q E { s with heap := h, toks := tk }
abbrev lsO (acc : Array Value) (c : Nat) : Obj := { cls := .type "list", dict := none, data := .seq acc c, slots := #[] }
theorem grow_loop {S I : Addr} {res : Value} {R : Result → Shared → Prop} (F : Feeds prog w A.in1 s S I n J) (hn : n ≤ sizeLine) (ne : S ≠ I)
    (fin : ∀ h h' tk acc c, J n acc.toList h → (∀ b o, b ≠ I → h.get? b = some o → h'.get? b = some o) → acc.size = n → h'.get? S = some (lsO acc c) → R (.ok (.ret res)) { s with heap := h', toks := tk }) :
    ∀ (k i : Nat) (h : Heap) (tk c : Nat) (acc : Array Value), n - i = k → i ≤ n → acc.size = i → J i acc.toList h → h.get? S = some (lsO acc c) →
      codeAny (model prog w) A (.builtin "list.extend.loop" ⟨[.ref S, .ref I, res], []⟩) R { s with heap := h, toks := tk } := by
  intro k
  induction k with
  | zero =>
    intro i h tk c acc hk hi hsz j hS
    obtain rfl : i = n := by omega
    refine codeAny_builtin PySem.F.entry_extend_loop ?_
    rw [Around.under_plainId PySem.F.plain_extend_loop _]
    refine wpAny_bind (m := pyNext (.ref I)) (F.done _ h tk _ _ j fun h' kp => ?_)
    exact wpAny_pure (fin h h' tk acc c j kp hsz (kp S _ ne hS))
  | succ k ih =>
    intro i h tk c acc hk hi hsz j hS
    have hlt : i < n := by omega
    refine codeAny_builtin PySem.F.entry_extend_loop ?_
    rw [Around.under_plainId PySem.F.plain_extend_loop _]
    refine wpAny_bind (m := pyNext (.ref I)) (F.item i _ h tk _ _ hlt (by rw [Array.length_toList]; exact hsz) j (Heap.lt_size hS) fun v h' j' kp => ?_)
    have hS' := kp S _ ne hS
    have oth : ∀ b o, b ≠ S → h'.get? b = some o → (h'.update S (Obj.mapSeq (·.push v))).get? b = some o := fun b o hb e => (Heap.get?_update_other _ _ (Ne.symm hb)).trans e
    show wpAny _ A.in1 (updateSeq S (·.push v) >>= _) _ _ _
    refine wpAny_bind (wpAny_updateSeq hS' rfl (wpAny_pure ⟨plainId_quiet PySem.F.plain_extend_loop _, ?_⟩) (by rw [hsz]; omega) (by show (acc.push v).size ≤ sizeLine + 1; rw [Array.size_push, hsz]; omega))
    exact ih (i + 1) _ tk _ (acc.push v) (by omega) hlt (by rw [Array.size_push, hsz]) (by rw [Array.toList_push]; exact F.keep _ _ _ _ j' oth) (Heap.get?_update_self _ hS' rfl)
structure SrcQ (prog : Program) (w : World) (A : Around) (s : Shared) (T : String) (r : Addr) (oI : Obj) (n : Nat) (J : Nat → List Value → Heap → Prop) : Prop where
  there : r < s.heap.objs.size
  type : ∀ s' : Shared, (∀ b o, s.heap.get? b = some o → s'.heap.get? b = some o) → s'.TypeIs (.ref r) T
  nl : (Value.type T == Value.type "list") = false
  nt : (Value.type T == Value.type "tuple") = false
  hint : ∀ (A : Around) (E : Value → Shared → Prop) (s' : Shared) (Q : Bool → Shared → Prop), s'.TypeIs (.ref r) T → Q false s' → wpAny (model prog w) A (Builtin.List.listLengthHint (.ref r)) Q E s'
  iter : ∀ (A : Around) (E : Value → Shared → Prop) (s' : Shared) (Q : Value → Shared → Prop), (∀ b o, s.heap.get? b = some o → s'.heap.get? b = some o) → Q (.ref s'.heap.objs.size) { s' with heap := s'.heap.push oI } → wpAny (model prog w) A (pyIter (.ref r)) Q E s'
  first : ∀ h : Heap, (∀ b o, s.heap.get? b = some o → h.get? b = some o) → h.get? (s.heap.objs.size + 1) = some oI → J 0 [] h
  free : oI.isFreed = false
  feed : ∀ A' : Around, A'.handled = A.handled → Feeds prog w A' s s.heap.objs.size (s.heap.objs.size + 1) n J
theorem collect_q {T : String} {r : Addr} {oI : Obj} {E : Value → Shared → Prop} {R : List Value → Shared → Prop} (K : SrcQ prog w A s T r oI n J) (hn : n ≤ sizeLine)
    (fin : ∀ h h' tk vs, J n vs h → vs.length = n → (∀ b o, b ≠ s.heap.objs.size + 1 → h.get? b = some o → h'.get? b = some o) → R vs { s with heap := h', toks := tk }) :
    wpAny (model prog w) A (collect (.ref r)) R E s := by
  have hS0 : (s.heap.push (lsO #[] 0)).get? s.heap.objs.size = some (lsO #[] 0) := Heap.get?_push_size _ rfl
  have sz1 : (s.heap.push (lsO #[] 0)).objs.size = s.heap.objs.size + 1 := Heap.size_push ..
  have hI0 : ((s.heap.push (lsO #[] 0)).push oI).get? (s.heap.objs.size + 1) = some oI := by rw [← sz1]; exact Heap.get?_push_size _ K.free
  have hS1 := Heap.get?_push_of_some oI hS0
  have ne1 : s.heap.objs.size ≠ s.heap.objs.size + 1 := by omega
  have new : ∀ b o, s.heap.get? b = some o → b ≠ s.heap.objs.size := fun b o e => Nat.ne_of_lt (Heap.lt_size e)
  unfold collect
  refine wpAny_bind (wpAny_runValue (codeAny_builtin entry_proto_collect' ?_))
  rw [Around.under_plainId PySem.F.plain_proto_collect _]
  refine wpAny_bind (m := newList []) (wpAny_newObj_type ?_)
  refine wpAny_pure ⟨plainId_quiet PySem.F.plain_list_iadd _, codeAny_builtin entry_list_iadd' ?_⟩
  rw [Around.under_plainId PySem.F.plain_list_iadd _]
  have run : ∀ (h : Heap) (c tk : Nat), (∀ b o, b ≠ s.heap.objs.size → ((s.heap.push (lsO #[] 0)).push oI).get? b = some o → h.get? b = some o) → h.get? s.heap.objs.size = some (lsO #[] c) →
      codeAny (model prog w) A (.builtin "list.extend.loop" ⟨[.ref s.heap.objs.size, .ref (s.heap.objs.size + 1), .ref s.heap.objs.size], []⟩)
        (fun q s' => ∃ h0 h' tk acc c, q = .ok (.ret (.ref s.heap.objs.size)) ∧ s' = { s with heap := h', toks := tk } ∧ J n acc.toList h0 ∧ acc.size = n ∧ (∀ b o, b ≠ s.heap.objs.size + 1 → h0.get? b = some o → h'.get? b = some o) ∧ h'.get? s.heap.objs.size = some (lsO acc c)) { s with heap := h, toks := tk } := fun h c tk kp hS => by
    refine grow_loop (K.feed A.in1 rfl) hn ne1 (fun h0 h' tk acc c j kp' hz hS' => ⟨h0, h', tk, acc, c, rfl, rfl, j, hz, kp', hS'⟩) n 0 h tk c #[] (Nat.sub_zero _) (Nat.zero_le _) rfl ?_ hS
    exact K.first h (fun b o e => kp b o (new b o e) (Heap.get?_push_of_some _ (Heap.get?_push_of_some _ e))) (kp _ _ ne1.symm hI0)
  have ext : wpAny (model prog w) A.in1 (Builtin.List.listExtendWith (.ref s.heap.objs.size) (.ref r) (.ref s.heap.objs.size))
      (fun f s' => ∃ h c tk, f = .again (.builtin "list.extend.loop" ⟨[.ref s.heap.objs.size, .ref (s.heap.objs.size + 1), .ref s.heap.objs.size], []⟩) ∧ s' = { s with heap := h, toks := tk } ∧ (∀ b o, b ≠ s.heap.objs.size → ((s.heap.push (lsO #[] 0)).push oI).get? b = some o → h.get? b = some o) ∧ h.get? s.heap.objs.size = some (lsO #[] c)) (fun _ _ => False)
      { s with heap := s.heap.push (lsO #[] 0) } := by
    unfold Builtin.List.listExtendWith
    refine wpAny_bind (wpAny_typeOf (T := T) (K.type _ fun b o e => Heap.get?_push_of_some _ e) ?_)
    have h1 : Builtin.List.listSameRef (.ref s.heap.objs.size) (.ref r) = false := by simp [Builtin.List.listSameRef, Nat.ne_of_gt K.there]
    simp only [h1, K.nl, K.nt, Bool.or_false, Bool.false_eq_true, if_false]
    refine wpAny_bind (K.iter _ _ { s with heap := s.heap.push (lsO #[] 0) } _ (fun b o e => Heap.get?_push_of_some _ e) ?_)
    dsimp only
    rw [sz1]
    refine wpAny_bind (wpAny_holding (K.hint _ _ { s with heap := (s.heap.push (lsO #[] 0)).push oI } _ (K.type _ fun b o e => Heap.get?_push_of_some _ (Heap.get?_push_of_some _ e)) ?_))
    refine wpAny_ite_split (fun _ => ?_) (fun _ => wpAny_pure ⟨_, 0, s.toks, rfl, rfl, fun b o _ e => e, hS1⟩)
    refine wpAny_bind (wpAny_rule (wpAny_bind (m := updateSeq s.heap.objs.size (·.push .none) >>= fun _ => updateSeq s.heap.objs.size (·.pop)) (wpAny_bind (wpAny_updateSeq hS1 rfl ?_))))
    have hS2 := Heap.get?_update_self (Obj.mapSeq (·.push Value.none)) hS1 rfl
    refine wpAny_updateSeq (hz := by seq_fits) hS2 rfl (wpAny_pure ⟨_, _, s.toks, rfl, rfl, fun b o hb e => ?_, Heap.get?_update_self (Obj.mapSeq (·.pop)) hS2 rfl⟩)
    exact (Heap.get?_update_other _ _ (Ne.symm hb)).trans ((Heap.get?_update_other _ _ (Ne.symm hb)).trans e)
  show wpAny _ A.in1 (Builtin.List.listExtendWith (.ref s.heap.objs.size) (.ref r) (.ref s.heap.objs.size)) _ _ _
  refine wpAny_mono ext (fun f s' z => ?_) fun _ _ z => z.elim
  obtain ⟨h, c, tk, rfl, rfl, kp, hS⟩ := z
  refine ⟨plainId_quiet PySem.F.plain_extend_loop _, codeAny_mono (run h c tk kp hS) fun q s2 y => ?_⟩
  obtain ⟨h0, h', tk', acc, c', rfl, rfl, j, hz, kp', hS'⟩ := y
  refine wpAny_bind (m := load s.heap.objs.size) (wpAny_load hS' ?_)
  exact wpAny_pure (fin h0 h' tk' _ j (by rw [Array.length_toList]; exact hz) kp')
end
end L2
namespace L2
open PySem PySem.Spec PyProof.Rows
section
variable {prog : Program} {w : World} {K : Type} [DecidableEq K] {knd : KeyKind prog w K} {A : Around} {E : Value → Shared → Prop} {s : Shared} {kvs : List (K × Value)} {ep : Nat}
theorem keys_endQ {it d : Addr} {i : Nat} {Q : Option Value → Shared → Prop} (nt : ∀ h', Heap.SameBut it s.heap h' → CalmH A h') (hit : s.heap.IsKeyIter it d i kvs.length ep) (hm : s.heap.DictAt knd d kvs ep) (hx : kvs[i]? = none)
    (hQ : ∀ h', Heap.ExtBut it s.heap h' → Q none { s with heap := h' }) : wpAny (model prog w) A (pyNext (.ref it)) Q E s := by
  obtain ⟨o, ho, hc, hd⟩ := id hit
  obtain ⟨od, es, hod, hcd, hdd, hk, hp, hn⟩ := id hm
  have hsz : es.size = kvs.length := by rw [← hp.length]; simp
  have hge : es.size ≤ i := by rw [hsz]; simpa using hx
  have own : Builtin.Dict_items.ownsTuple "dict_keyiterator" = false := by decide
  unfold pyNext
  refine wpAny_bind (wpAny_attempt (wpAny_callSpecial?_slot (name := Str.ofString "__next__") hit.typeIs F.slot_dict_keyiterator_next (wpAny_call_entry F.slot_dict_keyiterator_next hit.typeIs F.entry_dict_keyiterator_next ?_ (F.args_dict_keyiterator_next_1 _))))
  refine wpAny_bind (wpAny_pure (wpAny_bind (wpAny_bind ?_)))
  first | refine wpAny_bind (wpAny_typeNameOfWhole_keyiter hit.typeIs (wpAny_pure (wpAny_bind (wpAny_fieldsOf ho hd ?_)))) | refine wpAny_bind (wpAny_typeNameOf_keyiter hit.typeIs (wpAny_pure (wpAny_bind (wpAny_fieldsOf ho hd ?_))))
  simp only [own, Bool.false_eq_true, if_false]
  show wpAny _ _ (if (Value.ref d == Value.none) = true then _ else _) _ _ s; rw [if_neg (by simp)]
  refine wpAny_bind (wpAny_pure (wpAny_bind (wpAny_dictEntries hod hdd ?_)))
  rw [if_neg (by rw [hsz]; simp)]; refine wpAny_bind (wpAny_pure (wpAny_bind (wpAny_dictEpoch hod hdd ?_)))
  rw [if_neg (by simp)]; refine wpAny_pure ?_
  simp only [show ¬ ((i : Int) < 0) from by omega, if_false, Int.toNat_natCast, Array.getElem?_eq_none hge]; refine wpAny_bind ?_
  first | refine wpAny_bind (wpAny_typeNameOfWhole_keyiter hit.typeIs (wpAny_pure (wpAny_bind (m := setField (.ref it) 0 .none) (wpAny_setField ho hd (by simp) ?_)))) | refine wpAny_bind (wpAny_typeNameOf_keyiter hit.typeIs (wpAny_pure (wpAny_bind (m := setField (.ref it) 0 .none) (wpAny_setField ho hd (by simp) ?_))))
  refine stop_q (nt _ (Heap.SameBut.update ..)) fun h' e k ⟨oe, e1, e2⟩ => ?_
  refine wpAny_bind (wpAny_isInstance (T := "StopIteration") (b := true) ⟨_, e1, e2⟩ isSubtype_stop ?_)
  exact wpAny_pure (hQ _ fun b o n z => k b o ((Heap.SameBut.update ..).extBut b o n z))
theorem items_endQ {it d : Addr} {i : Nat} {f0 f1 ok ov : Value} {Q : Option Value → Shared → Prop} (nt : ∀ h', Heap.SameBut it s.heap h' → CalmH A h')
    (hit : s.heap.get? it = some { cls := .type "dict_itemiterator", dict := none, data := .fields #[f0, f1, .ref d, .int i 0, .int kvs.length 0, .int ep 0, ok, ov], slots := #[] }) (hm : s.heap.DictAt knd d kvs ep) (hx : kvs[i]? = none)
    (hQ : ∀ h', Heap.ExtBut it s.heap h' → Q none { s with heap := h' }) : wpAny (model prog w) A (pyNext (.ref it)) Q E s := by
  obtain ⟨od, es, hod, hcd, hdd, hk, hp, hn⟩ := id hm
  have hT : s.TypeIs (.ref it) "dict_itemiterator" := ⟨_, hit, rfl⟩
  have hsz : es.size = kvs.length := by rw [← hp.length]; simp
  have hge : es.size ≤ i := by rw [hsz]; simpa using hx
  have own : Builtin.Dict_items.ownsTuple "dict_itemiterator" = true := by decide
  unfold pyNext
  refine wpAny_bind (wpAny_attempt (wpAny_callSpecial?_slot (name := Str.ofString "__next__") hT F.slot_dict_itemiterator_next (wpAny_call_entry F.slot_dict_itemiterator_next hT F.entry_dict_itemiterator_next ?_ (F.args_dict_itemiterator_next_1 _))))
  refine wpAny_bind (wpAny_pure (wpAny_bind (wpAny_bind ?_)))
  first | refine wpAny_bind (wpAny_typeNameOfWhole_itemiter hT (wpAny_pure (wpAny_bind (wpAny_fieldsOf hit rfl ?_)))) | refine wpAny_bind (wpAny_typeNameOf_itemiter hT (wpAny_pure (wpAny_bind (wpAny_fieldsOf hit rfl ?_))))
  simp only [own, if_true]
  show wpAny _ _ (if (Value.ref d == Value.none) = true then _ else _) _ _ s; rw [if_neg (by simp)]
  refine wpAny_bind (wpAny_pure (wpAny_bind (wpAny_dictEntries hod hdd ?_)))
  rw [if_neg (by rw [hsz]; simp)]; refine wpAny_bind (wpAny_pure (wpAny_bind (wpAny_dictEpoch hod hdd ?_)))
  rw [if_neg (by simp)]; refine wpAny_pure ?_
  simp only [show ¬ ((i : Int) < 0) from by omega, if_false, Int.toNat_natCast, Array.getElem?_eq_none hge]; refine wpAny_bind ?_
  first | refine wpAny_bind (wpAny_typeNameOfWhole_itemiter hT (wpAny_pure (wpAny_bind (m := setField (.ref it) 2 .none) (wpAny_setField hit rfl (by simp) ?_)))) | refine wpAny_bind (wpAny_typeNameOf_itemiter hT (wpAny_pure (wpAny_bind (m := setField (.ref it) 2 .none) (wpAny_setField hit rfl (by simp) ?_))))
  refine stop_q (nt _ (Heap.SameBut.update ..)) fun h' e k ⟨oe, e1, e2⟩ => ?_
  refine wpAny_bind (wpAny_isInstance (T := "StopIteration") (b := true) ⟨_, e1, e2⟩ isSubtype_stop ?_)
  exact wpAny_pure (hQ _ fun b o n z => k b o ((Heap.SameBut.update ..).extBut b o n z))
theorem calm_from {A' : Around} {h h' : Heap} {it : Addr} (c : CalmH A s.heap) (e : A'.handled = A.handled) (kp : ∀ b o, s.heap.get? b = some o → h.get? b = some o) (hi : s.heap.objs.size ≤ it) (sb : Heap.SameBut it h h') : CalmH A' h' := by
  have c' : CalmH A' s.heap := by
    unfold CalmH at c ⊢
    rw [e]; exact c
  exact c'.all fun b o z => sb.extBut b o (Nat.ne_of_lt (Nat.lt_of_lt_of_le (Heap.lt_size z) hi)) (kp b o z)
theorem keys_collectQ {d : Addr} {R : List Value → Shared → Prop} (c : CalmH A s.heap) (lo : (d == sysModules) = false) (hm : s.heap.DictAt knd d kvs ep) (hn : kvs.length ≤ sizeLine)
    (h : ∀ (h' : Heap) (tk : Nat) (acc : Array Value), (∀ b o, s.heap.get? b = some o → h'.get? b = some o) → acc.size = kvs.length ∧ (∀ (j : Nat) v, acc[j]? = some v → ∃ k x, kvs[j]? = some (k, x) ∧ knd.is k v = true) → R acc.toList { s with heap := h', toks := tk }) :
    wpAny (model prog w) A (collect (.ref d)) R E s := by
  have hd := hm.lt_size
  have nI : ∀ b o, s.heap.get? b = some o → b ≠ s.heap.objs.size + 1 := fun b o e => Nat.ne_of_lt (Nat.lt_succ_of_lt (Heap.lt_size e))
  refine collect_q (T := "dict") (oI := { cls := .type "dict_keyiterator", data := .fields #[.ref d, .int 0 0, .int kvs.length 0, .int ep 0] }) (n := kvs.length)
    (J := fun i vs h => h.IsKeyIter (s.heap.objs.size + 1) d i kvs.length ep ∧ (∀ b o, s.heap.get? b = some o → h.get? b = some o) ∧ ∀ (j : Nat) v, vs[j]? = some v → ∃ k x, kvs[j]? = some (k, x) ∧ knd.is k v = true) ?_ hn fun h0 h' tk vs ⟨_, kp0, al⟩ lv kp => ?_
  · refine ⟨hd, fun s' k => (hm.at' fun o e => k d o e).dictOf.typeIs, by decide, by decide, fun _ _ _ _ hT hq => W.kdl_hint_dict hT hq, fun _ _ s' _ k hq => wpAny_pyIter_dict lo (hm.at' fun o e => k d o e) hq, fun h kp hI => ⟨⟨_, hI, rfl, rfl⟩, kp, fun j v e => by simp at e⟩, rfl, fun A' hA => ⟨?_, ?_, ?_⟩⟩
    · exact fun i vs h h' ⟨j1, j2, j3⟩ k => ⟨j1.at fun o e => k _ o (Nat.succ_ne_self _) e, fun b o e => k b o (Nat.ne_of_lt (Heap.lt_size e)) (j2 b o e), j3⟩
    · intro i vs h tk Q E hi lv ⟨j1, j2, j3⟩ _ hQ
      have hx : kvs[i]? = some (kvs[i].1, kvs[i].2) := List.getElem?_eq_getElem hi
      refine wpAny_pyNext_dict_item (s := { s with heap := h, toks := tk }) j1 (hm.at' fun o e => j2 d o e) hx fun key h' hkey hit' sb => ?_
      refine hQ key h' ⟨hit', fun b o e => sb.extBut b o (nI b o e) (j2 b o e), fun j v e => ?_⟩ fun b o n e => sb.extBut b o n e
      rcases Nat.lt_or_ge j vs.length with l | l
      · rw [List.getElem?_append_left l] at e; exact j3 j v e
      · rw [List.getElem?_append_right l] at e
        have e0 : j - vs.length = 0 := by
          cases q : j - vs.length with
          | zero => rfl
          | succ m => rw [q] at e; simp at e
        rw [e0] at e
        have e1 : key = v := by simpa using e
        have e2 : j = i := by omega
        subst e1 e2
        exact ⟨_, _, hx, hkey⟩
    · intro vs h tk Q E ⟨j1, j2, j3⟩ hQ
      exact keys_endQ (s := { s with heap := h, toks := tk }) (fun h' sb => calm_from c hA j2 (Nat.le_succ _) sb) j1 (hm.at' fun o e => j2 d o e) (by simp) fun h' eb => hQ h' fun b o n e => eb b o n e
  · have e : vs = vs.toArray.toList := by simp
    rw [e]
    exact h h' tk vs.toArray (fun b o e => kp b o (nI b o e) (kp0 b o e)) ⟨by simpa using lv, fun j v e => al j v (by simpa using e)⟩
theorem items_collectQ {r d : Addr} {R : List Value → Shared → Prop} (c : CalmH A s.heap) (hv : s.heap.IsItemsView r d) (hm : s.heap.DictAt knd d kvs ep) (hn : kvs.length ≤ sizeLine)
    (h : ∀ (h' : Heap) (tk : Nat) (as : List Addr), (∀ b o, s.heap.get? b = some o → h'.get? b = some o) → as.length = kvs.length → W.KdxG knd kvs s.heap.objs.size h' as → R (as.map Value.ref) { s with heap := h', toks := tk }) :
    wpAny (model prog w) A (collect (.ref r)) R E s := by
  have hd := hm.lt_size
  have nI : ∀ b o, s.heap.get? b = some o → b ≠ s.heap.objs.size + 1 := fun b o e => Nat.ne_of_lt (Nat.lt_succ_of_lt (Heap.lt_size e))
  have view : ∀ h : Heap, (∀ b o, s.heap.get? b = some o → h.get? b = some o) → h.IsItemsView r d := fun h k => let ⟨o, ho, x⟩ := hv; ⟨o, k r o ho, x⟩
  refine collect_q (T := "dict_items") (oI := { cls := .type "dict_itemiterator", data := .fields #[.none, .bool false, .ref d, .int 0 0, .int kvs.length 0, .int ep 0, .none, .none] }) (n := kvs.length)
    (J := fun i vs h => W.KdxSt h (s.heap.objs.size + 1) d s.heap.objs.size i kvs.length ep ∧ (∀ b o, s.heap.get? b = some o → h.get? b = some o) ∧ s.heap.objs.size + 1 < h.objs.size ∧ ∃ as : List Addr, vs = as.map Value.ref ∧ W.KdxG knd kvs (s.heap.objs.size + 1) h as) ?_ hn
    fun h0 h' tk vs ⟨_, kp0, _, as, ev, G⟩ lv kp => ?_
  · refine ⟨let ⟨_, ho, _⟩ := hv; Heap.lt_size ho, fun s' k => (view _ k).typeIs, by decide, by decide, fun _ _ _ _ hT hq => W.kdx_hint hT hq, fun _ _ s' _ k hq => wpAny_pyIter_items (view _ k) (hm.at' fun o e => k d o e) hq,
      fun h kp hI => ⟨.inl ⟨rfl, .none, .none, hI⟩, kp, Heap.lt_size hI, [], rfl, ⟨List.Pairwise.nil, (fun _ ha => nomatch ha), (fun j a hj => by simp at hj)⟩⟩, rfl, fun A' hA => ⟨?_, ?_, ?_⟩⟩
    · rintro i vs h h' ⟨j1, j2, j3, as, ev, G⟩ k
      obtain ⟨oI, hI⟩ : ∃ o, h.get? (s.heap.objs.size + 1) = some o := by
        rcases j1 with ⟨_, _, _, e⟩ | ⟨_, _, _, _, _, e, _⟩
        · exact ⟨_, e⟩
        · exact ⟨_, e⟩
      refine ⟨j1.keep k (Nat.succ_ne_self _), fun b o e => k b o (Nat.ne_of_lt (Heap.lt_size e)) (j2 b o e), Heap.lt_size (k _ _ (Nat.succ_ne_self _) hI), as, ev, G.rise, G.above, fun j a e => ?_⟩
      obtain ⟨key, kk, x, e1, e2, e3⟩ := G.pairs j a e
      exact ⟨key, kk, x, e1, e2, k a _ (Nat.ne_of_gt (Nat.lt_trans (Nat.lt_succ_self _) (G.above a (List.mem_of_getElem? e)))) e3⟩
    · rintro i vs h tk Q E hi lv ⟨j1, j2, j3, as, rfl, G⟩ hS hQ
      rw [List.length_map] at lv
      have hx : kvs[i]? = some (kvs[i].1, kvs[i].2) := List.getElem?_eq_getElem hi
      refine W.kdx_item (s := { s with heap := h, toks := tk }) j1 hS (hm.at' fun o e => j2 d o e) hx fun key h' hkey hst' ht hz hkp => ?_
      dsimp only at ht hz hkp
      refine hQ _ h' ⟨hst', fun b o e => hkp b o (nI b o e) (j2 b o e), by show _ < h'.objs.size; omega, as ++ [h.objs.size], by rw [List.map_append]; rfl, ?_, ?_, ?_⟩ fun b o n e => hkp b o n e
      · refine List.pairwise_append.mpr ⟨G.rise, List.pairwise_singleton _ _, fun a ha b hb => ?_⟩
        rw [List.mem_singleton.mp hb]; exact G.there ha
      · intro a ha
        rcases List.mem_append.mp ha with ha | ha
        · exact G.above a ha
        · rw [List.mem_singleton.mp ha]; exact j3
      · intro j a e
        rcases Nat.lt_or_ge j as.length with l | l
        · rw [List.getElem?_append_left l] at e
          obtain ⟨key', k', x', e1, e2, e3⟩ := G.pairs j a e
          exact ⟨key', k', x', e1, e2, hkp a _ (Nat.ne_of_gt (G.above a (List.mem_of_getElem? e))) e3⟩
        · rw [List.getElem?_append_right l] at e
          have e0 : j - as.length = 0 := by
            cases q : j - as.length with
            | zero => rfl
            | succ m => rw [q] at e; simp at e
          rw [e0] at e
          have e1 : h.objs.size = a := by simpa using e
          have e2 : j = i := by omega
          subst e1 e2
          exact ⟨key, _, _, hx, hkey, ht⟩
    · rintro vs h tk Q E ⟨j1, j2, j3, as, ev, G⟩ hQ
      have nt : ∀ h', Heap.SameBut (s.heap.objs.size + 1) h h' → CalmH A' h' := fun h' sb => calm_from c hA j2 (Nat.le_succ _) sb
      rcases j1 with ⟨z, ok, ov, hit⟩ | ⟨ok, ov, a, f, oa, hit, _⟩
      · exact items_endQ (s := { s with heap := h, toks := tk }) (i := kvs.length) nt (by rw [z]; rw [z] at hit; exact hit) (hm.at' fun o e => j2 d o e) (by simp) fun h' eb => hQ h' fun b o n e => eb b o n e
      · exact items_endQ (s := { s with heap := h, toks := tk }) (i := kvs.length) nt hit (hm.at' fun o e => j2 d o e) (by simp) fun h' eb => hQ h' fun b o n e => eb b o n e
  · subst ev
    rw [List.length_map] at lv
    refine h h' tk as (fun b o e => kp b o (nI b o e) (kp0 b o e)) lv ⟨G.rise, fun a ha => Nat.lt_trans (Nat.lt_succ_self _) (G.above a ha), fun j a e => ?_⟩
    obtain ⟨key, kk, x, e1, e2, e3⟩ := G.pairs j a e
    exact ⟨key, kk, x, e1, e2, kp a _ (Nat.ne_of_gt (G.above a (List.mem_of_getElem? e))) e3⟩
end
section
variable {X : Cx}
theorem call_sortedDQ {k0 : Nat} (hr : RoomQ k0 X.A X.H₀) : CallR X (.builtin "sorted") (fun xs H Q => ∃ d kvs, xs = [.ref d] ∧ H d = some (.dK kvs) ∧ IntK kvs ∧ kvs.length < 64 ∧
    ∀ l (ks : List Int), H l = none → ks.Perm (kvs.map fun q => keyI q.1) → ks.Pairwise (· < ·) → Q (.ref l) (upd H l (.lst (ks.map V.int)))) := by
  intro pins s σ H xs us Q I r h
  obtain ⟨d, kvs, rfl, hd, hi, hl, q⟩ := h
  obtain ⟨u, rfl, ru⟩ := vals1 r
  obtain rfl : u = Value.ref d := ru
  obtain ⟨hz, hS, vs, rel, o, es, ep, dd⟩ := dk_of I.hok hd
  have hlen := rel.len
  have nd : (kvs.map (·.1)).Nodup := by rw [rel.fsts]; exact dd.2.2.2.2.2
  have hh : CalmH X.A.in1 s.heap := (I.mild hr).md.calm I.hok fun _ _ _ _ z => z
  refine sorted_free fun {R E'} k => keys_collectQ (knd := mixKind X.prog X.w) (kvs := vs) (ep := ep) hh hS ⟨o, es, dd⟩ (by rw [← hlen]; exact hz) fun h1 tk acc kp it => ?_
  obtain ⟨hsz, hit⟩ := it
  have at_ : ∀ j, j < kvs.length → ∃ t, acc.toList.getD j Value.none = .int (kAt kvs j) t := fun j hj => by
    have e : acc[j]? = some acc[j] := Array.getElem?_eq_getElem (by rw [hsz, ← hlen]; exact hj)
    obtain ⟨kk, x, e1, e2⟩ := hit j _ e
    obtain ⟨v, e3, _⟩ := rel.at e1
    obtain ⟨i, e4⟩ := hi _ (List.mem_of_getElem? e3)
    have e4 : kk = .inl i := e4
    subst e4
    obtain ⟨t, e5⟩ := is_int e2
    refine ⟨t, ?_⟩
    rw [kAt_of e3, ← e5, List.getD_eq_getElem?_getD]
    rw [← Array.getElem?_toList] at e
    rw [e]; rfl
  have la : acc.toList.length = kvs.length := by rw [Array.length_toList, hsz, hlen]
  refine k acc.toList { s with heap := h1, toks := tk } ⟨kAt kvs, by omega, by rw [la]; exact nodup_key hi nd, kp, rfl, rfl, rfl, fun h' kp' h2 => ⟨oneType', ?_, ?_⟩, ?_⟩
  · intro Q E q
    refine W.kas_kind h2 (fun v hv => ?_) rfl rfl q (T := .type "int")
    obtain ⟨j, hj, rfl⟩ := List.mem_iff_getElem.mp hv
    obtain ⟨t, e⟩ := at_ j (by omega)
    rw [List.getD_eq_getElem?_getD, List.getElem?_eq_getElem hj] at e
    have e : acc.toList[j] = Value.int (kAt kvs j) t := e
    rw [e]
    intro A Q E s _ q
    exact wpAny_pure q
  · intro i j C h1' h2' hne c
    unfold W.kas_ask
    obtain ⟨t1, e1⟩ := at_ i (by omega)
    obtain ⟨t2, e2⟩ := at_ j (by omega)
    rw [e1, e2]
    exact W.kat_lt_int c
  · intro h' l p kk g as hle kp' gl
    rw [la] at g as
    have sl : s.heap.get? l = none := by
      cases z : s.heap.get? l with
      | none => rfl
      | some o => exact absurd (Heap.lt_size (kp l o z)) (Nat.not_lt.mpr hle)
    have hnl : H l = none := by
      cases z : H l with
      | none => rfl
      | some u =>
        obtain ⟨o, e⟩ := (I.hok l u z).there
        rw [sl] at e; cases e
    have hV : Vals ((p.toList.map (kAt kvs)).map V.int) (p.toList.map fun i => acc.toList.getD i .none) := by
      have gen : ∀ L : List Nat, (∀ i ∈ L, i < kvs.length) → Vals ((L.map (kAt kvs)).map V.int) (L.map fun i => acc.toList.getD i .none) := by
        intro L
        induction L with
        | nil => intro _; exact .nil
        | cons i r ih =>
          intro hL
          obtain ⟨t, e⟩ := at_ i (hL i (by simp))
          exact .cons ⟨t, e⟩ (ih fun j hj => hL j (by simp [hj]))
      refine gen _ fun i hi => ?_
      have := (g.pm.mem_iff).mp (show i ∈ p by simpa using hi)
      simpa using this
    have lL : ((p.toList.map (kAt kvs)).map V.int).length ≤ sizeLine := by
      have e : sizeLine = 16777216 := by decide
      simp [g.sz]; omega
    refine ⟨.ref l, upd H l (.lst ((p.toList.map (kAt kvs)).map V.int)), I.more (t' := tk) (fun b o e => kp' b o (kp b o e)) (fun b o e => by rw [upd_ne (ne_of_none e hnl)]; exact e) (fun b o e n => ?_) (fun b o n e => ?_), rfl, q l _ hnl (perm_keys g) (asc_pairwise g as)⟩
    · by_cases hb : b = l
      · rw [hb]; exact sl
      · rw [upd_ne hb, n] at e; cases e
    · by_cases hb : b = l
      · subst hb
        rw [upd_same] at e; cases e
        exact ⟨lL, _, _, hV, gl⟩
      · rw [upd_ne hb, n] at e; cases e
theorem call_sortedIQ {k0 : Nat} (hr : RoomQ k0 X.A X.H₀) : CallR X (.builtin "sorted") (fun xs H Q => ∃ v d kvs, xs = [.ref v] ∧ H v = some (.frz (viewO d) (.own 0)) ∧ H d = some (.dK kvs) ∧ IntK kvs ∧ kvs.length < 64 ∧
    ∀ l (as : List Addr) (rows : List (Int × V)) H', (∀ b o, H b = some o → H' b = some o) → H l = none → H' l = some (.lst (as.map V.ref)) → Paired (fun a (r : Int × V) => H' a = some (.tup [.int r.1, r.2])) as rows →
      (rows.map (·.1)).Pairwise (· < ·) → rows.Perm (kvs.map fun q => (keyI q.1, q.2)) → Q (.ref l) H') := by
  intro pins s σ H xs us Q I r h
  obtain ⟨v, d, kvs, rfl, hv, hd, hi, hl, q⟩ := h
  obtain ⟨u, rfl, ru⟩ := vals1 r
  obtain rfl : u = Value.ref v := ru
  obtain ⟨hz, hS, vs, rel, o, es, ep, dd⟩ := dk_of I.hok hd
  have hlen := rel.len
  have nd : (kvs.map (·.1)).Nodup := by rw [rel.fsts]; exact dd.2.2.2.2.2
  have hh : CalmH X.A.in1 s.heap := (I.mild hr).md.calm I.hok fun _ _ _ _ z => z
  have hview : s.heap.IsItemsView v d := ⟨_, (I.hok _ _ hv).1, rfl, rfl⟩
  refine sorted_free fun {R E'} k => items_collectQ (knd := mixKind X.prog X.w) hh hview ⟨o, es, dd⟩ (by rw [← hlen]; exact hz) fun h1 tk as kp la G => ?_
  have la' : as.length = kvs.length := by rw [la, hlen]
  have nda : as.Nodup := G.rise.imp fun z => Nat.ne_of_lt z
  have at_ : ∀ j, j < kvs.length → ∃ a t x i vv, as[j]? = some a ∧ kvs[j]? = some (.inl i, vv) ∧ RelV vv x ∧ kAt kvs j = i ∧ h1.get? a = some { cls := .type "tuple", data := .seq #[.int i t, x] } ∧ s.heap.objs.size < a := fun j hj => by
    have e : as[j]? = some (as[j]'(by omega)) := List.getElem?_eq_getElem (by omega)
    obtain ⟨key, kk, x, e1, e2, e3⟩ := G.pairs j _ e
    obtain ⟨vv, e4, rv⟩ := rel.at e1
    obtain ⟨i, e5⟩ := hi _ (List.mem_of_getElem? e4)
    have e5 : kk = .inl i := e5
    subst e5
    obtain ⟨t, rfl⟩ := is_int e2
    exact ⟨_, t, x, i, vv, e, e4, rv, kAt_of e4, e3, G.above _ (List.getElem_mem _)⟩
  have gd_ : ∀ j a, as[j]? = some a → (as.map Value.ref).getD j Value.none = .ref a := fun j a e => by
    rw [List.getD_eq_getElem?_getD, List.getElem?_map, e]; rfl
  refine k (as.map Value.ref) { s with heap := h1, toks := tk } ⟨kAt kvs, by simp; omega, by rw [List.length_map, la']; exact nodup_key hi nd, kp, rfl, rfl, rfl, fun h' kp' h2 => ⟨tuples' true, ?_, ?_⟩, ?_⟩
  · intro Q E q
    obtain ⟨fs, f1, f2, f3⟩ := katTups_of (h := h') (PF := fun f => ∃ i t, f = Value.int i t) (as.map Value.ref) fun w' hw => by
      obtain ⟨a, ha, rfl⟩ := List.mem_map.mp hw
      obtain ⟨j, hj, rfl⟩ := List.mem_iff_getElem.mp ha
      obtain ⟨a, t, x, i, vv, e1, e2, e3, e4, e5, e6⟩ := at_ j (by omega)
      rw [List.getElem?_eq_getElem hj] at e1
      cases e1
      exact ⟨_, _, _, _, _, rfl, kp' _ _ e5, rfl, rfl, rfl, i, t, rfl⟩
    refine W.kat_kind f1 (by rw [f2]; omega) (fun f hf => ?_) rfl q (T := .type "int")
    obtain ⟨i, t, rfl⟩ := f3 f hf
    intro A Q E s _ q
    exact wpAny_pure q
  · intro i j C h1' h2' hne c
    rw [List.length_map, la'] at h1' h2'
    unfold W.kas_ask
    obtain ⟨a1, t1, x1, i1, v1, e11, e12, e13, e14, e15, e16⟩ := at_ i h1'
    obtain ⟨a2, t2, x2, i2, v2, e21, e22, e23, e24, e25, e26⟩ := at_ j h2'
    rw [gd_ i a1 e11, gd_ j a2 e21]
    refine W.kat_lt (kp' _ _ e15) rfl (kp' _ _ e25) rfl ?_
    refine W.kat_cons (wpAny_eqBool_int ?_)
    have ne : i1 ≠ i2 := fun z => hne (nodup_key hi nd i j h1' h2' (by show kAt kvs i = kAt kvs j; rw [e14, e24, z]))
    rw [show (i1 == i2) = false by simpa using ne]
    refine W.kat_no ?_
    show wpAny _ _ (oneLt' true _ _) _ _ _
    rw [← keyLt'_oneType]
    refine W.kat_lt_int ?_
    have : fK (kAt kvs) i j = decide (i1 < i2) := by show decide (kAt kvs i < kAt kvs j) = _; rw [e14, e24]
    rw [this] at c
    exact c
  · intro h' l p kk g as' hle kp' gl
    rw [List.length_map, la'] at g as'
    have pin : ∀ i ∈ p.toList, i < kvs.length := fun i hi => by
      have := (g.pm.mem_iff).mp (show i ∈ p by simpa using hi)
      simpa using this
    have sl : s.heap.get? l = none := by
      cases z : s.heap.get? l with
      | none => rfl
      | some o => exact absurd (Heap.lt_size (kp l o z)) (Nat.not_lt.mpr hle)
    have hnl : H l = none := by
      cases z : H l with
      | none => rfl
      | some u =>
        obtain ⟨o, e⟩ := (I.hok l u z).there
        rw [sl] at e; cases e
    have inas : ∀ a ∈ as, ∃ j, j < kvs.length ∧ as[j]? = some a := fun a ha => by
      obtain ⟨j, hj, e⟩ := List.mem_iff_getElem.mp ha
      exact ⟨j, by omega, by rw [List.getElem?_eq_getElem hj, e]⟩
    have asz : ∀ a ∈ as, s.heap.objs.size < a ∧ a < h1.objs.size := fun a ha => by
      obtain ⟨j, hj, e⟩ := inas a ha
      obtain ⟨a', t, x, i, vv, e1, e2, e3, e4, e5, e6⟩ := at_ j hj
      rw [e] at e1; cases e1
      exact ⟨e6, Heap.lt_size e5⟩
    have lnas : l ∉ as := fun z => absurd (asz l z).2 (Nat.not_lt.mpr hle)
    have anl : ∀ a ∈ as, a ≠ l := fun a ha e => lnas (e ▸ ha)
    generalize hH' : (fun b => if b = l then some (HO.lst ((p.toList.map fun i => as.getD i 0).map V.ref)) else match (as.zip kvs).lookup b with | some kv => some (HO.tup [V.int (keyI kv.1), kv.2]) | none => H b : Hp) = H'
    have H'l : H' l = some (.lst ((p.toList.map fun i => as.getD i 0).map V.ref)) := by rw [← hH']; exact if_pos rfl
    have H'a : ∀ (j : Nat) (a : Addr) (i : Int) (vv : V), as[j]? = some a → kvs[j]? = some (Sum.inl i, vv) → H' a = some (.tup [.int i, vv]) := fun j a i vv e1 e2 => by
      rw [← hH']
      show (if a = l then _ else _) = _
      rw [if_neg (anl a (List.mem_of_getElem? e1)), lookup_zip nda la' e1, e2]; rfl
    have H'o : ∀ b, b ≠ l → b ∉ as → H' b = H b := fun b n1 n2 => by
      rw [← hH']
      show (if b = l then _ else _) = _
      rw [if_neg n1, lookup_none n2]
    have ext : ∀ b o, H b = some o → H' b = some o := fun b o e => by
      rw [H'o b (ne_of_none e hnl) fun z => by
        have := I.hok.fresh (Nat.le_of_lt (asz b z).1)
        rw [this] at e; cases e]
      exact e
    have pr : ∀ L : List Nat, (∀ i ∈ L, i < kvs.length) → Paired (fun a (r : Int × V) => H' a = some (.tup [.int r.1, r.2])) (L.map fun i => as.getD i 0) (L.map fun i => (kAt kvs i, vAt kvs i)) := by
      intro L
      induction L with
      | nil => intro _; exact .nil
      | cons i r ih =>
        intro hL
        obtain ⟨a, t, x, ii, vv, e1, e2, e3, e4, e5, e6⟩ := at_ i (hL i (by simp))
        refine .cons ?_ (ih fun j hj => hL j (by simp [hj]))
        show H' (as.getD i 0) = some (.tup [.int (kAt kvs i), vAt kvs i])
        rw [e4, vAt_of e2, List.getD_eq_getElem?_getD, e1]
        exact H'a i a ii vv e1 e2
    have hV : ∀ L : List Nat, (∀ i ∈ L, i < kvs.length) → Vals ((L.map fun i => as.getD i 0).map V.ref) (L.map fun i => (as.map Value.ref).getD i .none) := by
      intro L
      induction L with
      | nil => intro _; exact .nil
      | cons i r ih =>
        intro hL
        obtain ⟨a, t, x, ii, vv, e1, e2, e3, e4, e5, e6⟩ := at_ i (hL i (by simp))
        refine .cons ?_ (ih fun j hj => hL j (by simp [hj]))
        show RelV (.ref (as.getD i 0)) ((as.map Value.ref).getD i .none)
        rw [gd_ i a e1, List.getD_eq_getElem?_getD, e1]
        rfl
    have hsz : sizeLine = 16777216 := by decide
    refine ⟨.ref l, H', I.more (t' := tk) (fun b o e => kp' b o (kp b o e)) ext (fun b o e n => ?_) (fun b o n e => ?_), rfl, q l _ (p.toList.map fun i => (kAt kvs i, vAt kvs i)) H' ext hnl H'l (pr _ pin) ?_ (perm_rows g)⟩
    · by_cases hb : b = l
      · rw [hb]; exact sl
      · by_cases hb2 : b ∈ as
        · exact Heap.get?_none_of_le (Nat.le_of_lt (asz b hb2).1)
        · rw [H'o b hb hb2, n] at e; cases e
    · by_cases hb : b = l
      · subst hb
        rw [H'l] at e; cases e
        exact ⟨by simp [g.sz]; omega, _, _, hV _ pin, gl⟩
      · by_cases hb2 : b ∈ as
        · obtain ⟨j, hj, e0⟩ := inas b hb2
          obtain ⟨a, t, x, ii, vv, e1, e2, e3, e4, e5, e6⟩ := at_ j hj
          rw [e0] at e1; cases e1
          rw [H'a j b ii vv e0 e2] at e; cases e
          exact ⟨by show (2 : Nat) ≤ _; decide, [.int ii t, x], .cons ⟨t, rfl⟩ (.cons e3 .nil), _, kp' _ _ e5, rfl, _, rfl⟩
        · rw [H'o b hb hb2, n] at e; cases e
    · have := asc_pairwise g as'
      rw [List.map_map]
      exact this
end
end L2
namespace L2
open PySem PySem.Spec PyProof.Rows
theorem FnQ.any {P : Program} {w : World} {K : PySem.W.Frag} {mg : Str → Option Value} {base : Heap} {n k : Nat} {x : Str} {ps : List Str} {sp : Nat → Sp} (h : ∀ b, b ≤ n → FnQ P w K mg base k x ps (sp b)) : FnQ P w K mg base k x ps (fun vs H Q E => ∃ b, b ≤ n ∧ sp b vs H Q E) := by
  obtain ⟨f, fd, h1, h2, h3, h4, oc, od, sl, h5⟩ := h 0 (Nat.zero_le _)
  refine ⟨f, fd, h1, h2, h3, ⟨fun vs H Q E ⟨b, hb, q⟩ => ?_, fun A outer s H args us vs Q E hr e0 hbd r ⟨b, hb, q⟩ => ?_⟩, oc, od, sl, h5⟩
  · obtain ⟨f', fd', a1, a2, a3, a4, _⟩ := h b hb
    exact a4.len _ _ _ _ q
  · obtain ⟨f', fd', a1, a2, a3, a4, oc', od', sl', a5⟩ := h b hb
    have e := h1.symm.trans a1
    cases e
    rw [h5] at a5
    cases a5
    exact a4.run A outer s H args us vs Q E hr e0 hbd r q
section
variable {X : Cx} {k : Nat} {ps : List Str} {sp : Sp} {x : Str} {p pos : Pos} {e : Expr} {es : List Expr} {t : TA}
def tCallM (A : Around) (sp : Sp) (t : TA) : TE := fun σ H Q => t σ H fun vs H1 => Mild A H1 ∧ sp vs H1 Q E0
theorem pe_callM (F : FnQ X.prog X.w X.K X.mg X.base k x ps sp) (hr : RoomH k X.A) (hg : Gl X x) (ha : PA X (e :: es) t) (hdb : (x == ("__debug__" : Str)) = false := by decide)
    (he : starEach (e :: es) X.env = (false, eval e X.env) :: starEach es X.env := by rfl) (hpl : (backTo pos (starEach es X.env)).any (·.1) = false := by rfl) : PE X (.Call (.Name x p) (e :: es) [] pos) (tCallM X.A sp t) := by
  obtain ⟨f, fd, h1, h2, h3, h4, _⟩ := F
  intro pins s σ H Q I hq
  refine wpAny_Call_Name_kw (ld_glob I hg h1 ?_ hdb)
  refine PySem.W.callWith_K (h₀ := X.base) I.ok.mod.kin h2 (thn (ha pos pins s σ H _ I hq) fun us s1 ⟨vs, H1, I1, r, md, q⟩ => ⟨I1.kIn, ?_⟩) he hpl
  exact cr_done I1 (h4.called h3 ⟨md, hr.dp, hr.un⟩ I1.env0 r q)
theorem passR0 : Passes (CXR X.prog X.w) X (fun _ _ _ => False) := by
  intro pins σ H s e s' I hq
  obtain ⟨_, _, _, _, _, _, _, _, _, _, z⟩ := hq
  exact z.elim
theorem Mild.hand {A : Around} {H' : Hp} {ea : Addr} {oe : Obj} (c : ChO H' ea oe) : Mild (A.mark (some (.ref ea))) (upd H' ea (.frz oe (.own 0))) := by
  obtain ⟨vs, d, z⟩ := c
  refine .inr ⟨ea, oe, vs, rfl, upd_same, d, ?_⟩
  rcases z with z | ⟨e1, o1, v1, z1, z2, z3, z4, z5⟩
  · exact .inl z
  · exact .inr ⟨e1, o1, v1, z2, z1, by rw [upd_ne z2]; exact z3, z4, z5⟩
def tTryRC (C : Addr) (i : Nat) (tb : TSr) (te : TS) (th : Addr → TS) : TS := fun D σ H => tb { D with nx := te D } (fun σ' C' d H' => C' = C ∧ ∀ ea oe, H' ea = none → IsR C d oe → ChO H' ea oe → th ea (handEnds i D) (σ'.set i (some (.ref ea))) (upd H' ea (.frz oe (.own 0)))) σ H
theorem ps_tryRC {x n : Str} {C : Addr} {i : Nat} {body suite orelse : List Stmt} {b₀ : Stmt} {tb : TSr} {te : TS} {th : Addr → TS} {np hpos pos : Pos} (hex : X.ex = []) (hst : X.stack = X.env :: X.outer ∧ X.env.frame = some X.env.locals) (hN : X.N.Nodup) (hi : X.N[i]? = some n) (hk : X.env.scope.names.lookup n = some .local)
    (xc : XOwn X.K C) (hg : Gl X x) (hm : X.mg x = some (.ref C)) (hb : PSsr X body tb) (ho : PSs X orelse te) (hh : ∀ e, PSs (X.hand e).nox (b₀ :: suite) (th e)) (hdb : (x == ("__debug__" : Str)) = false := by decide) :
    PS X (.Try body [.ExceptHandler (some (.Name x np)) (some n) (b₀ :: suite) hpos] orelse [] pos) (tTryRC C i tb te th) := by
  intro pins s σ H D I h
  refine wpAny_Try_except (wpAny_mono (hb pins s σ H { D with nx := te D } _ I h) (fun f s1 q => ?_) fun e s1 q => ?_)
  · cases f with
    | next => obtain ⟨σ1, H1, I1, q⟩ := q; exact ho pins s1 σ1 H1 D I1 q
    | brk => exact q
    | cont => exact q
    | ret u => exact q
  · obtain ⟨ea, t, C', B, H0, H', σ', s0, d, rfl, I0, F, da, ch, rfl, q⟩ := q
    refine land_okR hex hst xc hg hm hdb I0 F da ch fun s3 k => codeAny_handlers_suite_as (k fun s4 oe I4 I5 n0 ix co => ?_)
    refine store_ok (X := X.hand ea) (I5.hand ea) hN hi (.inl hk) (v := .ref ea) rfl (fun s6 I6 => ?_) (.inr hk)
    refine wpAny_mono (hh ea pins s6 _ _ (handEnds i D) (I6.wish _) (q ea oe n0 ix co)) (fun f s7 q7 => ?_) fun _ _ z => z.elim
    cases f with
    | next => obtain ⟨σ7, H7, I7, q⟩ := q7; exact unbind_ok (I7.unwish.unhand I0.ok) hN hi hk fun s8 I8 => ⟨_, _, I8, q⟩
    | brk => obtain ⟨σ7, H7, I7, q⟩ := q7; exact unbind_ok (I7.unwish.unhand I0.ok) hN hi hk fun s8 I8 => ⟨_, _, I8, q⟩
    | cont => obtain ⟨σ7, H7, I7, q⟩ := q7; exact unbind_ok (I7.unwish.unhand I0.ok) hN hi hk fun s8 I8 => ⟨_, _, I8, q⟩
    | ret u => obtain ⟨v, σ7, H7, I7, r, q⟩ := q7; exact unbind_ok (I7.unwish.unhand I0.ok) hN hi hk fun s8 I8 => ⟨v, _, _, I8, r, q⟩
end
end L2
namespace My
open PySem L2
def top (i : Nat) : Stmt := PySem.Challenge.pw_growbook_k10_changed.main.body.getD i (.Pass ⟨0, 0, 0, 0⟩)
abbrev sNone : Stmt := top 6
abbrev sCell : Stmt := top 24
abbrev sPlain : Stmt := top 25
abbrev sTurned : Stmt := top 26
abbrev sNumbering : Stmt := top 27
abbrev sSealBy : Stmt := top 28
abbrev sLaw : Stmt := top 37
abbrev sRight : Stmt := top 36
abbrev sInD : Stmt := top 8
abbrev sRow : Stmt := top 9
abbrev sFork : Stmt := top 10
abbrev sTabS : Stmt := top 11
abbrev sPartOf : Stmt := top 12
abbrev sTopPart : Stmt := top 13
abbrev sDraw : Stmt := top 29
abbrev sIsKey : Stmt := top 18
abbrev sReadKey : Stmt := top 19
abbrev sLtext : Stmt := top 33
abbrev sLpart : Stmt := top 31
abbrev sWord : Stmt := top 30
abbrev sTakeS : Stmt := top 21
abbrev sLtab : Stmt := top 32
abbrev sBehind : Stmt := top 34
abbrev sSpoilt : Stmt := top 35
abbrev sReadAt : Stmt := top 20
abbrev sChanged : Stmt := top 22
abbrev mBRInit : Stmt := inClass (top 4) 0
abbrev mInit : Stmt := inClass (top 14) 0
abbrev mCheck : Stmt := inClass (top 14) 1
abbrev mPut : Stmt := inClass (top 14) 2
abbrev mCut : Stmt := inClass (top 14) 3
abbrev mHead : Stmt := inClass (top 14) 5
abbrev mTwin : Stmt := inClass (top 14) 7
abbrev mRows : Stmt := inClass (top 14) 8
abbrev qN : Str := "_law_numbering.<locals>._law_numbered"
abbrev sNumd : Stmt := (defBody sNumbering).getD 1 (.Pass ⟨0, 0, 0, 0⟩)
section
variable {P : Program} {w : World} {K : PySem.W.Frag} {mg : Str → Option Value} {base : Heap}
theorem scPl : FnScope mot mot (defScope sPlain) := ⟨rfl, rfl, rfl, by decide +kernel, rfl, by decide +kernel, by decide +kernel⟩
theorem scTu : FnScope mot mot (defScope sTurned) := ⟨rfl, rfl, rfl, by decide +kernel, rfl, by decide +kernel, by decide +kernel⟩
theorem ok_plain (F : FunAt K mg "_law_plain" sPlain) : FnQ P w K mg base 1 "_law_plain" mot spPlain := by
  refine F.okQ scPl (fun _ _ _ _ _ _ us hl => match us, hl with | [_, _, _], _ => rfl) (fun vs H Q E h => ?_) (fun f cdv A outer s H vs Q E hr h => ?_)
  · obtain ⟨m, v1, v2, rfl, _⟩ := h; rfl
  obtain ⟨m, v1, v2, rfl, q⟩ := h
  refine ⟨_, pss_one (ps_ret (pe_tup (pa_cons (pv 0) (pa_cons (pv 1) (pa_cons (pv 2) pa_nil))))), ?_⟩
  exact ⟨_, rfl, _, rfl, _, rfl, (by show 3 ≤ sizeLine; decide), fun p hp => q p hp⟩
theorem ok_turned (F : FunAt K mg "_law_turned" sTurned) : FnQ P w K mg base 1 "_law_turned" mot spTurned := by
  refine F.okQ scTu (fun _ _ _ _ _ _ us hl => match us, hl with | [_, _, _], _ => rfl) (fun vs H Q E h => ?_) (fun f cdv A outer s H vs Q E hr h => ?_)
  · obtain ⟨m, v1, v2, rfl, _⟩ := h; rfl
  obtain ⟨m, v1, v2, rfl, q⟩ := h
  refine ⟨_, pss_one (ps_ret (pe_tup (pa_cons pe_str (pa_cons (pv 2) (pa_cons (pv 1) (pa_cons (pv 0) pa_nil)))))), ?_⟩
  exact ⟨_, rfl, _, rfl, _, rfl, (by show 4 ≤ sizeLine; decide), fun p hp => q p hp⟩
theorem clN : ClScope mot "_law_told" (defScope sNumd) := ⟨rfl, rfl, rfl, by decide +kernel, by decide +kernel, by decide +kernel, fun x h => by
  have e : (defScope sNumd).names = ([("_law_mark", NameKind.local), ("_law_one", NameKind.local), ("_law_two", NameKind.local), ("_law_told", NameKind.free), ("len", NameKind.globalImplicit)] : List (Str × NameKind)) := rfl
  rw [e] at h
  have m := PySem.mem_of_lookup h
  simp at m
  exact m, rfl⟩
theorem num_run {A : Around} {outer : List Env} {s : Shared} {H : Hp} {us : List Value} {Q : VK} {E : XK} {f d : Addr} {m : Str} {t1 t2 : Tm} {v1 v2 : V} (ml : mg "len" = none) (hr : RoomQ 1 A H) (e0 : Env0 P w K mg base A outer s H) (r : Vals [.str m, v1, v2] us)
    (hS : SealAt K mg sNumd (.num d) H f) (hc : Cap (.num d) H 1) (i1 : isT (.num d) H t1 v1) (i2 : isT (.num d) H t2 v2) (q : ∀ v H', Gr (.num d) 1 H H' → isT (.num d) H' (.nd m t1 t2) v → Q v H') :
    codeAny (model P w) A (.call (.ref f) ⟨us, []⟩) (CR CX0 outer P w H s Q E) s := by
  obtain ⟨c, c', doc, pm, ct, ob, co, cvs, tk, kvs, h1, h2, h3, h4, h5, h6, h7, h8⟩ := id hS
  obtain ⟨k1, rfl⟩ := isT_key i1
  obtain ⟨k2, rfl⟩ := isT_key i2
  have hlen : kvs.length < sizeLine := by have := hc d kvs rfl h7; rw [sizeLine_eq]; omega
  have tld := hS.told
  refine clos_runQ (k := 0) (ps := mot) (y := "_law_told") clN hr e0 r rfl h1 h2 h3 h4 h5 h6 (cv := .ref d) rfl (fun us hl => match us, hl with | [_, _, _], _ => rfl) fun hr1 => ?_
  have hu := hu_ofQ hr1
  refine ⟨_, pss_cons (ps_if (pt_cmp (pc_dnotin hu (pe_tup (pa_cons (pv 0) (pa_cons (pv 1) (pa_cons (pv 2) pa_nil)))) (pv 3))) (pss_one (ps_dput hu (pv 3) (pe_tup (pa_cons (pv 0) (pa_cons (pv 1) (pa_cons (pv 2) pa_nil)))) (pe_callB call_lenT rfl ml PySem.boot_len (pa_cons (pv 3) pa_nil)) rfl)) pss_nil)
    (pss_one (ps_ret (pe_dget hu (pv 3) (pe_tup (pa_cons (pv 0) (pa_cons (pv 1) (pa_cons (pv 2) pa_nil)))) (fun _ _ => rfl)))), ?_⟩
  refine ⟨_, rfl, _, rfl, _, rfl, (by show 3 ≤ sizeLine; decide), fun p hp => ?_⟩
  have g1 : Gr (.num d) 0 H (upd H p (.tup [.str m, kV k1, kV k2])) := .new tld hp
  have d1 : upd H p (.tup [.str m, kV k1, kV k2]) d = some (.dT kvs) := by rw [upd_ne (ne_of_none h7 hp)]; exact h7
  refine ⟨_, rfl, d, _, rfl, DGet.t (k := [.inr m, k1, k2]) d1 upd_same, _, rfl, ?_⟩
  cases e : valV kvs [.inr m, k1, k2] with
  | some v =>
    obtain ⟨n, rfl⟩ := h8.val e
    refine iteF ?_
    refine ⟨_, rfl, _, rfl, _, rfl, _, rfl, (by show 3 ≤ sizeLine; decide), fun p2 hp2 => ?_⟩
    have g2 : Gr (.num d) 0 _ (upd (upd H p (.tup [.str m, kV k1, kV k2])) p2 (.tup [.str m, kV k1, kV k2])) := .new g1.gn.told2 hp2
    have d2 : upd (upd H p (.tup [.str m, kV k1, kV k2])) p2 (.tup [.str m, kV k1, kV k2]) d = some (.dT kvs) := by rw [upd_ne (ne_of_none d1 hp2)]; exact d1
    refine ⟨d, .int n, rfl, ?_, ?_⟩
    · have z := DGet.t (k := [.inr m, k1, k2]) d2 upd_same
      rw [e] at z; exact z
    · have g := (g1.trans g2).up (by omega : 0 + 0 ≤ 1)
      exact q _ _ g ⟨kvs, k1, k2, n, d2, isT_up g.gn i1, isT_up g.gn i2, e, rfl⟩
  | none =>
    refine iteT ?_
    refine ⟨_, rfl, d, kvs, rfl, d1, _, rfl, _, rfl, _, rfl, _, rfl, (by show 3 ≤ sizeLine; decide), fun p2 hp2 => ?_⟩
    have g2 : Gr (.num d) 0 _ (upd (upd H p (.tup [.str m, kV k1, kV k2])) p2 (.tup [.str m, kV k1, kV k2])) := .new g1.gn.told2 hp2
    have d2 : upd (upd H p (.tup [.str m, kV k1, kV k2])) p2 (.tup [.str m, kV k1, kV k2]) d = some (.dT kvs) := by rw [upd_ne (ne_of_none d1 hp2)]; exact d1
    refine ⟨d, _, rfl, DPut.t (k := [.inr m, k1, k2]) d2 upd_same hlen, ?_⟩
    generalize hH3 : upd (upd (upd H p (.tup [.str m, kV k1, kV k2])) p2 (.tup [.str m, kV k1, kV k2])) d (.dT (putK kvs [.inr m, k1, k2] (.int kvs.length))) = H3
    have d3 : H3 d = some (.dT (kvs ++ [([.inr m, k1, k2], .int kvs.length)])) := by rw [← hH3, upd_same, putK_new _ e]
    have g3 : Gr (.num d) 1 (upd (upd H p (.tup [.str m, kV k1, kV k2])) p2 (.tup [.str m, kV k1, kV k2])) H3 := by
      have ne : ∀ b o, upd (upd H p (.tup [.str m, kV k1, kV k2])) p2 (.tup [.str m, kV k1, kV k2]) b = some o → b ≠ d → H3 b = some o := fun b o h hb => by rw [← hH3, upd_ne hb]; exact h
      refine ⟨⟨fun b o h i => ne b o h ?_, fun d' ed => ?_⟩, fun b o h hd => ne b o h fun z => hd (by rw [z]; rfl)⟩
      · rintro rfl; rw [d2] at h; cases h; cases i
      · obtain rfl : d = d' := Option.some.inj ed
        exact ⟨kvs, _, d2, d3, by simp, fun z => z.snoc _⟩
    refine ⟨_, rfl, _, rfl, _, rfl, _, rfl, (by show 3 ≤ sizeLine; decide), fun p4 hp4 => ?_⟩
    have g4 : Gr (.num d) 0 H3 (upd H3 p4 (.tup [.str m, kV k1, kV k2])) := .new g3.gn.told2 hp4
    have d4 : upd H3 p4 (.tup [.str m, kV k1, kV k2]) d = some (.dT (kvs ++ [([.inr m, k1, k2], .int kvs.length)])) := by rw [upd_ne (ne_of_none d3 hp4)]; exact d3
    have ev : valV (kvs ++ [([.inr m, k1, k2], V.int (kvs.length : Int))]) [.inr m, k1, k2] = some (.int (kvs.length : Int)) := by rw [valV_snoc _ _ _ _ e, if_pos rfl]
    refine ⟨d, .int kvs.length, rfl, ?_, ?_⟩
    · have z := DGet.t (k := [.inr m, k1, k2]) d4 upd_same
      rw [ev] at z; exact z
    · have g := (((g1.trans g2).trans g3).trans g4).up (by omega : 0 + 0 + 1 + 0 ≤ 1)
      exact q _ _ g ⟨_, k1, k2, _, d4, isT_up g.gn i1, isT_up g.gn i2, ev, rfl⟩
theorem seal_ok (Fp : FnQ P w K mg base 1 "_law_plain" mot spPlain) (Ft : FnQ P w K mg base 1 "_law_turned" mot spTurned) (ml : mg "len" = none) : CallOkQ P w K mg base 1 (spSeal K mg sNumd) := by
  intro f A outer s H us vs Q E hr e0 r h
  obtain ⟨S, m, t1, t2, v1, v2, hS, hc, rfl, i1, i2, q⟩ := h
  have tld := hS.told
  cases S with
  | plain =>
    obtain ⟨f', fd, h1, h2, h3, h4, _⟩ := Fp
    have e := hS.1.symm.trans h1
    cases e
    refine h4.called h3 hr e0 r ⟨m, v1, v2, rfl, fun p hp => ?_⟩
    have g : Gr .plain 0 H (upd H p (.tup [.str m, v1, v2])) := .new tld hp
    exact q _ _ (g.up (by omega)) ⟨p, v1, v2, rfl, upd_same, isT_up g.gn i1, isT_up g.gn i2⟩
  | turned =>
    obtain ⟨f', fd, h1, h2, h3, h4, _⟩ := Ft
    have e := hS.1.symm.trans h1
    cases e
    refine h4.called h3 hr e0 r ⟨m, v1, v2, rfl, fun p hp => ?_⟩
    have g : Gr .turned 0 H (upd H p (.tup [.str "seal of", v2, v1, .str m])) := .new tld hp
    exact q _ _ (g.up (by omega)) ⟨p, v1, v2, rfl, upd_same, isT_up g.gn i1, isT_up g.gn i2⟩
  | num d => exact num_run ml hr e0 r hS hc i1 i2 q
end
section
variable {P : Program} {w : World} {K : PySem.W.Frag} {mg : Str → Option Value} {base : Heap}
def spCell (K : PySem.W.Frag) : Sp := fun vs H Q _ => ∃ (a : Addr) (ns : List Int) (k : Int), vs = [.ref a, .int k] ∧ SqL K H a (ns.map V.int) ∧ 0 ≤ k ∧ ∀ v : Int, Q (.int v) H
theorem scCe : FnScope ["_law_script", "_law_k"] ["_law_script", "_law_k"] (defScope sCell) := ⟨rfl, rfl, rfl, by decide +kernel, rfl, by decide +kernel, by decide +kernel⟩
theorem ok_cell (F : FunAt K mg "_law_cell_at" sCell) (ml : mg "len" = none) : FnP P w K mg base 1 "_law_cell_at" ["_law_script", "_law_k"] (spCell K) := by
  refine F.ok scCe (fun _ _ _ _ _ _ us hl => match us, hl with | [_, _], _ => rfl) (fun vs H Q E h => ?_) (fun f cdv A outer s H vs Q E hr h => ?_)
  · obtain ⟨a, ns, k, rfl, _⟩ := h; rfl
  obtain ⟨a, ns, k, rfl, hS, h0, q⟩ := h
  refine ⟨_, pss_cons (ps_if (pt_cmpR op_lt (pv 1) (pe_callB call_len_seq rfl ml PySem.boot_len (pa_cons (pv 0) pa_nil)) (nomark _)) (pss_one (ps_ret (pe_ix ix_list (pv 0) (pv 1) (fun _ _ => rfl)))) pss_nil) (pss_one (ps_ret pe_int)), ?_⟩
  refine ⟨_, rfl, _, rfl, a, _, rfl, .inl hS, _, _, rfl, rfl, _, rfl, ?_⟩
  refine ite2 (fun c => ?_) (fun c => ?_)
  · have c' : k < ((ns.map V.int).length : Int) := of_decide_eq_true c
    rw [List.length_map] at c'
    have hk : k.toNat < ns.length := by omega
    have z : atI (ns.map V.int) ((k.toNat : Nat) : Int) = some (.int ns[k.toNat]) := atI_nat (by rw [List.getElem?_map, List.getElem?_eq_getElem hk] <;> rfl)
    rw [show ((k.toNat : Nat) : Int) = k by omega] at z
    exact ⟨_, rfl, _, rfl, a, _, _, _, rfl, rfl, hS, z, q _⟩
  · exact q 0
structure Ext0 (K : PySem.W.Frag) (mg : Str → Option Value) (base : Heap) (c0 Pt : Addr) : Prop where
  code : PySem.W.CodeHd base c0 Pt
  bm : ∃ bm ob, mg "__builtins__" = some (.ref bm) ∧ bm ≠ builtinsNs ∧ base.get? bm = some ob ∧ ob.cls = .type "module" ∧ ob.dict = some builtinsNs ∧ ob.data = .plain
  tab : PySem.W.tabIn K "_law_numbering" = some (c0, Pt)
def spNumbering (K : PySem.W.Frag) (mg : Str → Option Value) (Pt : Addr) : Sp := fun vs H Q _ => vs = [] ∧ H Pt = some (.tbl #[]) ∧
  ∀ f d H', SealAt K mg sNumd (.num d) H' f → H' d = some (.dT []) → (∀ b o, H b = some o → b ≠ Pt → H' b = some o) → Q (.ref f) H'
theorem scNu : FnScope ["_law_numbered", "_law_told"] [] (defScope sNumbering) := ⟨rfl, rfl, rfl, by decide +kernel, rfl, by decide +kernel, by decide +kernel⟩
theorem ok_numbering {c0 Pt : Addr} (F : FunAt K mg "_law_numbering" sNumbering) (kb : K.In base) (nb : base.Ns mainGlobals mg) (X0 : Ext0 K mg base c0 Pt) : FnP P w K mg base 1 "_law_numbering" [] (spNumbering K mg Pt) := by
  obtain ⟨f0, fd, hm, F⟩ := F
  obtain ⟨oc, od, kV, doc, pm, an, cdv, ct, osl, rfl, lk, hcd⟩ := F.ex
  have hcode : cdv = .ref c0 := PySem.W.law_code kb nb X0.tab hm (kb _ _ lk) rfl
  refine ⟨f0, _, hm, F.kp, F.binds (ps := []) fun _ _ _ _ _ _ us hl => match us, hl with | [], _ => rfl, ?_, _, _, _, lk⟩
  refine fn_ofR lk hcd scNu (fun vs H Q E h => by rw [h.1]; rfl) fun A outer s s1 H vs Q E hr h I => ?_
  obtain ⟨rfl, hP, q⟩ := h
  generalize hX : cxOf CX0 P w K mg base ["_law_numbered", "_law_told"] "_law_numbering" (defScope sNumbering) f0 cdv A outer s H E = X at I
  subst hX
  -- told = {}
  refine wpAny_execs_cons (thn ((ps_set (X := cxOf CX0 P w K mg base ["_law_numbered", "_law_told"] "_law_numbering" (defScope sNumbering) f0 cdv A outer s H E) (i := 1) scNu.nd rfl (Or.inr rfl) pe_dnewT : PS _ _ _) [] s1 _ H
    { nx := fun σ H' => ∃ d, H d = none ∧ σ = [none, some (.ref d)] ∧ H' = upd H d (.dT []), rt := fun _ _ => False } I fun d hd => ⟨d, hd, rfl, rfl⟩) fun fl s2 h2 => ?_)
  cases fl with
  | brk => obtain ⟨_, _, _, z⟩ := h2; exact False.elim z
  | cont => obtain ⟨_, _, _, z⟩ := h2; exact False.elim z
  | ret u => obtain ⟨_, _, _, _, _, z⟩ := h2; exact False.elim z
  | next =>
  obtain ⟨σ2, H2, I2, d, hd, rfl, rfl⟩ := h2
  have hPd : Pt ≠ d := ne_of_none hP hd
  -- the def
  refine wpAny_execs_cons (thn (ps_def (X := cxOf CX0 P w K mg base ["_law_numbered", "_law_told"] "_law_numbering" (defScope sNumbering) f0 cdv A outer s H E) (i := 0) (Pt := Pt) (c0 := c0) (qual := qN) (clos := [("_law_told", s.heap.objs.size + 1)])
    rfl rfl rfl rfl rfl hcode X0.code X0.bm scNu.nd rfl (Or.inl rfl) (Or.inl rfl) [] s2 _ _
    { nx := fun σ H' => ∃ (f c' : Addr) (ob : Obj) (cvs : Array Value) (tk : Tok) (ctv doc pm : Value) (ps : Array Value), upd H d (.dT []) f = none ∧ upd H d (.dT []) c' = none ∧ c' ≠ f ∧ Pt ≠ f ∧ Pt ≠ c' ∧ ob.data = .fields cvs ∧ cvs[1]? = some (.str qN tk) ∧ σ = [some (.ref f), some (.ref d)] ∧
        H' = upd (upd (upd (upd H d (.dT [])) Pt (.tbl ps)) c' (.frz ob (.own 0))) f (.frz (PySem.W.fnMade "_law_numbered" qN (defArgs sNumd) (defBody sNumd) (defScope sNumd) [("_law_told", s.heap.objs.size + 1)] doc pm c' ctv) (.own 0)), rt := fun _ _ => False } I2
    ⟨#[], by rw [upd_ne hPd]; exact hP, trivial, rfl, fun f c' ob cvs tk ctv doc pm h1 h2 h3 h4 h5 h6 h7 => ⟨f, c', ob, cvs, tk, ctv, doc, pm, _, h1, h2, h3, h4, h5, h6, h7, rfl, rfl⟩⟩) fun fl s3 h3 => ?_)
  cases fl with
  | brk => obtain ⟨_, _, _, z⟩ := h3; exact False.elim z
  | cont => obtain ⟨_, _, _, z⟩ := h3; exact False.elim z
  | ret u => obtain ⟨_, _, _, _, _, z⟩ := h3; exact False.elim z
  | next =>
  obtain ⟨σ3, H3, I3, f, c', ob, cvs, tk, ctv, doc', pm', ps, n1, n2, n3, n4, n5, n6, n7, rfl, e3⟩ := h3
  -- return it
  refine wpAny_execs_cons (wpAny_Return_some (thn ((pv (X := cxOf CX0 P w K mg base ["_law_numbered", "_law_told"] "_law_numbering" (defScope sNumbering) f0 cdv A outer s H E) 0 : PE _ _ _) [] s3 _ H3 (fun v H' => v = .ref f ∧ H' = H3) I3 ⟨_, rfl, rfl, rfl⟩) fun u s4 ⟨v, H4, I4, r4, e4, e5⟩ => ?_))
  subst e4 e5
  obtain rfl : u = Value.ref f := r4
  obtain ⟨mm, hn, hl⟩ := I4.loc
  obtain ⟨cu, rcu, lcu⟩ := hl 1 "_law_told" (.ref d) rfl rfl (Or.inr (Or.inl rfl))
  obtain rfl : cu = Value.ref d := rcu
  rcases lcu with ⟨kk, _⟩ | ⟨_, c, hc, co, hco, hcd2⟩
  · exact absurd (show some NameKind.cell = some NameKind.local from kk) (by decide)
  have ec : s.heap.objs.size + 1 = c := Option.some.inj ((show (cxOf CX0 P w K mg base ["_law_numbered", "_law_told"] "_law_numbering" (defScope sNumbering) f0 cdv A outer s H E).env.cells.lookup ("_law_told" : Str) = some (s.heap.objs.size + 1) from rfl).symm.trans hc)
  have hcn : H4 c = none := (I4.freeC "_law_told" c hc).resolve_right fun z => absurd (show true = false from z.1) (by decide)
  have lec : s.heap.objs.size ≤ c := by omega
  refine ⟨.ref f, upd H4 c (.frz co (.own 0)), I4.os, I4.bare, I4.base.track lec hcn, I4.hok.track hco hcn, rfl, q f d _ ?_ ?_ ?_⟩
  · have ne : ∀ b o, H4 b = some o → upd H4 c (.frz co (.own 0)) b = some o := fun b o h => by rw [upd_ne (ne_of_none h hcn)]; exact h
    refine ⟨c, c', doc', pm', ctv, ob, co, cvs, tk, [], ?_, ?_, n6, n7, upd_same, hcd2, ?_, .nil⟩
    · rw [← ec]; refine ec ▸ ne _ _ ?_; rw [e3, upd_same, ec]
    · refine ne _ _ ?_; rw [e3, upd_ne n3, upd_same]
    · refine ne _ _ ?_
      have q1 : d ≠ f := by rintro rfl; rw [upd_same] at n1; cases n1
      have q2 : d ≠ c' := by rintro rfl; rw [upd_same] at n2; cases n2
      rw [e3, upd_ne q1, upd_ne q2, upd_ne (Ne.symm hPd), upd_same]
  · have hdc : d ≠ c := by
      rintro rfl
      have q1 : d ≠ f := by rintro rfl; rw [upd_same] at n1; cases n1
      have q2 : d ≠ c' := by rintro rfl; rw [upd_same] at n2; cases n2
      rw [e3, upd_ne q1, upd_ne q2, upd_ne (Ne.symm hPd), upd_same] at hcn; cases hcn
    have q1 : d ≠ f := by rintro rfl; rw [upd_same] at n1; cases n1
    have q2 : d ≠ c' := by rintro rfl; rw [upd_same] at n2; cases n2
    rw [upd_ne hdc, e3, upd_ne q1, upd_ne q2, upd_ne (Ne.symm hPd), upd_same]
  · intro b o hb hbP
    have b1 : b ≠ d := ne_of_none hb hd
    have hb2 : upd H d (.dT []) b = some o := by rw [upd_ne b1]; exact hb
    have b2 : b ≠ f := ne_of_none hb2 n1
    have b3 : b ≠ c' := ne_of_none hb2 n2
    have hb4 : H4 b = some o := by rw [e3, upd_ne b2, upd_ne b3, upd_ne hbP]; exact hb2
    rw [upd_ne (ne_of_none hb4 hcn)]; exact hb4
def spSealBy (K : PySem.W.Frag) (mg : Str → Option Value) (Pt : Addr) : Sp := fun vs H Q _ => ∃ (a : Addr) (ns : List Int), vs = [.ref a] ∧ SqL K H a (ns.map V.int) ∧ H Pt = some (.tbl #[]) ∧
  ∀ S f H', SealAt K mg sNumd S H' f → Cap S H' 10000000 → (∀ b o, H b = some o → b ≠ Pt → H' b = some o) → Q (.ref f) H'
theorem scSb : FnScope ["_law_script", "_law_kind"] ["_law_script"] (defScope sSealBy) := ⟨rfl, rfl, rfl, by decide +kernel, rfl, by decide +kernel, by decide +kernel⟩
theorem ok_sealby {Pt : Addr} (F : FunAt K mg "_law_seal_by" sSealBy) (Fc : FnP P w K mg base 1 "_law_cell_at" ["_law_script", "_law_k"] (spCell K)) (Fn : FnP P w K mg base 1 "_law_numbering" [] (spNumbering K mg Pt))
    (Fp : FunAt K mg "_law_plain" sPlain) (Ft : FunAt K mg "_law_turned" sTurned) : FnP P w K mg base 2 "_law_seal_by" ["_law_script"] (spSealBy K mg Pt) := by
  obtain ⟨fp, fpd, mp, Fp⟩ := Fp
  obtain ⟨ft, ftd, mt, Ft⟩ := Ft
  obtain ⟨_, _, _, _, _, _, _, _, _, rfl, lp, _⟩ := Fp.ex
  obtain ⟨_, _, _, _, _, _, _, _, _, rfl, lt, _⟩ := Ft.ex
  refine F.ok scSb (fun _ _ _ _ _ _ us hl => match us, hl with | [_], _ => rfl) (fun vs H Q E h => ?_) (fun f cdv A outer s H vs Q E hr h => ?_)
  · obtain ⟨a, ns, rfl, _⟩ := h; rfl
  obtain ⟨a, ns, rfl, hS, hP, q⟩ := h
  have nd := scSb.nd
  refine ⟨_, pss_cons (ps_set (i := 1) nd rfl (Or.inl rfl) (pe_op op_mod (pe_op op_fdiv (pe_callN Fc hr rfl (pa_cons (pv 0) (pa_cons pe_int pa_nil))) pe_int) pe_int))
    (pss_cons (ps_if (pt_cmpR op_eq (pv 1) pe_int (nomark _)) (pss_one (ps_ret (pe_glob (v := .ref fp) rfl mp rfl))) pss_nil)
    (pss_cons (ps_if (pt_cmpR op_eq (pv 1) pe_int (nomark _)) (pss_one (ps_ret (pe_glob (v := .ref ft) rfl mt rfl))) pss_nil)
    (pss_one (ps_ret (pe_callN0 Fn hr rfl))))), ?_⟩
  refine ⟨_, rfl, a, ns, 0, rfl, hS, by omega, fun v => ?_⟩
  refine ⟨_, _, rfl, rfl, ⟨by decide, by decide⟩, _, _, rfl, rfl, (by show (0 : Int) < 3; decide), ?_⟩
  refine ⟨_, rfl, rfl, _, rfl, ?_⟩
  refine ite2 (fun _ => ?_) (fun _ => ?_)
  · exact q .plain fp H ⟨mp, _, _, _, _, lp⟩ (fun d _ e => nomatch e) fun b o h _ => h
  refine ⟨_, rfl, rfl, _, rfl, ?_⟩
  refine ite2 (fun _ => ?_) (fun _ => ?_)
  · exact q .turned ft H ⟨mt, _, _, _, _, lt⟩ (fun d _ e => nomatch e) fun b o h _ => h
  refine ⟨rfl, hP, fun f d H' h1 h2 h3 => q (.num d) f H' h1 (fun d' kvs e hk => ?_) h3⟩
  obtain rfl : d = d' := Option.some.inj e
  rw [h2] at hk; cases hk
  simp
end
end My
namespace My
open PySem L2
section
variable {P : Program} {w : World} {K : PySem.W.Frag} {mg : Str → Option Value} {base : Heap}
def spNone (K : PySem.W.Frag) (mg : Str → Option Value) : Sp := fun vs H Q _ => ∃ S f, vs = [.ref f] ∧ SealAt K mg sNumd S H f ∧ Cap S H 1 ∧ ∀ v H', Gr S 1 H H' → isT S H' nlT v → Q v H'
theorem scNo : FnScope ["seal"] ["seal"] (defScope sNone) := ⟨rfl, rfl, rfl, by decide +kernel, rfl, by decide +kernel, by decide +kernel⟩
theorem ok_none (F : FunAt K mg "none_seal" sNone) (Fl : CallOkQ P w K mg base 1 (spSeal K mg sNumd)) : FnQ P w K mg base 2 "none_seal" ["seal"] (spNone K mg) := by
  refine F.okQ scNo (fun _ _ _ _ _ _ us hl => match us, hl with | [_], _ => rfl) (fun vs H Q E h => ?_) (fun f cdv A outer s H vs Q E hr h => ?_)
  · obtain ⟨S, f, rfl, _⟩ := h; rfl
  obtain ⟨S, f, rfl, hS, hc, q⟩ := h
  refine ⟨_, pss_one (ps_ret (pe_callVQ (i := 0) Fl hr rfl (Or.inl rfl) (pa_cons pe_str (pa_cons pe_int (pa_cons pe_int pa_nil))))), ?_⟩
  exact ⟨f, rfl, hS.fny, hS.fny, S, _, .int 0, .int 0, _, _, hS, hc, rfl, rfl, rfl, q⟩
def spMark (K : PySem.W.Frag) (mg : Str → Option Value) (m : Str) : Sp := fun vs H Q _ => ∃ S f t1 t2 v1 v2, vs = [.ref f, v1, v2] ∧ SealAt K mg sNumd S H f ∧ Cap S H 1 ∧ isT S H t1 v1 ∧ isT S H t2 v2 ∧ ∀ v H', Gr S 1 H H' → isT S H' (.nd m t1 t2) v → Q v H'
theorem scRw : FnScope ["seal", "key", "value"] ["seal", "key", "value"] (defScope sRow) := ⟨rfl, rfl, rfl, by decide +kernel, rfl, by decide +kernel, by decide +kernel⟩
theorem ok_row (F : FunAt K mg "row_seal" sRow) (Fl : CallOkQ P w K mg base 1 (spSeal K mg sNumd)) : FnQ P w K mg base 2 "row_seal" ["seal", "key", "value"] (spMark K mg "row") := by
  refine F.okQ scRw (fun _ _ _ _ _ _ us hl => match us, hl with | [_, _, _], _ => rfl) (fun vs H Q E h => ?_) (fun f cdv A outer s H vs Q E hr h => ?_)
  · obtain ⟨S, f, t1, t2, v1, v2, rfl, _⟩ := h; rfl
  obtain ⟨S, f, t1, t2, v1, v2, rfl, hS, hc, i1, i2, q⟩ := h
  refine ⟨_, pss_one (ps_ret (pe_callVQ (i := 0) Fl hr rfl (Or.inl rfl) (pa_cons pe_str (pa_cons (pv 1) (pa_cons (pv 2) pa_nil))))), ?_⟩
  exact ⟨f, rfl, hS.fny, _, rfl, _, rfl, hS.fny, S, _, t1, t2, _, _, hS, hc, rfl, i1, i2, q⟩
theorem scFk : FnScope ["seal", "low", "high"] ["seal", "low", "high"] (defScope sFork) := ⟨rfl, rfl, rfl, by decide +kernel, rfl, by decide +kernel, by decide +kernel⟩
theorem ok_fork (F : FunAt K mg "fork_seal" sFork) (Fl : CallOkQ P w K mg base 1 (spSeal K mg sNumd)) : FnQ P w K mg base 2 "fork_seal" ["seal", "low", "high"] (spMark K mg "fork") := by
  refine F.okQ scFk (fun _ _ _ _ _ _ us hl => match us, hl with | [_, _, _], _ => rfl) (fun vs H Q E h => ?_) (fun f cdv A outer s H vs Q E hr h => ?_)
  · obtain ⟨S, f, t1, t2, v1, v2, rfl, _⟩ := h; rfl
  obtain ⟨S, f, t1, t2, v1, v2, rfl, hS, hc, i1, i2, q⟩ := h
  refine ⟨_, pss_one (ps_ret (pe_callVQ (i := 0) Fl hr rfl (Or.inl rfl) (pa_cons pe_str (pa_cons (pv 1) (pa_cons (pv 2) pa_nil))))), ?_⟩
  exact ⟨f, rfl, hS.fny, _, rfl, _, rfl, hS.fny, S, _, t1, t2, _, _, hS, hc, rfl, i1, i2, q⟩
theorem bit1 (k : Int) (b : Nat) : Builtin.bitAnd (k / 2 ^ ((b : Int)).toNat) 1 = bitAt k b := by
  rw [PyProof.Rows.bitAnd_m1]; rfl
def spPart (K : PySem.W.Frag) : Sp := fun vs H Q _ => ∃ S : Sl, ∃ a ws rows, ∃ b : Nat, ∃ sd : Int, vs = [.ref a, .int b, .int sd] ∧ Told S H ∧ SqL K H a ws ∧ RowsAt H rows ws ∧ rows.length ≤ 1000 ∧
  ∀ D H' ws', Gr S 0 H H' → H D = none → H' D = some (.lst ws') → RowsAt H' (prt rows b sd) ws' → Q (.ref D) H'
theorem scPo : FnScope ["rows", "bit", "side"] ["rows", "bit", "side"] (defScope sPartOf) := ⟨rfl, rfl, rfl, by decide +kernel, rfl, by decide +kernel, by decide +kernel⟩
theorem ok_part (F : FunAt K mg "part_of" sPartOf) : FnQ P w K mg base 1 "part_of" ["rows", "bit", "side"] (spPart K) := by
  refine F.okQ scPo (fun _ _ _ _ _ _ us hl => match us, hl with | [_, _, _], _ => rfl) (fun vs H Q E h => ?_) (fun f0 cdv A outer s H vs Q E hr h => ?_)
  · obtain ⟨S, a, ws, rows, b, sd, rfl, _⟩ := h; rfl
  obtain ⟨S, a, ws, rows, b, sd, rfl, ts, hq, hw, hz, q⟩ := h
  refine' ⟨_, pss_one (ps_ret (pe_compQ (ys := ["bit", "side"]) (js := [1, 2]) ?ok (pi_listQ (pv 0)) (fun _ _ _ => pts_one ?ht) (fun _ _ _ => pv 0))), ?rd⟩
  case ok =>
    refine ⟨hr.md, rfl, rfl, by decide +kernel, by decide +kernel, rfl, by decide +kernel, fun _ _ h => h, rfl, fun i y h => ?_, rfl⟩
    match i, h with
    | 0, h => simp at h; subst h; exact ⟨1, rfl, rfl, rfl, rfl⟩
    | 1, h => simp at h; subst h; exact ⟨2, rfl, rfl, rfl, rfl⟩
    | i + 2, h => simp at h
  case ht =>
    exact pt_cmpR op_eq (pe_op op_and (pe_op op_shr (pe_ix (ix_tupK K rfl) (pv 0) pe_int (fun _ _ => rfl)) (pv 1)) pe_int) (pv 2) (nomark _)
  case rd =>
  refine ⟨_, rfl, a, rfl, ⟨_, hq⟩, ?_⟩
  refine comp_rows (fun r => decide (bitAt r.1 b = sd)) ts hq hw (by omega) (fun p r H' Qb hp hQ => ?_) q
  refine ⟨_, rfl, p, _, 0, _, rfl, rfl, .inl (.inl hp), atI_nat (j := 0) rfl, _, rfl, _, _, rfl, rfl, by show (0 : Int) ≤ (b : Int); omega, _, _, rfl, rfl, _, rfl, rfl, _, rfl, ?_⟩
  show Qb (decide (V.int (Builtin.bitAnd (r.1 / 2 ^ ((b : Int)).toNat) 1) = V.int sd)) H'
  rw [bit1]
  have e : decide (V.int (bitAt r.1 b) = V.int sd) = decide (bitAt r.1 b = sd) := by
    by_cases h : bitAt r.1 b = sd
    · rw [decide_eq_true h, decide_eq_true (by rw [h])]
    · rw [decide_eq_false h, decide_eq_false (fun z => h (by injection z))]
  rw [e]
  exact hQ
def spTopP (K : PySem.W.Frag) (mg : Str → Option Value) (b : Nat) : Sp := fun vs H Q _ => ∃ S f a ws rows, vs = [.ref f, .ref a, .int b] ∧ SealAt K mg sNumd S H f ∧ SqL K H a ws ∧ RowsAt H rows ws ∧ rows.length ≤ 1000 ∧ OKR b rows ∧ Cap S H (cstP b rows) ∧
  ∀ v H', Gr S (cstP b rows) H H' → isT S H' (topP b rows) v → Q v H'
theorem scTp : FnScope ["seal", "rows", "bits", "bit", "low", "high"] ["seal", "rows", "bits"] (defScope sTopPart) := ⟨rfl, rfl, rfl, by decide +kernel, rfl, by decide +kernel, by decide +kernel⟩
theorem ok_topP (F : FunAt K mg "top_of_part" sTopPart) (Fn : FnQ P w K mg base 2 "none_seal" ["seal"] (spNone K mg)) (Fr : FnQ P w K mg base 2 "row_seal" ["seal", "key", "value"] (spMark K mg "row"))
    (Ff : FnQ P w K mg base 2 "fork_seal" ["seal", "low", "high"] (spMark K mg "fork")) (Fp : FnQ P w K mg base 1 "part_of" ["rows", "bit", "side"] (spPart K)) (ml : mg "len" = none) :
    ∀ b : Nat, FnQ P w K mg base (b + 3) "top_of_part" ["seal", "rows", "bits"] (spTopP K mg b) := by
  intro b
  induction b with
  | zero =>
    refine F.okQ scTp (fun _ _ _ _ _ _ us hl => match us, hl with | [_, _, _], _ => rfl) (fun vs H Q E h => ?_) (fun f0 cdv A outer s H vs Q E hr h => ?_)
    · obtain ⟨S, f, a, ws, rows, rfl, _⟩ := h; rfl
    obtain ⟨S, f, a, ws, rows, rfl, hS, hq, hw, hz, ok, hc, q⟩ := h
    have nd := scTp.nd
    have hl := pr_len hw
    refine ⟨_, pss_cons (ps_if (pt_cmpR op_eq (pe_callB call_len_seq rfl ml PySem.boot_len (pa_cons (pv 1) pa_nil)) pe_int (nomark _)) (pss_one (ps_ret (pe_callQ Fn hr rfl (pa_cons (pv 0) pa_nil)))) pss_nil) <|
      pss_cons (ps_if (pt_cmpR op_eq (pe_callB call_len_seq rfl ml PySem.boot_len (pa_cons (pv 1) pa_nil)) pe_int (nomark _)) (pss_one (ps_ret (pe_callQ Fr hr rfl (pa_cons (pv 0) (pa_cons (pe_ix ix_tup (pe_ix ix_list (pv 1) pe_int (fun _ _ => rfl)) pe_int (fun _ _ => rfl)) (pa_cons (pe_ix ix_tup (pe_ix ix_list (pv 1) pe_int (fun _ _ => rfl)) pe_int (fun _ _ => rfl)) pa_nil)))))) pss_nil) <|
      pss_never, ?_⟩
    have h1 := ok.zero
    refine ⟨_, rfl, a, _, rfl, .inl hq, rfl, _, rfl, ?_⟩
    refine ite2 (fun c => ?_) (fun c => ?_)
    · have c' : V.int (ws.length : Int) = V.int 0 := of_decide_eq_true c
      have e : rows = [] := List.eq_nil_of_length_eq_zero (by injection c' with c'; omega)
      subst e
      refine ⟨_, rfl, S, f, rfl, hS, hc, fun v H' g i => q v H' g ?_⟩
      rw [topP_nil]; exact i
    · have c' : ¬ V.int (ws.length : Int) = V.int 0 := of_decide_eq_false (Bool.eq_false_iff.mpr c)
      have c2 : rows.length ≠ 0 := fun z => c' (congrArg V.int (by omega))
      obtain ⟨r, rfl⟩ : ∃ r, rows = [r] := by
        match rows, h1, c2 with
        | [r], _, _ => exact ⟨r, rfl⟩
      obtain ⟨v, rfl, p, rfl, hp⟩ : ∃ v, ws = [v] ∧ RowAt H r v := by
        cases hw with
        | cons r1 t1 => cases t1; exact ⟨_, rfl, r1⟩
      refine ⟨_, rfl, a, _, rfl, .inl hq, rfl, _, rfl, ?_⟩
      refine iteT ?_
      refine ⟨_, rfl, _, rfl, a, _, 0, _, rfl, rfl, hq, atI_nat (j := 0) rfl, p, _, 0, _, rfl, rfl, .inl (.inl hp), atI_nat (j := 0) rfl, _, rfl, a, _, 0, _, rfl, rfl, hq, atI_nat (j := 0) rfl, p, _, 1, _, rfl, rfl, .inl (.inl hp), atI_nat (j := 1) rfl,
        S, f, .int r.1, .str r.2, _, _, rfl, hS, hc, rfl, rfl, fun v H' g i => q v H' g ?_⟩
      rw [topP_one]; exact i
  | succ b ih =>
    refine F.okQ scTp (fun _ _ _ _ _ _ us hl => match us, hl with | [_, _, _], _ => rfl) (fun vs H Q E h => ?_) (fun f0 cdv A outer s H vs Q E hr h => ?_)
    · obtain ⟨S, f, a, ws, rows, rfl, _⟩ := h; rfl
    obtain ⟨S, f, a, ws, rows, rfl, hS, hq, hw, hz, ok, hc, q⟩ := h
    have nd := scTp.nd
    have hl := pr_len hw
    refine ⟨_, pss_cons (ps_if (pt_cmpR op_eq (pe_callB call_len_seq rfl ml PySem.boot_len (pa_cons (pv 1) pa_nil)) pe_int (nomark _)) (pss_one (ps_ret (pe_callQ Fn (hr.mono (by omega)) rfl (pa_cons (pv 0) pa_nil)))) pss_nil) <|
      pss_cons (ps_if (pt_cmpR op_eq (pe_callB call_len_seq rfl ml PySem.boot_len (pa_cons (pv 1) pa_nil)) pe_int (nomark _)) (pss_one (ps_ret (pe_callQ Fr (hr.mono (by omega)) rfl (pa_cons (pv 0) (pa_cons (pe_ix ix_tup (pe_ix ix_list (pv 1) pe_int (fun _ _ => rfl)) pe_int (fun _ _ => rfl)) (pa_cons (pe_ix ix_tup (pe_ix ix_list (pv 1) pe_int (fun _ _ => rfl)) pe_int (fun _ _ => rfl)) pa_nil)))))) pss_nil) <|
      pss_cons (ps_set (i := 3) nd rfl (Or.inl rfl) (pe_op op_sub (pv 2) pe_int)) <|
      pss_cons (ps_set (i := 4) nd rfl (Or.inl rfl) (pe_callQ ih hr rfl (pa_cons (pv 0) (pa_cons (pe_callQ Fp (hr.mono (by omega)) rfl (pa_cons (pv 1) (pa_cons (pv 3) (pa_cons pe_int pa_nil)))) (pa_cons (pv 3) pa_nil))))) <|
      pss_cons (ps_set (i := 5) nd rfl (Or.inl rfl) (pe_callQ ih hr rfl (pa_cons (pv 0) (pa_cons (pe_callQ Fp (hr.mono (by omega)) rfl (pa_cons (pv 1) (pa_cons (pv 3) (pa_cons pe_int pa_nil)))) (pa_cons (pv 3) pa_nil))))) <|
      pss_one (ps_ret (pe_callQ Ff (hr.mono (by omega)) rfl (pa_cons (pv 0) (pa_cons (pv 4) (pa_cons (pv 5) pa_nil))))), ?_⟩
    have cp := cstP_pos (b + 1) rows
    refine ⟨_, rfl, a, _, rfl, .inl hq, rfl, _, rfl, ?_⟩
    refine ite2 (fun c => ?_) (fun c => ?_)
    · have c' : V.int (ws.length : Int) = V.int 0 := of_decide_eq_true c
      have e : rows = [] := List.eq_nil_of_length_eq_zero (by injection c' with c'; omega)
      subst e
      refine ⟨_, rfl, S, f, rfl, hS, hc.dn cp, fun v H' g i => q v H' (g.up cp) ?_⟩
      rw [topP_nil]; exact i
    have c' : ¬ V.int (ws.length : Int) = V.int 0 := of_decide_eq_false (Bool.eq_false_iff.mpr c)
    have c2 : rows.length ≠ 0 := fun z => c' (congrArg V.int (by omega))
    refine ⟨_, rfl, a, _, rfl, .inl hq, rfl, _, rfl, ?_⟩
    refine ite2 (fun c => ?_) (fun c => ?_)
    · have c' : V.int (ws.length : Int) = V.int 1 := of_decide_eq_true c
      have h1 : rows.length = 1 := by injection c' with c'; omega
      obtain ⟨r, rfl⟩ : ∃ r, rows = [r] := List.length_eq_one_iff.mp h1
      obtain ⟨v, rfl, p, rfl, hp⟩ : ∃ v, ws = [v] ∧ RowAt H r v := by
        cases hw with
        | cons r1 t1 => cases t1; exact ⟨_, rfl, r1⟩
      refine ⟨_, rfl, _, rfl, a, _, 0, _, rfl, rfl, hq, atI_nat (j := 0) rfl, p, _, 0, _, rfl, rfl, .inl (.inl hp), atI_nat (j := 0) rfl, _, rfl, a, _, 0, _, rfl, rfl, hq, atI_nat (j := 0) rfl, p, _, 1, _, rfl, rfl, .inl (.inl hp), atI_nat (j := 1) rfl,
        S, f, .int r.1, .str r.2, _, _, rfl, hS, hc.dn cp, rfl, rfl, fun v H' g i => q v H' (g.up cp) ?_⟩
      rw [topP_one]; exact i
    have c3 : ¬ V.int (ws.length : Int) = V.int 1 := of_decide_eq_false (Bool.eq_false_iff.mpr c)
    have c4 : rows.length ≠ 1 := fun z => c3 (congrArg V.int (by omega))
    have h2 : 2 ≤ rows.length := by omega
    have hcs := cstP_more (b := b) h2
    have eb : (((b + 1 : Nat) : Int) - 1) = ((b : Nat) : Int) := by omega
    refine ⟨_, rfl, _, _, rfl, rfl, ?_⟩
    dsimp only
    rw [eb]
    have ls : ∀ sd, (prt rows b sd).length ≤ 1000 := fun sd => Nat.le_trans (List.length_filter_le _ _) hz
    refine ⟨_, rfl, _, rfl, _, rfl, S, a, ws, rows, b, 0, rfl, hS.told, hq, hw, hz, fun D0 H0 ws0 g0 n0 e0 r0 => ⟨_, rfl, ?_⟩⟩
    refine ⟨S, f, D0, ws0, prt rows b 0, rfl, hS.up g0.gn, SqL.of e0, r0, ls 0, ok.prt 0, hc.go g0.gn (by omega), fun v1 H1 g1 i1 => ?_⟩
    have g01 := g0.trans g1
    refine ⟨_, rfl, _, rfl, _, rfl, S, a, ws, rows, b, 1, rfl, g01.gn.told2, g01.sq hq, RowsAt.up hw g01.gn, hz, fun D2 H2 ws2 g2 n2 e2 r2 => ⟨_, rfl, ?_⟩⟩
    have g02 := g01.trans g2
    refine ⟨S, f, D2, ws2, prt rows b 1, rfl, hS.up g02.gn, SqL.of e2, r2, ls 1, ok.prt 1, hc.go g02.gn (by omega), fun v3 H3 g3 i3 => ?_⟩
    have g03 := g02.trans g3
    refine ⟨_, rfl, _, rfl, _, rfl, S, f, topP b (prt rows b 0), topP b (prt rows b 1), _, _, rfl, hS.up g03.gn, hc.go g03.gn (by omega), isT_up (g2.trans g3).gn i1, i3, fun v4 H4 g4 i4 => q v4 H4 ((g03.trans g4).up (by omega)) ?_⟩
    rw [topP_more h2]; exact i4
def spTopA (K : PySem.W.Frag) (mg : Str → Option Value) : Sp := fun vs H Q E => ∃ b, b ≤ 16 ∧ spTopP K mg b vs H Q E
end
section
variable {P : Program} {w : World} {K : PySem.W.Frag} {mg : Str → Option Value} {base : Heap}
theorem half_eq (b : Nat) : (1 : Int) * 2 ^ ((((b + 1 : Nat) : Int) - 1)).toNat = 2 ^ b := by
  rw [show ((((b + 1 : Nat) : Int) - 1)).toNat = b by omega, Int.one_mul]
theorem half_ok {b : Nat} (h : b ≤ 20) : CDiv 0 ((2 : Int) ^ b) := by
  have h1 := two_pow_nn b
  have h2 : (2 : Nat) ^ b ≤ 2 ^ 20 := Nat.pow_le_pow_right (by omega) h
  have h3 := Nat.one_le_two_pow (n := b)
  unfold CDiv
  rw [PyProof.Rows.two_pow_cast]
  omega
theorem dec_bit (i s : Int) : decide (V.int i = V.int s) = decide (i = s) := by
  by_cases h : i = s
  · rw [decide_eq_true h, decide_eq_true (by rw [h])]
  · rw [decide_eq_false h, decide_eq_false (fun z => h (by injection z))]
theorem scLp : FnScope ["_law_seal", "_law_rows", "_law_level", "_law_half", "_law_low", "_law_high"] ["_law_seal", "_law_rows", "_law_level"] (defScope sLpart) := ⟨rfl, rfl, rfl, by decide +kernel, rfl, by decide +kernel, by decide +kernel⟩
theorem ok_lpart (F : FunAt K mg "_law_part" sLpart) (Fl : CallOkQ P w K mg base 1 (spSeal K mg sNumd)) (ml : mg "len" = none) :
    ∀ b : Nat, b ≤ 20 → FnQ P w K mg base (b + 3) "_law_part" ["_law_seal", "_law_rows", "_law_level"] (spTopP K mg b) := by
  intro b
  induction b with
  | zero =>
    intro _
    refine F.okQ scLp (fun _ _ _ _ _ _ us hl => match us, hl with | [_, _, _], _ => rfl) (fun vs H Q E h => ?_) (fun f0 cdv A outer s H vs Q E hr h => ?_)
    · obtain ⟨S, f, a, ws, rows, rfl, _⟩ := h; rfl
    obtain ⟨S, f, a, ws, rows, rfl, hS, hq, hw, hz, ok, hc, q⟩ := h
    have nd := scLp.nd
    have hl := pr_len hw
    refine ⟨_, pss_cons (ps_if (pt_cmpR op_eq (pe_callB call_len_seq rfl ml PySem.boot_len (pa_cons (pv 1) pa_nil)) pe_int (nomark _)) (pss_one (ps_ret (pe_callVQ (i := 0) Fl (hr.mono (by omega)) rfl (Or.inl rfl) (pa_cons pe_str (pa_cons pe_int (pa_cons pe_int pa_nil)))))) pss_nil) <|
      pss_cons (ps_if (pt_cmpR op_eq (pe_callB call_len_seq rfl ml PySem.boot_len (pa_cons (pv 1) pa_nil)) pe_int (nomark _)) (pss_one (ps_ret (pe_callVQ (i := 0) Fl (hr.mono (by omega)) rfl (Or.inl rfl) (pa_cons pe_str (pa_cons (pe_ix ix_tup (pe_ix ix_list (pv 1) pe_int (fun _ _ => rfl)) pe_int (fun _ _ => rfl)) (pa_cons (pe_ix ix_tup (pe_ix ix_list (pv 1) pe_int (fun _ _ => rfl)) pe_int (fun _ _ => rfl)) pa_nil)))))) pss_nil) <|
      pss_never, ?_⟩
    have h1 := ok.zero
    refine ⟨_, rfl, a, _, rfl, .inl hq, rfl, _, rfl, ?_⟩
    refine ite2 (fun c => ?_) (fun c => ?_)
    · have c' : V.int (ws.length : Int) = V.int 0 := of_decide_eq_true c
      have e : rows = [] := List.eq_nil_of_length_eq_zero (by injection c' with c'; omega)
      subst e
      refine ⟨f, rfl, hS.fny, hS.fny, S, _, .int 0, .int 0, _, _, hS, hc, rfl, rfl, rfl, fun v H' g i => q v H' g ?_⟩
      rw [topP_nil]; exact i
    · have c' : ¬ V.int (ws.length : Int) = V.int 0 := of_decide_eq_false (Bool.eq_false_iff.mpr c)
      have c2 : rows.length ≠ 0 := fun z => c' (congrArg V.int (by omega))
      obtain ⟨r, rfl⟩ : ∃ r, rows = [r] := by
        match rows, h1, c2 with
        | [r], _, _ => exact ⟨r, rfl⟩
      obtain ⟨v, rfl, p, rfl, hp⟩ : ∃ v, ws = [v] ∧ RowAt H r v := by
        cases hw with
        | cons r1 t1 => cases t1; exact ⟨_, rfl, r1⟩
      refine ⟨_, rfl, a, _, rfl, .inl hq, rfl, _, rfl, ?_⟩
      refine iteT ?_
      refine ⟨f, rfl, hS.fny, _, rfl, a, _, 0, _, rfl, rfl, hq, atI_nat (j := 0) rfl, p, _, 0, _, rfl, rfl, .inl (.inl hp), atI_nat (j := 0) rfl, _, rfl, a, _, 0, _, rfl, rfl, hq, atI_nat (j := 0) rfl, p, _, 1, _, rfl, rfl, .inl (.inl hp), atI_nat (j := 1) rfl,
        hS.fny, S, _, .int r.1, .str r.2, _, _, hS, hc, rfl, rfl, rfl, fun v H' g i => q v H' g ?_⟩
      rw [topP_one]; exact i
  | succ b ih =>
    intro hb
    have ih := ih (by omega)
    refine F.okQ scLp (fun _ _ _ _ _ _ us hl => match us, hl with | [_, _, _], _ => rfl) (fun vs H Q E h => ?_) (fun f0 cdv A outer s H vs Q E hr h => ?_)
    · obtain ⟨S, f, a, ws, rows, rfl, _⟩ := h; rfl
    obtain ⟨S, f, a, ws, rows, rfl, hS, hq, hw, hz, ok, hc, q⟩ := h
    have nd := scLp.nd
    have hl := pr_len hw
    refine' ⟨_, pss_cons (ps_if (pt_cmpR op_eq (pe_callB call_len_seq rfl ml PySem.boot_len (pa_cons (pv 1) pa_nil)) pe_int (nomark _)) (pss_one (ps_ret (pe_callVQ (i := 0) Fl (hr.mono (by omega)) rfl (Or.inl rfl) (pa_cons pe_str (pa_cons pe_int (pa_cons pe_int pa_nil)))))) pss_nil) <|
      pss_cons (ps_if (pt_cmpR op_eq (pe_callB call_len_seq rfl ml PySem.boot_len (pa_cons (pv 1) pa_nil)) pe_int (nomark _)) (pss_one (ps_ret (pe_callVQ (i := 0) Fl (hr.mono (by omega)) rfl (Or.inl rfl) (pa_cons pe_str (pa_cons (pe_ix ix_tup (pe_ix ix_list (pv 1) pe_int (fun _ _ => rfl)) pe_int (fun _ _ => rfl)) (pa_cons (pe_ix ix_tup (pe_ix ix_list (pv 1) pe_int (fun _ _ => rfl)) pe_int (fun _ _ => rfl)) pa_nil)))))) pss_nil) <|
      pss_cons (ps_set (i := 3) nd rfl (Or.inr rfl) (pe_op op_shl pe_int (pe_op op_sub (pv 2) pe_int))) <|
      pss_cons (ps_setCompQ (iz := 4) (ys := ["_law_half"]) (js := [3]) ?ok1 (pi_listQ (pv 1)) (fun _ _ _ => pts_one ?ht1) (fun _ _ _ => pv 0) nd rfl (Or.inl rfl) (Or.inl rfl) rfl) <|
      pss_cons (ps_setCompQ (iz := 5) (ys := ["_law_half"]) (js := [3]) ?ok2 (pi_listQ (pv 1)) (fun _ _ _ => pts_one ?ht2) (fun _ _ _ => pv 0) nd rfl (Or.inl rfl) (Or.inl rfl) rfl) <|
      pss_one (ps_ret (pe_callVQ (i := 0) Fl (hr.mono (by omega)) rfl (Or.inl rfl) (pa_cons pe_str (pa_cons (pe_callQ ih hr rfl (pa_cons (pv 0) (pa_cons (pv 4) (pa_cons (pe_op op_sub (pv 2) pe_int) pa_nil)))) (pa_cons (pe_callQ ih hr rfl (pa_cons (pv 0) (pa_cons (pv 5) (pa_cons (pe_op op_sub (pv 2) pe_int) pa_nil)))) pa_nil))))), ?rd⟩
    case ok1 =>
      refine ⟨hr.md, rfl, rfl, by decide +kernel, by decide +kernel, rfl, by decide +kernel, fun _ _ h => h, rfl, fun i y h => ?_, rfl⟩
      match i, h with
      | 0, h => simp at h; subst h; exact ⟨3, rfl, rfl, rfl, rfl⟩
      | i + 1, h => simp at h
    case ok2 =>
      refine ⟨hr.md, rfl, rfl, by decide +kernel, by decide +kernel, rfl, by decide +kernel, fun _ _ h => h, rfl, fun i y h => ?_, rfl⟩
      match i, h with
      | 0, h => simp at h; subst h; exact ⟨3, rfl, rfl, rfl, rfl⟩
      | i + 1, h => simp at h
    case ht1 => exact pt_cmpR op_eq (pe_op op_mod (pe_op op_fdiv (pe_ix (ix_tupK K rfl) (pv 0) pe_int (fun _ _ => rfl)) (pv 1)) pe_int) pe_int (nomark _)
    case ht2 => exact pt_cmpR op_eq (pe_op op_mod (pe_op op_fdiv (pe_ix (ix_tupK K rfl) (pv 0) pe_int (fun _ _ => rfl)) (pv 1)) pe_int) pe_int (nomark _)
    case rd =>
    have cp := cstP_pos (b + 1) rows
    refine ⟨_, rfl, a, _, rfl, .inl hq, rfl, _, rfl, ?_⟩
    refine ite2 (fun c => ?_) (fun c => ?_)
    · have c' : V.int (ws.length : Int) = V.int 0 := of_decide_eq_true c
      have e : rows = [] := List.eq_nil_of_length_eq_zero (by injection c' with c'; omega)
      subst e
      refine ⟨f, rfl, hS.fny, hS.fny, S, _, .int 0, .int 0, _, _, hS, hc.dn cp, rfl, rfl, rfl, fun v H' g i => q v H' (g.up cp) ?_⟩
      rw [topP_nil]; exact i
    have c' : ¬ V.int (ws.length : Int) = V.int 0 := of_decide_eq_false (Bool.eq_false_iff.mpr c)
    have c2 : rows.length ≠ 0 := fun z => c' (congrArg V.int (by omega))
    refine ⟨_, rfl, a, _, rfl, .inl hq, rfl, _, rfl, ?_⟩
    refine ite2 (fun c => ?_) (fun c => ?_)
    · have c' : V.int (ws.length : Int) = V.int 1 := of_decide_eq_true c
      have h1 : rows.length = 1 := by injection c' with c'; omega
      obtain ⟨r, rfl⟩ : ∃ r, rows = [r] := List.length_eq_one_iff.mp h1
      obtain ⟨v, rfl, p, rfl, hp⟩ : ∃ v, ws = [v] ∧ RowAt H r v := by
        cases hw with
        | cons r1 t1 => cases t1; exact ⟨_, rfl, r1⟩
      refine ⟨f, rfl, hS.fny, _, rfl, a, _, 0, _, rfl, rfl, hq, atI_nat (j := 0) rfl, p, _, 0, _, rfl, rfl, .inl (.inl hp), atI_nat (j := 0) rfl, _, rfl, a, _, 0, _, rfl, rfl, hq, atI_nat (j := 0) rfl, p, _, 1, _, rfl, rfl, .inl (.inl hp), atI_nat (j := 1) rfl,
        hS.fny, S, _, .int r.1, .str r.2, _, _, hS, hc.dn cp, rfl, rfl, rfl, fun v H' g i => q v H' (g.up cp) ?_⟩
      rw [topP_one]; exact i
    have c3 : ¬ V.int (ws.length : Int) = V.int 1 := of_decide_eq_false (Bool.eq_false_iff.mpr c)
    have c4 : rows.length ≠ 1 := fun z => c3 (congrArg V.int (by omega))
    have h2 : 2 ≤ rows.length := by omega
    have hcs := cstP_more (b := b) h2
    have eb : (((b + 1 : Nat) : Int) - 1) = ((b : Nat) : Int) := by omega
    have hok := half_ok (b := b) (by omega)
    have ls : ∀ sd, (prt rows b sd).length ≤ 1000 := fun sd => Nat.le_trans (List.length_filter_le _ _) hz
    refine ⟨_, rfl, _, _, rfl, rfl, _, _, rfl, rfl, ⟨by omega, by omega, by decide⟩, ?_⟩
    dsimp only
    rw [half_eq]
    refine ⟨_, rfl, a, rfl, ⟨_, hq⟩, ?_⟩
    refine comp_rows (fun r => decide (bitAt r.1 b = 0)) hS.told hq hw (by omega) (fun p r H' Qb hp hQ => ?_) fun D0 H0 ws0 g0 n0 e0 r0 => ?_
    · refine ⟨_, rfl, p, _, 0, _, rfl, rfl, .inl (.inl hp), atI_nat (j := 0) rfl, _, rfl, _, _, rfl, rfl, hok, _, _, rfl, rfl, (by show (0 : Int) < 2; decide), rfl, _, rfl, ?_⟩
      rw [dec_bit]; exact hQ
    have hq0 := g0.sq hq
    have hw0 := RowsAt.up hw g0.gn
    refine ⟨_, rfl, a, rfl, ⟨_, hq0⟩, ?_⟩
    refine comp_rows (fun r => decide (bitAt r.1 b = 1)) g0.gn.told2 hq0 hw0 (by omega) (fun p r H' Qb hp hQ => ?_) fun D1 H1 ws1 g1 n1 e1 r1 => ?_
    · refine ⟨_, rfl, p, _, 0, _, rfl, rfl, .inl (.inl hp), atI_nat (j := 0) rfl, _, rfl, _, _, rfl, rfl, hok, _, _, rfl, rfl, (by show (0 : Int) < 2; decide), rfl, _, rfl, ?_⟩
      rw [dec_bit]; exact hQ
    have g01 := g0.trans g1
    have hS1 := hS.up g01.gn
    refine ⟨f, rfl, hS1.fny, _, rfl, _, rfl, _, rfl, _, _, rfl, rfl, ?_⟩
    dsimp only
    rw [eb]
    refine ⟨S, f, D0, ws0, prt rows b 0, rfl, hS1, SqL.of (g1.lst e0), RowsAt.up r0 g1.gn, ls 0, ok.prt 0, hc.go g01.gn (by omega), fun v2 H2 g2 i2 => ?_⟩
    have g02 := g01.trans g2
    refine ⟨_, rfl, _, rfl, _, rfl, _, _, rfl, rfl, ?_⟩
    dsimp only
    rw [eb]
    refine ⟨S, f, D1, ws1, prt rows b 1, rfl, hS.up g02.gn, SqL.of (g2.lst e1), RowsAt.up r1 g2.gn, ls 1, ok.prt 1, hc.go g02.gn (by omega), fun v3 H3 g3 i3 => ?_⟩
    have g03 := g02.trans g3
    have hS3 := hS.up g03.gn
    refine ⟨hS3.fny, S, _, topP b (prt rows b 0), topP b (prt rows b 1), _, _, hS3, hc.go g03.gn (by omega), rfl, isT_up g3.gn i2, i3, fun v4 H4 g4 i4 => q v4 H4 ((g03.trans g4).up (by omega)) ?_⟩
    rw [topP_more h2]; exact i4
end
end My
namespace My
open PySem L2
structure Txt (K : PySem.W.Frag) (mg : Str → Option Value) (C : Addr) : Prop where
  cl : Cls K C
  nS : NoAttr K C "seal"
  nD : NoAttr K C "depth"
  nH : NoAttr K C "held"
  mgC : mg "Table" = some (.ref C)
def fl (f : Addr) (D : Nat) (d : Addr) : List (Str × V) := [("seal", .ref f), ("depth", .int D), ("held", .ref d)]
theorem fl_s (f : Addr) (D : Nat) (d : Addr) : (fl f D d).lookup ("seal" : Str) = some (.ref f) := rfl
theorem fl_d (f : Addr) (D : Nat) (d : Addr) : (fl f D d).lookup ("depth" : Str) = some (.int D) := rfl
theorem fl_h (f : Addr) (D : Nat) (d : Addr) : (fl f D d).lookup ("held" : Str) = some (.ref d) := rfl
theorem fl_new (f : Addr) (D : Nat) (d : Addr) : putF "held" (.ref d) (putF "depth" (.int D) (putF "seal" (.ref f) [])) = fl f D d := by
  have e : putF "depth" (.int D) (putF "seal" (.ref f) []) = ([("seal", .ref f), ("depth", .int D)] : List (Str × V)) := by
    show (if ("seal" : Str) = "depth" then _ else (("seal" : Str), V.ref f) :: [(("depth" : Str), V.int D)]) = _
    rw [if_neg (by decide +kernel)]
  rw [e]
  show (if ("seal" : Str) = "held" then _ else (("seal" : Str), V.ref f) :: (if ("depth" : Str) = "held" then _ else (("depth" : Str), V.int D) :: [(("held" : Str), V.ref d)])) = _
  rw [if_neg (by decide +kernel), if_neg (by decide +kernel)]; rfl
theorem fl_2 (f : Addr) (D : Nat) : (putF "depth" (V.int D) (putF "seal" (.ref f) [])).length = 2 := by
  have e : putF "depth" (.int D) (putF "seal" (.ref f) []) = ([("seal", .ref f), ("depth", .int D)] : List (Str × V)) := by
    show (if ("seal" : Str) = "depth" then _ else (("seal" : Str), V.ref f) :: [(("depth" : Str), V.int D)]) = _
    rw [if_neg (by decide +kernel)]
  rw [e]; rfl
def TabAt (C : Addr) (H : Hp) (x d f : Addr) (D : Nat) (kvs : List (Key × V)) : Prop := (∃ dx, H x = some (.ins C dx (fl f D d))) ∧ H d = some (.dK kvs)
theorem TabAt.up {C : Addr} {S : Sl} {H H' : Hp} {x d f : Addr} {D n : Nat} {kvs : List (Key × V)} (h : TabAt C H x d f D kvs) (g : Gr S n H H') : TabAt C H' x d f D kvs := by
  obtain ⟨⟨dx, h1⟩, h2⟩ := h
  exact ⟨⟨dx, g.same h1 (fun _ e => nomatch e)⟩, g.same h2 (fun _ e => nomatch e)⟩
section
variable {P : Program} {w : World} {K : PySem.W.Frag} {mg : Str → Option Value} {base : Heap} {C : Addr}
def spTI (C : Addr) : Sp := fun vs H Q _ => ∃ (p dx f : Addr) (D : Nat), vs = [.ref p, .ref f, .int D] ∧ H p = some (.ins C dx []) ∧ ∀ d H', H d = none → TabAt C H' p d f D [] → (∀ b o, H b = some o → b ≠ p → H' b = some o) → Q .non H'
theorem scTI : FnScope ["self", "seal", "depth"] ["self", "seal", "depth"] (defScope mInit) := ⟨rfl, rfl, rfl, by decide +kernel, rfl, by decide +kernel, by decide +kernel⟩
theorem ok_tinit {f : Addr} {fd : FuncData} (F : FunD K "__init__" "Table.__init__" mInit f fd [8]) (T : Txt K mg C) : FnOk P w K mg base CX0 1 f fd ["self", "seal", "depth"] (spTI C) := by
  refine F.ok scTI (fun vs H Q E h => ?_) (fun cdv A outer s H vs Q E hr h => ?_)
  · obtain ⟨p, dx, f, D, rfl, _⟩ := h; rfl
  obtain ⟨p, dx, f, D, rfl, hp, k⟩ := h
  refine ⟨_, pss_cons (ps_fld (pv 0) (pv 1) rfl) <| pss_cons (ps_fld (pv 0) (pv 2) rfl) <| pss_one (ps_fld (pv 0) pe_dnewK rfl), ?_⟩
  refine ⟨_, rfl, _, rfl, p, C, dx, [], rfl, hp, T.cl, T.nS, (by show 0 < 1000; decide), ?_⟩
  refine ⟨_, rfl, _, rfl, p, C, dx, _, rfl, upd_same, T.cl, T.nD, (by show 1 < 1000; decide), ?_⟩
  intro d hd
  have npd : p ≠ d := ne_of_none upd_same hd
  have hd0 : H d = none := by rw [upd_ne npd.symm, upd_ne npd.symm] at hd; exact hd
  refine ⟨_, rfl, p, C, dx, _, rfl, (by rw [upd_ne npd, upd_same]), T.cl, T.nH, (by rw [fl_2]; decide), ?_⟩
  refine k d _ hd0 ⟨⟨dx, ?_⟩, ?_⟩ fun b o e hb => ?_
  · rw [upd_same, fl_new]
  · rw [upd_ne npd.symm, upd_same]
  · have b1 : b ≠ d := ne_of_none e hd0
    rw [upd_ne hb, upd_ne b1, upd_ne hb, upd_ne hb]; exact e
def spInD : Sp := fun vs H Q _ => ∃ (k : Int) (D : Nat), vs = [.int k, .int D] ∧ Q (.bl (decide (0 ≤ k ∧ k < 2 ^ D))) H
theorem scID : FnScope ["key", "depth"] ["key", "depth"] (defScope sInD) := ⟨rfl, rfl, rfl, by decide +kernel, rfl, by decide +kernel, by decide +kernel⟩
theorem ok_ind (F : FunAt K mg "in_depth" sInD) : FnP P w K mg base 1 "in_depth" ["key", "depth"] spInD := by
  refine F.ok scID (fun _ _ _ _ _ _ us hl => match us, hl with | [_, _], _ => rfl) (fun vs H Q E h => ?_) (fun f0 cdv A outer s H vs Q E hr h => ?_)
  · obtain ⟨k, D, rfl, _⟩ := h; rfl
  obtain ⟨k, D, rfl, q⟩ := h
  refine ⟨_, pss_one (ps_ret (pe_and (pe_cmpR op_ge (pv 0) pe_int (nomark _)) (pe_one (pe_cmpR op_le (pe_bm0 PySem.F.plainAttrs_int PySem.F.slot_int_bit_length PySem.F.type_int_bit_length mt_bitlen (pv 0)) (pv 1) (nomark _))))), ?_⟩
  refine ⟨_, rfl, _, _, rfl, rfl, _, rfl, ?_⟩
  refine ite2 (fun c => ?_) (fun c => ?_)
  · have h0 : (0 : Int) ≤ k := of_decide_eq_true c
    refine ⟨_, rfl, rfl, _, rfl, rfl, _, rfl, _, _, rfl, rfl, ?_⟩
    have e : decide (((Builtin.Int.intBits k : Nat) : Int) ≤ (D : Int)) = decide (0 ≤ k ∧ k < 2 ^ D) := by
      rw [decide_eq_decide, bits_lt h0]
      exact ⟨fun z => ⟨h0, z⟩, fun z => z.2⟩
    show Q (V.bl (decide (((Builtin.Int.intBits k : Nat) : Int) ≤ (D : Int)))) H
    rw [e]; exact q
  · have h0 : ¬ (0 : Int) ≤ k := of_decide_eq_false (Bool.eq_false_iff.mpr c)
    rw [decide_eq_false (fun z => h0 z.1)] at q
    exact q
def spChk (C : Addr) : Sp := fun vs H Q _ => ∃ (x d f : Addr) (D : Nat) (kvs : List (Key × V)) (k : Int), vs = [.ref x, .int k] ∧ TabAt C H x d f D kvs ∧ 0 ≤ k ∧ k < 2 ^ D ∧ Q .non H
theorem scCk : FnScope ["self", "key"] ["self", "key"] (defScope mCheck) := ⟨rfl, rfl, rfl, by decide +kernel, rfl, by decide +kernel, by decide +kernel⟩
theorem ok_chk (F : MethAt K C "check" "Table.check" mCheck) (T : Txt K mg C) (Fi : FnP P w K mg base 1 "in_depth" ["key", "depth"] spInD) : MtP P w K mg base C 2 "check" ["self", "key"] (spChk C) := by
  refine F.ok scCk (fun _ _ _ _ _ _ us hl => match us, hl with | [_, _], _ => rfl) (fun vs H Q E h => ?_) (fun f0 cdv A outer s H vs Q E hr h => ?_)
  · obtain ⟨x, d, f, D, kvs, k, rfl, _⟩ := h; rfl
  obtain ⟨x, d, f, D, kvs, k, rfl, ⟨⟨dx, h1⟩, h2⟩, k0, k1, q⟩ := h
  refine ⟨_, pss_one (ps_if (pt_not (pt_val (pe_callN Fi hr rfl (pa_cons (pv 1) (pa_cons (pe_fld (pv 0) rfl) pa_nil))))) pss_never pss_nil), ?_⟩
  refine ⟨_, rfl, _, rfl, x, C, dx, _, _, rfl, h1, T.cl, T.nD, fl_d _ _ _, k, D, rfl, _, rfl, ?_⟩
  rw [decide_eq_true (show 0 ≤ k ∧ k < 2 ^ D from ⟨k0, k1⟩)]
  exact iteF q
def spPut (C : Addr) : Sp := fun vs H Q _ => ∃ (x d f : Addr) (D : Nat) (kvs : List (Key × V)) (k : Int) (v : V), vs = [.ref x, .int k, v] ∧ TabAt C H x d f D kvs ∧ 0 ≤ k ∧ k < 2 ^ D ∧ kvs.length < sizeLine ∧ Q .non (upd H d (.dK (putK kvs (.inl k) v)))
theorem scPt : FnScope ["self", "key", "value"] ["self", "key", "value"] (defScope mPut) := ⟨rfl, rfl, rfl, by decide +kernel, rfl, by decide +kernel, by decide +kernel⟩
theorem ok_put (F : MethAt K C "put" "Table.put" mPut) (T : Txt K mg C) (Fc : MtP P w K mg base C 2 "check" ["self", "key"] (spChk C)) : MtP P w K mg base C 3 "put" ["self", "key", "value"] (spPut C) := by
  refine F.ok scPt (fun _ _ _ _ _ _ us hl => match us, hl with | [_, _, _], _ => rfl) (fun vs H Q E h => ?_) (fun f0 cdv A outer s H vs Q E hr h => ?_)
  · obtain ⟨x, d, f, D, kvs, k, v, rfl, _⟩ := h; rfl
  obtain ⟨x, d, f, D, kvs, k, v, rfl, hT, k0, k1, hz, q⟩ := h
  obtain ⟨⟨dx, h1⟩, h2⟩ := id hT
  have hu := hu_of hr
  refine ⟨_, pss_cons (ps_expr (pe_methN Fc (pv 0) T.cl hr (pa_cons (pv 1) pa_nil))) <| pss_one (ps_dput hu (pe_fld (pv 0) rfl) (pv 1) (pv 2) rfl), ?_⟩
  refine ⟨_, rfl, x, dx, _, rfl, h1, rfl, _, rfl, x, d, f, D, kvs, k, rfl, hT, k0, k1, ?_⟩
  exact ⟨_, rfl, _, rfl, x, C, dx, _, _, rfl, h1, T.cl, T.nH, fl_h _ _ _, _, rfl, d, _, rfl, DPut.k (k := .inl k) h2 hz, q⟩
def spRows (C : Addr) : Sp := fun vs H Q _ => ∃ (S : Sl) (x d f : Addr) (D : Nat) (kvs : List (Key × V)) (rows : List Rw), vs = [.ref x] ∧ TabAt C H x d f D kvs ∧ Told S H ∧ Rws D kvs ∧ kvs.length < 64 ∧ SrtOf kvs rows ∧
  ∀ l ws H', Gr S 0 H H' → H l = none → H' l = some (.lst ws) → RowsAt H' rows ws → Q (.ref l) H'
theorem scRs : FnScope ["self"] ["self"] (defScope mRows) := ⟨rfl, rfl, rfl, by decide +kernel, rfl, by decide +kernel, by decide +kernel⟩
theorem gr_ext {S : Sl} {H H' : Hp} (t : Told S H) (h : ∀ b o, H b = some o → H' b = some o) : Gr S 0 H H' := ⟨⟨fun b o e _ => h b o e, fun d e => by
    obtain ⟨kvs, q⟩ := t d e
    exact ⟨kvs, [], q, by rw [List.append_nil]; exact h _ _ q, Nat.le_refl _, fun z => by simpa using z⟩⟩, fun b o e _ => h b o e⟩
theorem rows_at {H' : Hp} : ∀ {as : List Addr} {rows : List Rw}, Paired (fun a (r : Int × V) => H' a = some (.tup [.int r.1, r.2])) as (rows.map fun r => (r.1, V.str r.2)) → RowsAt H' rows (as.map V.ref)
  | [], [], .nil => .nil
  | a :: as, r :: rows, .cons h t => .cons ⟨a, rfl, h⟩ (rows_at t)
theorem ok_rows (F : MethAt K C "rows" "Table.rows" mRows) (T : Txt K mg C) (ms : mg "sorted" = none) : MtQ P w K mg base C 1 "rows" ["self"] (spRows C) := by
  refine F.okQ scRs (fun _ _ _ _ _ _ us hl => match us, hl with | [_], _ => rfl) (fun vs H Q E h => ?_) (fun f0 cdv A outer s H vs Q E hr h => ?_)
  · obtain ⟨S, x, d, f, D, kvs, rows, rfl, _⟩ := h; rfl
  obtain ⟨S, x, d, f, D, kvs, rows, rfl, ⟨⟨dx, h1⟩, h2⟩, ts, hw, hz, hs, q⟩ := h
  refine ⟨_, pss_one (ps_ret (pe_callB (call_sortedIQ hr) rfl ms PyProof.Rows.boot_sorted (pa_cons (pe_bm0 PySem.F.plainAttrs_dict PySem.F.slot_dict_items PySem.F.type_dict_items mt_items (pe_fld (pv 0) rfl)) pa_nil))), ?_⟩
  refine ⟨_, rfl, x, C, dx, _, _, rfl, h1, T.cl, T.nH, fl_h _ _ _, .inr (.inr (.inl ⟨rfl, .inl ⟨_, h2⟩⟩)), d, kvs, rfl, rfl, h2, fun p hp => ?_⟩
  have g1 : Gr S 0 H (upd H p (.frz (viewO d) (.own 0))) := .new ts hp
  refine ⟨p, d, kvs, rfl, upd_same, g1.same h2 (fun _ e => nomatch e), hw.ints, hz, fun l as rs H' hx hl hl' pr pw pm => ?_⟩
  have e := hs.uniq pw pm
  subst e
  have g2 : Gr S 0 _ H' := gr_ext g1.gn.told2 hx
  exact q l _ H' (g1.trans g2) (g1.free hl) hl' (rows_at pr)
end
theorem call_dictC {X : Cx} : CallR X (.type "dict") (fun xs H Q => ∃ a kvs, xs = [.ref a] ∧ H a = some (.dK kvs) ∧ ∀ p, H p = none → Q (.ref p) (upd H p (.dK kvs))) := by
  intro pins s σ H xs us Q I r h
  obtain ⟨a, kvs, rfl, ha, q⟩ := h
  obtain ⟨u, rfl, ru⟩ := vals1 r
  obtain rfl : u = Value.ref a := ru
  exact d_copyOf I (.inl ha) fun p s' hp I' => ⟨.ref p, _, I', rfl, q p hp⟩
theorem fl_h2 (f : Addr) (D : Nat) (d e : Addr) : putF "held" (.ref e) (fl f D d) = fl f D e := by
  show (if ("seal" : Str) = "held" then _ else (("seal" : Str), V.ref f) :: (if ("depth" : Str) = "held" then _ else (("depth" : Str), V.int D) :: (if ("held" : Str) = "held" then (("held" : Str), V.ref e) :: [] else _))) = _
  rw [if_neg (by decide +kernel), if_neg (by decide +kernel), if_pos rfl]; rfl
section
variable {P : Program} {w : World} {K : PySem.W.Frag} {mg : Str → Option Value} {base : Heap} {C : Addr}
theorem scTS : FnScope ["seal", "depth", "top"] ["seal", "depth", "top"] (defScope sTabS) := ⟨rfl, rfl, rfl, by decide +kernel, rfl, by decide +kernel, by decide +kernel⟩
theorem ok_tabS (F : FunAt K mg "table_seal" sTabS) (Fl : CallOkQ P w K mg base 1 (spSeal K mg sNumd)) : FnQ P w K mg base 2 "table_seal" ["seal", "depth", "top"] (spMark K mg "table") := by
  refine F.okQ scTS (fun _ _ _ _ _ _ us hl => match us, hl with | [_, _, _], _ => rfl) (fun vs H Q E h => ?_) (fun f cdv A outer s H vs Q E hr h => ?_)
  · obtain ⟨S, f, t1, t2, v1, v2, rfl, _⟩ := h; rfl
  obtain ⟨S, f, t1, t2, v1, v2, rfl, hS, hc, i1, i2, q⟩ := h
  refine ⟨_, pss_one (ps_ret (pe_callVQ (i := 0) Fl hr rfl (Or.inl rfl) (pa_cons pe_str (pa_cons (pv 1) (pa_cons (pv 2) pa_nil))))), ?_⟩
  exact ⟨f, rfl, hS.fny, _, rfl, _, rfl, hS.fny, S, _, t1, t2, _, _, hS, hc, rfl, i1, i2, q⟩
abbrev tbT (D : Nat) (rows : List Rw) : Tm := .nd "table" (.int (D : Int)) (topP D rows)
def spTHead (K : PySem.W.Frag) (mg : Str → Option Value) (C : Addr) : Sp := fun vs H Q _ => ∃ (S : Sl) (x d f : Addr) (D : Nat) (kvs : List (Key × V)) (rows : List Rw), vs = [.ref x] ∧ TabAt C H x d f D kvs ∧ SealAt K mg sNumd S H f ∧ Rws D kvs ∧ kvs.length < 64 ∧ SrtOf kvs rows ∧ D ≤ 16 ∧ Cap S H (cstP D rows + 1) ∧
  ∀ v H', Gr S (cstP D rows + 1) H H' → isT S H' (tbT D rows) v → Q v H'
theorem scTH : FnScope ["self"] ["self"] (defScope mHead) := ⟨rfl, rfl, rfl, by decide +kernel, rfl, by decide +kernel, by decide +kernel⟩
theorem ok_thead (F : MethAt K C "head" "Table.head" mHead) (T : Txt K mg C) (Fs : FnQ P w K mg base 2 "table_seal" ["seal", "depth", "top"] (spMark K mg "table")) (Ft : FnQ P w K mg base 19 "top_of_part" ["seal", "rows", "bits"] (spTopA K mg)) (Mr : MtQ P w K mg base C 1 "rows" ["self"] (spRows C)) : MtQ P w K mg base C 20 "head" ["self"] (spTHead K mg C) := by
  refine F.okQ scTH (fun _ _ _ _ _ _ us hl => match us, hl with | [_], _ => rfl) (fun vs H Q E h => ?_) (fun f0 cdv A outer s H vs Q E hr h => ?_)
  · obtain ⟨S, x, d, f, D, kvs, rows, rfl, _⟩ := h; rfl
  obtain ⟨S, x, d, f, D, kvs, rows, rfl, hT, hS, hw, hz, hs, D16, hc, q⟩ := h
  obtain ⟨⟨dx, h1⟩, h2⟩ := id hT
  refine ⟨_, pss_one (ps_ret (pe_callQ Fs (hr.mono (by omega)) rfl (pa_cons (pe_fld (pv 0) rfl) (pa_cons (pe_fld (pv 0) rfl) (pa_cons (pe_callQ Ft hr rfl (pa_cons (pe_fld (pv 0) rfl) (pa_cons (pe_methQ0 Mr (pv 0) T.cl (hr.mono (by omega))) (pa_cons (pe_fld (pv 0) rfl) pa_nil)))) pa_nil))))), ?_⟩
  refine ⟨_, rfl, x, C, dx, _, _, rfl, h1, T.cl, T.nS, fl_s _ _ _, _, rfl, x, C, dx, _, _, rfl, h1, T.cl, T.nD, fl_d _ _ _, _, rfl, x, C, dx, _, _, rfl, h1, T.cl, T.nS, fl_s _ _ _, _, rfl, x, dx, _, rfl, h1, rfl, ?_⟩
  refine ⟨S, x, d, f, D, kvs, rows, rfl, hT, hS.told, hw, hz, hs, fun l ws H1 g1 nl el rl => ?_⟩
  have h11 := g1.same h1 (fun _ e => nomatch e)
  refine ⟨_, rfl, x, C, dx, _, _, rfl, h11, T.cl, T.nD, fl_d _ _ _, D, D16, S, f, l, ws, rows, rfl, hS.up g1.gn, SqL.of el, rl, ?_, hs.okr hw, hc.go g1.gn (by omega), fun v H2 g2 i2 => ?_⟩
  · have := hs.len; omega
  have g12 := g1.trans g2
  exact ⟨S, f, .int (D : Int), _, _, _, rfl, hS.up g12.gn, hc.go g12.gn (by omega), rfl, i2, fun v3 H3 g3 i3 => q v3 H3 ((g12.trans g3).up (by omega)) i3⟩
def spTwin (C : Addr) : Sp := fun vs H Q _ => ∃ (x d f : Addr) (D : Nat) (kvs : List (Key × V)), vs = [.ref x] ∧ TabAt C H x d f D kvs ∧ ∀ y e H', TabAt C H' y e f D kvs → (∀ b o, H b = some o → H' b = some o) → H y = none → H e = none → Q (.ref y) H'
theorem scTw : FnScope ["self", "other"] ["self"] (defScope mTwin) := ⟨rfl, rfl, rfl, by decide +kernel, rfl, by decide +kernel, by decide +kernel⟩
theorem ok_twin {fI : Addr} {fdI : FuncData} (F : MethAt K C "twin" "Table.twin" mTwin) (T : Txt K mg C) (M : Mk K C fI) (GI : FnOk P w K mg base CX0 1 fI fdI ["self", "seal", "depth"] (spTI C)) (bI : Binds K fdI ["self", "seal", "depth"] []) (md : mg "dict" = none) : MtP P w K mg base C 3 "twin" ["self"] (spTwin C) := by
  refine F.ok scTw (fun _ _ _ _ _ _ us hl => match us, hl with | [_], _ => rfl) (fun vs H Q E h => ?_) (fun f0 cdv A outer s H vs Q E hr h => ?_)
  · obtain ⟨x, d, f, D, kvs, rfl, _⟩ := h; rfl
  obtain ⟨x, d, f, D, kvs, rfl, ⟨⟨dx, h1⟩, h2⟩, q⟩ := h
  have nd := scTw.nd
  refine ⟨_, pss_cons (ps_set (i := 1) nd rfl (Or.inl rfl) (pe_make M GI hr rfl T.mgC bI .nil pass0 (pa_cons (pe_fld (pv 0) rfl) (pa_cons (pe_fld (pv 0) rfl) pa_nil)))) <|
    pss_cons (ps_fld (pv 1) (pe_callTy call_dictC rfl md PyProof.Rows.boot_dict (pa_cons (pe_fld (pv 0) rfl) pa_nil)) rfl) <|
    pss_one (ps_ret (pv 1)), ?_⟩
  refine ⟨_, rfl, x, C, dx, _, _, rfl, h1, T.cl, T.nS, fl_s _ _ _, _, rfl, x, C, dx, _, _, rfl, h1, T.cl, T.nD, fl_d _ _ _, fun y dy ny ndy ney => ⟨y, dy, f, D, rfl, upd_same, fun e0 H1 ne0 T1 k1 => ⟨rfl, ?_⟩⟩⟩
  have all1 : ∀ b o, H b = some o → H1 b = some o := fun b o h => k1 b o (by rw [upd_ne (ne_of_none h ny), upd_ne (ne_of_none h ndy)]; exact h) (ne_of_none h ny)
  obtain ⟨⟨dy1, hy1⟩, he1⟩ := T1
  refine ⟨_, rfl, x, C, dx, _, _, rfl, all1 _ _ h1, T.cl, T.nH, fl_h _ _ _, d, kvs, rfl, all1 _ _ h2, fun e he => ?_⟩
  have nye : y ≠ e := ne_of_none hy1 he
  have hy2 : upd H1 e (.dK kvs) y = some (.ins C dy1 (fl f D e0)) := by rw [upd_ne nye]; exact hy1
  refine ⟨_, rfl, y, C, dy1, _, rfl, hy2, T.cl, T.nH, (by show 3 < 1000; decide), ?_⟩
  have hHe : H e = none := by
    cases z : H e with
    | none => rfl
    | some o => rw [all1 _ _ z] at he; cases he
  refine ⟨_, rfl, q y e _ ⟨⟨dy1, ?_⟩, ?_⟩ (fun b o hb => ?_) ny hHe⟩
  · rw [upd_same, fl_h2]
  · rw [upd_ne nye.symm, upd_same]
  · rw [upd_ne (ne_of_none hb ny), upd_ne (ne_of_none hb hHe)]; exact all1 _ _ hb
end
end My
namespace My
open PySem L2
section
variable {P : Program} {w : World} {K : PySem.W.Frag} {mg : Str → Option Value} {base : Heap} {C : Addr}
def spDraw : Sp := fun vs H Q _ => ∃ c k m : Int, vs = [.int c, .int k, .int m] ∧ 0 ≤ k ∧ 0 < m ∧ ∀ (v : Int) H', 0 ≤ v → v < m → (∀ b o, H b = some o → H' b = some o) → Q (.int v) H'
theorem scDr : FnScope ["_law_cell", "_law_k", "_law_many", "_law_primes"] ["_law_cell", "_law_k", "_law_many"] (defScope sDraw) := ⟨rfl, rfl, rfl, by decide +kernel, rfl, by decide +kernel, by decide +kernel⟩
def primes : List Int := [1000003, 1000033, 1000037, 1000039, 1000081, 1000099, 1000117, 1000121, 1000133, 1000151, 1000159, 1000171, 1000183, 1000187, 1000193, 1000199]
theorem primes_pos {j : Nat} {p : Int} (h : primes[j]? = some p) : 0 < p := by
  have key : ∀ p ∈ primes, 0 < p := by decide
  exact key p (List.mem_of_getElem? h)
def drA : Stmt := (defBody sDraw).getD 0 (.Pass ⟨0, 0, 0, 0⟩)
def drB : Stmt := (defBody sDraw).getD 1 (.Pass ⟨0, 0, 0, 0⟩)
theorem dr_eq : defBody sDraw = [drA, drB] := rfl
theorem dr_A : ∃ es x1 p1 p2 p3, drA = .Assign [.Name "_law_primes" p1] (.Tuple es x1 p2) p3 ∧ IntCs es primes :=
  ⟨_, _, _, _, _, rfl, .cons (.cons (.cons (.cons (.cons (.cons (.cons (.cons (.cons (.cons (.cons (.cons (.cons (.cons (.cons (.cons .nil)))))))))))))))⟩
theorem ok_draw (F : FunAt K mg "_law_draw" sDraw) : FnP P w K mg base 1 "_law_draw" ["_law_cell", "_law_k", "_law_many"] spDraw := by
  refine F.ok scDr (fun _ _ _ _ _ _ us hl => match us, hl with | [_, _, _], _ => rfl) (fun vs H Q E h => ?_) (fun f0 cdv A outer s H vs Q E hr h => ?_)
  · obtain ⟨c, k, m, rfl, _⟩ := h; rfl
  obtain ⟨c, k, m, rfl, hk, hm, q⟩ := h
  have nd := scDr.nd
  obtain ⟨es, x1, p1, p2, p3, eA, hes⟩ := dr_A
  rw [dr_eq, eA]
  refine ⟨_, pss_cons (ps_set (i := 3) nd rfl (Or.inl rfl) (pe_tup (pa_ints hes))) <|
    pss_one (ps_ret (pe_op op_mod (pe_op op_mod (pe_op op_add (pe_op op_mul (pv 0) pe_int) (pe_op op_mul (pv 1) pe_int)) (pe_ix ix_tup (pv 3) (pe_op op_mod (pv 1) pe_int) (fun _ _ => rfl))) (pv 2))), ?_⟩
  refine ⟨(by show 16 ≤ sizeLine; decide), fun p hp => ?_⟩
  have hj : (k % 16).toNat < primes.length := by show (k % 16).toNat < 16; omega
  obtain ⟨pr, epr⟩ : ∃ pr, primes[(k % 16).toNat]? = some pr := ⟨_, List.getElem?_eq_getElem hj⟩
  have hpr := primes_pos epr
  have eat : atI (primes.map V.int) (k % 16) = some (.int pr) := by
    have z : atI (primes.map V.int) (((k % 16).toNat : Nat) : Int) = some (.int pr) := atI_nat (by rw [List.getElem?_map, epr]; rfl)
    rw [show (((k % 16).toNat : Nat) : Int) = k % 16 by omega] at z
    exact z
  refine ⟨_, rfl, _, _, rfl, rfl, .inr ⟨by decide, by decide⟩, _, rfl, _, _, rfl, rfl, .inr ⟨by decide, by decide⟩, _, _, rfl, rfl, _, rfl, _, rfl, _, _, rfl, rfl, (by show (0 : Int) < 16; decide), p, primes.map V.int, _, _, rfl, rfl, .inl (.inl upd_same), eat, _, _, rfl, rfl, hpr, _, rfl, _, _, rfl, rfl, hm, ?_⟩
  exact q _ _ (Int.emod_nonneg _ (by omega)) (Int.emod_lt_of_pos _ hm) fun b o e => by rw [upd_ne (ne_of_none e hp)]; exact e
end
def SqF (K : PySem.W.Frag) (H : Hp) (a : Addr) (xs : List V) : Prop := (∃ o, H a = some (.frz o (.lst xs))) ∨ ∀ H', SqL K H' a xs
theorem SqF.sq {K : PySem.W.Frag} {H : Hp} {a : Addr} {xs : List V} (h : SqF K H a xs) : SqL K H a xs := by
  rcases h with ⟨o, h⟩ | h
  · exact .inl (.inr ⟨o, h⟩)
  · exact h H
theorem SqF.up {K : PySem.W.Frag} {S : Sl} {n : Nat} {H H' : Hp} {a : Addr} {xs : List V} (h : SqF K H a xs) (g : Gn S n H H') : SqF K H' a xs := by
  rcases h with ⟨o, h⟩ | h
  · exact .inl ⟨o, g.keep _ _ h rfl⟩
  · exact .inr h
theorem sqF_of {K : PySem.W.Frag} {H : Hp} {a : Addr} {xs : List V} (h : SqL K H a xs) (s : Scr K H a xs) : SqF K H a xs := by
  rcases h with (h | ⟨o, h⟩) | h
  · obtain ⟨its, n, r, z, ⟨u, e⟩ | e⟩ := s
    · rw [h] at e; cases e
    · have hl := r.length
      exact .inr fun H' => .inr ⟨_, its.toArray, n, e, rfl, rfl, rfl, by simp; omega, by simpa using r⟩
  · exact .inl ⟨o, h⟩
  · exact .inr fun H' => .inr h
def Sg (x : Str) : Prop := x.length = 1 ∧ ∀ c ∈ x.cps.toList, 32 ≤ c ∧ c ≤ 126
section
variable {P : Program} {w : World} {K : PySem.W.Frag} {mg : Str → Option Value} {base : Heap}
def spWord : Sp := fun vs H Q _ => ∃ c : Int, vs = [.int c] ∧ ∀ (ys : List Str) H', ys.length ≤ 5 → (∀ y ∈ ys, Sg y) → (∀ b o, H b = some o → H' b = some o) → Q (.str (Txt.join "" ys)) H'
theorem scWd : FnScope ["_law_cell", "_law_some", "_law_many", "_law_kept"] ["_law_cell"] (defScope sWord) := ⟨rfl, rfl, rfl, by decide +kernel, rfl, by decide +kernel, by decide +kernel⟩
def wdA : Stmt := (defBody sWord).getD 0 (.Pass ⟨0, 0, 0, 0⟩)
theorem wd_A : ∃ z j p1 p2 p3, wdA = .Assign [.Name "_law_some" p1] (.Constant (.str z) j p2) p3 ∧ z.length = 94 ∧ ∀ c ∈ z.cps.toList, 32 ≤ c ∧ c ≤ 126 := ⟨_, _, _, _, _, rfl, by decide +kernel, by decide +kernel⟩
theorem wd_eq : defBody sWord = wdA :: (defBody sWord).drop 1 := rfl
theorem sg_at {z : Str} (h : ∀ c ∈ z.cps.toList, 32 ≤ c ∧ c ≤ 126) (hz : z.length = 94) {v : Int} (h0 : 0 ≤ v) (h1 : v < 94) : ∃ c, atI z.cps.toList v = some c ∧ Sg ⟨#[c]⟩ := by
  have hl : z.cps.toList.length = 94 := by rw [← hz]; simp [Str.length]
  have hv : v.toNat < z.cps.toList.length := by omega
  refine ⟨z.cps.toList[v.toNat], ?_, rfl, fun c hc => ?_⟩
  · have q := atI_nat (List.getElem?_eq_getElem hv)
    rw [show ((v.toNat : Nat) : Int) = v by omega] at q
    exact q
  · have e : c = z.cps.toList[v.toNat] := by simpa using hc
    rw [e]; exact h _ (List.getElem_mem hv)
theorem sum_ones : ∀ {ys : List Str}, (∀ y ∈ ys, Sg y) → (ys.map (·.length)).sum = ys.length
  | [], _ => rfl
  | y :: ys, h => by
    rw [List.map_cons, List.sum_cons, sum_ones (fun z hz => h z (List.mem_cons_of_mem _ hz)), (h y List.mem_cons_self).1, List.length_cons, Nat.add_comm]
theorem ok_word (F : FunAt K mg "_law_word" sWord) (Fd : FnP P w K mg base 1 "_law_draw" ["_law_cell", "_law_k", "_law_many"] spDraw) (ml : mg "len" = none) (mr : mg "range" = none) : FnP P w K mg base 2 "_law_word" ["_law_cell"] spWord := by
  refine F.ok scWd (fun _ _ _ _ _ _ us hl => match us, hl with | [_], _ => rfl) (fun vs H Q E h => ?_) (fun f0 cdv A outer s H vs Q E hr h => ?_)
  · obtain ⟨c, rfl, _⟩ := h; rfl
  obtain ⟨c, rfl, q⟩ := h
  have nd := scWd.nd
  have hun := hr.un
  obtain ⟨z, j, p1, p2, p3, eA, hz, hzc⟩ := wd_A
  rw [wd_eq, eA]
  refine' ⟨_, pss_cons (ps_set (i := 1) nd rfl (Or.inr rfl) pe_str) <|
    pss_cons (ps_set (i := 2) nd rfl (Or.inr rfl) (pe_callB call_len_str rfl ml PySem.boot_len (pa_cons (pv 1) pa_nil))) <|
    pss_cons (ps_setComp (iz := 3) (ys := ["_law_cell", "_law_some", "_law_many"]) (js := [0, 1, 2]) ?ok (pi_range1 rfl mr (pa_cons (pe_callN Fd hr rfl (pa_cons (pv 0) (pa_cons pe_int (pa_cons pe_int pa_nil)))) pa_nil)) (fun _ _ _ => pts_nil) ?he nd rfl (Or.inl rfl) (Or.inl rfl) rfl) <|
    pss_cons (ps_if (PW.pt (pw_and (pt_cmpR op_neB (pv 3) (pe_lst pa_nil) (nomark _)) (pw_and1 (pt_cmpR op_eq (pe_callN Fd hr rfl (pa_cons (pv 0) (pa_cons pe_int (pa_cons pe_int pa_nil)))) pe_int (nomark _)))))
      (pss_cons (ps_setComp (iz := 3) (ys := []) (js := []) ?ok2 (pi_list (pv 3)) (fun _ _ _ => pts_nil) (fun _ _ _ => pe_str) nd rfl (Or.inl rfl) (Or.inl rfl) rfl) <|
        pss_one (ps_asg (pe_ix ix_str (pv 1) (pe_callN Fd hr rfl (pa_cons (pv 0) (pa_cons pe_int (pa_cons (pv 2) pa_nil)))) (fun _ _ => rfl)) (pg_sub (pv 3) (pe_callN Fd hr rfl (pa_cons (pv 0) (pa_cons pe_int (pa_cons (pe_callB call_len_seq rfl ml PySem.boot_len (pa_cons (pv 3) pa_nil)) pa_nil)))) set_list)))
      pss_nil) <|
    pss_one (ps_ret (pe_bm PySem.F.plainAttrs_str PySem.F.slot_str_join PySem.F.type_str_join mt_join pe_str (pa_cons (pv 3) pa_nil))), ?rd⟩
  case ok =>
    refine ⟨rfl, rfl, rfl, by decide +kernel, by decide +kernel, rfl, by decide +kernel, same_of (fun p hp => ?_), rfl, fun i y h => ?_, rfl⟩
    · simp only [List.mem_cons, List.not_mem_nil, or_false] at hp
      rcases hp with rfl | rfl | rfl <;> rfl
    · match i, h with
      | 0, h => simp at h; subst h; exact ⟨0, rfl, rfl, rfl, rfl⟩
      | 1, h => simp at h; subst h; exact ⟨1, rfl, rfl, rfl, rfl⟩
      | 2, h => simp at h; subst h; exact ⟨2, rfl, rfl, rfl, rfl⟩
      | i + 3, h => simp at h
  case he =>
    exact fun _ _ _ => pe_ix ix_str (pv 2) (pe_callN Fd hr rfl (pa_cons (pv 1) (pa_cons (pe_op op_add pe_int (pe_op op_mod (pv 0) pe_int)) (pa_cons (pv 3) pa_nil)))) (fun _ _ => rfl)
  case ok2 =>
    exact ⟨rfl, rfl, rfl, by decide +kernel, by decide +kernel, rfl, by decide +kernel, fun _ _ h => (nomatch h), rfl, fun i y h => by simp at h, rfl⟩
  case rd =>
  refine ⟨_, rfl, z, rfl, by rw [hz, sizeLine_eq]; decide, ?_⟩
  rw [hz]
  refine ⟨_, rfl, c, 13, 6, rfl, by decide, by decide, fun v1 H1 a1 b1 x1 => ⟨v1, rfl, by omega, by omega, ?_⟩⟩
  -- how the text is told behind
  have fin : ∀ (D : Addr) (ys : List Str) (H' : Hp), ys.length ≤ 5 → (∀ y ∈ ys, Sg y) → H' D = some (.lst (ys.map V.str)) → (∀ b o, H b = some o → H' b = some o) →
      tRet (tBM K "str" (fun x vs H Q => ∃ (z : Str) (p : Addr) (ys : List Str), x = .str z ∧ vs = [.ref p] ∧ SqL K H p (ys.map V.str) ∧ (ys.map (·.length)).sum + ys.length * z.length ≤ 16777216 ∧ Q (.str (Txt.join z ys)) H) (tC (.str "")) (tCons (tVar 3) tNil)) { nx := fun _ H' => Q .non H', rt := Q } [some (.int c), some (.str z), some (.int 94), some (.ref D)] H' := fun D ys H' hl hs hD hx => by
    refine ⟨rfl, _, rfl, "", D, ys, rfl, rfl, SqL.of hD, ?_, q ys H' hl hs hx⟩
    rw [sum_ones hs]
    show ys.length + ys.length * 0 ≤ _
    omega
  refine comp_range (fun D i ys H' => (∀ b o, H b = some o → H' b = some o) ∧ H' D = some (.lst ys) ∧ ∃ zs : List Str, ys = zs.map V.str ∧ zs.length = i ∧ ∀ y ∈ zs, Sg y) (fun D hD => ⟨fun b o e => ?_, upd_same, [], rfl, rfl, by simp⟩) ?_ ?_
  · rw [upd_ne (ne_of_none (x1 _ _ e) hD)]; exact x1 _ _ e
  · rintro D i ys H' Qb hD hi ⟨hx, hD', zs, rfl, hzl, hzs⟩ hq
    have r0 : 0 ≤ ((0 : Int) + (i : Nat)) % 4 := Int.emod_nonneg _ (by decide)
    refine ⟨_, rfl, _, rfl, _, rfl, _, _, rfl, rfl, (by show (0 : Int) < 4; decide), _, _, rfl, rfl, _, rfl, c, _, 94, rfl, by omega, by decide, fun v2 H2 a2 b2 x2 => ?_⟩
    obtain ⟨ch, e1, e2⟩ := sg_at hzc hz a2 b2
    refine ⟨z, v2, ch, rfl, rfl, by rw [hz, sizeLine_eq]; decide, e1, hq _ H2 (x2 _ _ hD') (by rw [sizeLine_eq]; simp; omega) ⟨fun b o e => ?_, upd_same, zs ++ [⟨#[ch]⟩], by simp, by simp; omega, fun y hy => ?_⟩⟩
    · have := x2 _ _ (hx _ _ e)
      rw [upd_ne (by rintro rfl; rw [x1 _ _ e] at hD; cases hD)]; exact this
    · rcases List.mem_append.mp hy with w | w
      · exact hzs y w
      · rw [List.mem_singleton.mp w]; exact e2
  · rintro D ys H' hD ⟨hx, hD', zs, rfl, hzl, hzs⟩
    have hz5 : zs.length ≤ 5 := by omega
    refine ⟨_, rfl, by show 0 ≤ sizeLine; decide, fun p hp => ?_⟩
    have hx' : ∀ b o, H b = some o → upd H' p (.lst []) b = some o := fun b o e => by rw [upd_ne (ne_of_none (hx _ _ e) hp)]; exact hx _ _ e
    have hD2 : upd H' p (.lst []) D = some (.lst (zs.map V.str)) := by rw [upd_ne (ne_of_none hD' hp)]; exact hD'
    refine ⟨1, _, eqB_nil hD2 upd_same, by show (A.deeper (PyProof.Rows.envOfC "_law_word" (defScope sWord) s.heap.objs.size f0 cdv)).units + 1 + 1 < cLine; omega, _, rfl, ?_⟩
    refine ite2 (fun cn => ?_) (fun _ => iteF (fin D zs _ hz5 hzs hD2 hx'))
    have zne : zs ≠ [] := by rintro rfl; simp at cn
    have zpos : 0 < zs.length := List.length_pos_iff.mpr zne
    refine ⟨_, rfl, c, 14, 3, rfl, by decide, by decide, fun v2 H2 a2 b2 x2 => ⟨rfl, _, rfl, ?_⟩⟩
    have hx2 : ∀ b o, H b = some o → H2 b = some o := fun b o e => x2 _ _ (hx' _ _ e)
    have hD3 := x2 _ _ hD2
    refine ite2 (fun _ => ?_) (fun _ => fin D zs _ hz5 hzs hD3 hx2)
    refine ⟨_, rfl, D, rfl, ⟨_, SqL.of hD3⟩, ?_⟩
    refine comp_list (K := K) (xs := zs.map V.str) (fun D2 i ys H' => (∀ b o, H2 b = some o → H' b = some o) ∧ H' D2 = some (.lst ys) ∧ ∃ us : List Str, ys = us.map V.str ∧ us.length = i ∧ ∀ y ∈ us, Sg y) (fun D2 h2 => ⟨fun b o e => ?_, upd_same, [], rfl, rfl, by simp⟩) (fun D2 i ys H' h2 h => SqL.of (h.1 _ _ hD3)) ?_ ?_
    · rw [upd_ne (ne_of_none e h2)]; exact e
    · rintro D2 i x ys H3 Qb h2 hx3 ⟨hxx, hD2', us, rfl, hul, hus⟩ hq
      have hi : i < zs.length := by have := (List.getElem?_eq_some_iff.mp hx3).1; simpa using this
      refine hq _ H3 hD2' (by rw [sizeLine_eq]; simp; omega) ⟨fun b o e => ?_, upd_same, us ++ [("a" : Str)], by simp, by simp; omega, fun y hy => ?_⟩
      · rw [upd_ne (by rintro rfl; rw [e] at h2; cases h2)]; exact hxx _ _ e
      · rcases List.mem_append.mp hy with w | w
        · exact hus y w
        · rw [List.mem_singleton.mp w]; exact ⟨by decide +kernel, by decide +kernel⟩
    · rintro D2 ys H3 h2 ⟨hxx, hD2', us, rfl, hul, hus⟩
      rw [List.length_map] at hul
      refine ⟨_, rfl, _, rfl, _, rfl, c, 12, 94, rfl, by decide, by decide, fun v4 H4 a4 b4 x4 => ?_⟩
      obtain ⟨ch, e1, e2⟩ := sg_at hzc hz a4 b4
      refine ⟨z, v4, ch, rfl, rfl, by rw [hz, sizeLine_eq]; decide, e1, ?_⟩
      have hD4 := x4 _ _ hD2'
      refine ⟨_, rfl, _, rfl, _, rfl, D2, _, rfl, .inl (SqL.of hD4), ?_⟩
      refine ⟨c, 15, _, rfl, by decide, by rw [List.length_map]; omega, fun v5 H5 a5 b5 x5 => ?_⟩
      rw [List.length_map] at b5
      have hD5 := x5 _ _ hD4
      refine ⟨D2, us.map V.str, v5, v5.toNat, rfl, rfl, hD5, ?_, ?_⟩
      · rw [List.length_map]; unfold ixN; rw [if_pos a5, if_pos b5]
      · have es : (us.map V.str).set v5.toNat (.str ⟨#[ch]⟩) = (us.set v5.toNat ⟨#[ch]⟩).map V.str := by rw [List.map_set]
        rw [es]
        refine fin D2 _ _ (by rw [List.length_set]; omega) (fun y hy => ?_) upd_same fun b o e => ?_
        · rcases List.mem_or_eq_of_mem_set hy with w | w
          · exact hus y w
          · rw [w]; exact e2
        · have h6 := x5 _ _ (x4 _ _ (hxx _ _ (hx2 _ _ e)))
          rw [upd_ne (by rintro rfl; rw [hx2 _ _ e] at h2; cases h2)]; exact h6
end
end My
namespace My
open PySem L2
section
variable {P : Program} {w : World} {K : PySem.W.Frag} {mg : Str → Option Value} {base : Heap} {C cE : Addr}
structure Npl (K : PySem.W.Frag) (mg : Str → Option Value) (cE : Addr) : Prop where
  xc : XCls K cE
  kc : PySem.W.keepIn K (.ref cE) = true
  hm : mg "NoPlace" = some (.ref cE)
abbrev Of (k : Int) (D : Nat) : Prop := 0 ≤ k ∧ k < 2 ^ D
def spChkN (C cE : Addr) : Sp := fun vs H Q E => ∃ (x d f : Addr) (D : Nat) (kvs : List (Key × V)) (k : Int), vs = [.ref x, .int k] ∧ TabAt C H x d f D kvs ∧ (Of k D → Q .non H) ∧ (¬ Of k D → E (.ref cE) none H)
theorem ok_chkN (F : MethAt K C "check" "Table.check" mCheck) (T : Txt K mg C) (N : Npl K mg cE) (Fi : FnP P w K mg base 1 "in_depth" ["key", "depth"] spInD) : MtN P w K mg base C 2 "check" ["self", "key"] (spChkN C cE) := by
  refine F.okN scCk (fun _ _ _ _ _ _ us hl => match us, hl with | [_, _], _ => rfl) (fun vs H Q E h => ?_) (fun f0 cdv A outer s H vs Q E hr h => ?_)
  · obtain ⟨x, d, f, D, kvs, k, rfl, _⟩ := h; rfl
  obtain ⟨x, d, f, D, kvs, k, rfl, ⟨⟨dx, h1⟩, h2⟩, q1, q2⟩ := h
  refine ⟨_, pss_one (ps_if (pt_not (pt_val (pe_callN Fi hr rfl (pa_cons (pv 1) (pa_cons (pe_fld (pv 0) rfl) pa_nil))))) (pss_one (ps_raise raisesN_cx hr.hd N.xc rfl N.hm (pa_cons pe_str pa_nil))) pss_nil), ?_⟩
  refine ⟨_, rfl, _, rfl, x, C, dx, _, _, rfl, h1, T.cl, T.nD, fl_d _ _ _, k, D, rfl, _, rfl, ?_⟩
  by_cases c : Of k D
  · rw [decide_eq_true c]
    exact iteF (q1 c)
  · rw [decide_eq_false c]
    exact iteT ⟨by show 1 ≤ sizeLine; decide, q2 c⟩
def spPutN (C cE : Addr) : Sp := fun vs H Q E => ∃ (x d f : Addr) (D : Nat) (kvs : List (Key × V)) (k : Int) (v : V), vs = [.ref x, .int k, v] ∧ TabAt C H x d f D kvs ∧ kvs.length < sizeLine ∧ (Of k D → Q .non (upd H d (.dK (putK kvs (.inl k) v)))) ∧ (¬ Of k D → E (.ref cE) none H)
theorem ok_putN (F : MethAt K C "put" "Table.put" mPut) (T : Txt K mg C) (Fc : MtN P w K mg base C 2 "check" ["self", "key"] (spChkN C cE)) : MtN P w K mg base C 3 "put" ["self", "key", "value"] (spPutN C cE) := by
  refine F.okN scPt (fun _ _ _ _ _ _ us hl => match us, hl with | [_, _, _], _ => rfl) (fun vs H Q E h => ?_) (fun f0 cdv A outer s H vs Q E hr h => ?_)
  · obtain ⟨x, d, f, D, kvs, k, v, rfl, _⟩ := h; rfl
  obtain ⟨x, d, f, D, kvs, k, v, rfl, hT, hz, q1, q2⟩ := h
  obtain ⟨⟨dx, h1⟩, h2⟩ := id hT
  have hu := hu_of hr
  refine ⟨_, pss_cons (ps_expr (pe_methNN Fc (pv 0) T.cl hr passesN_cx (pa_cons (pv 1) pa_nil))) <| pss_one (ps_dput hu (pe_fld (pv 0) rfl) (pv 1) (pv 2) rfl), ?_⟩
  refine ⟨_, rfl, x, dx, _, rfl, h1, rfl, _, rfl, x, d, f, D, kvs, k, rfl, hT, fun c => ?_, q2⟩
  exact ⟨_, rfl, _, rfl, x, C, dx, _, _, rfl, h1, T.cl, T.nH, fl_h _ _ _, _, rfl, d, _, rfl, DPut.k (k := .inl k) h2 hz, q1 c⟩
def spCutN (C cE : Addr) : Sp := fun vs H Q E => ∃ (x d f : Addr) (D : Nat) (kvs : List (Key × V)) (k : Int), vs = [.ref x, .int k] ∧ TabAt C H x d f D kvs ∧ (∀ v, Of k D → valV kvs (.inl k) = some v → Q .non (upd H d (.dK (dropK kvs (.inl k))))) ∧ (¬ Of k D ∨ valV kvs (.inl k) = none → E (.ref cE) none H)
theorem scCt : FnScope ["self", "key"] ["self", "key"] (defScope mCut) := ⟨rfl, rfl, rfl, by decide +kernel, rfl, by decide +kernel, by decide +kernel⟩
theorem ok_cutN (F : MethAt K C "cut" "Table.cut" mCut) (T : Txt K mg C) (N : Npl K mg cE) (Fc : MtN P w K mg base C 2 "check" ["self", "key"] (spChkN C cE)) : MtN P w K mg base C 3 "cut" ["self", "key"] (spCutN C cE) := by
  refine F.okN scCt (fun _ _ _ _ _ _ us hl => match us, hl with | [_, _], _ => rfl) (fun vs H Q E h => ?_) (fun f0 cdv A outer s H vs Q E hr h => ?_)
  · obtain ⟨x, d, f, D, kvs, k, rfl, _⟩ := h; rfl
  obtain ⟨x, d, f, D, kvs, k, rfl, hT, q1, q2⟩ := h
  obtain ⟨⟨dx, h1⟩, h2⟩ := id hT
  have hu := hu_of hr
  refine ⟨_, pss_cons (ps_expr (pe_methNN Fc (pv 0) T.cl hr passesN_cx (pa_cons (pv 1) pa_nil))) <|
    pss_cons (ps_if (pt_cmp (pc_dnotin hu (pv 1) (pe_fld (pv 0) rfl))) (pss_one (ps_raise raisesN_cx hr.hd N.xc rfl N.hm (pa_cons pe_str pa_nil))) pss_nil) <|
    pss_one (ps_expr (pe_dpop1 (pe_fld (pv 0) rfl) (pv 1) ⟨rfl, rfl, rfl, rfl⟩)), ?_⟩
  refine ⟨_, rfl, x, dx, _, rfl, h1, rfl, _, rfl, x, d, f, D, kvs, k, rfl, hT, fun c => ?_, fun c => q2 (.inl c)⟩
  refine ⟨_, rfl, _, rfl, x, C, dx, _, _, rfl, h1, T.cl, T.nH, fl_h _ _ _, d, _, rfl, DGet.k (k := .inl k) h2, _, rfl, ?_⟩
  cases e : valV kvs (.inl k) with
  | none => exact iteT ⟨by show 1 ≤ sizeLine; decide, q2 (.inr e)⟩
  | some v => exact iteF ⟨_, rfl, x, C, dx, _, _, rfl, h1, T.cl, T.nH, fl_h _ _ _, d, rfl, .inl ⟨_, .inl h2⟩, _, rfl, kvs, .inl k, v, h2, rfl, e, q1 v c e⟩
end
end My
namespace My
open PySem L2
section
variable {P : Program} {w : World} {K : PySem.W.Frag} {mg : Str → Option Value} {base : Heap} {C B : Addr}
def spXI (C : Addr) : Sp := fun vs H Q _ => ∃ (e : Addr) (i : Int), vs = [.ref e, .int i] ∧ i.natAbs.log2 < 1920 ∧ H e = some (.ext (Ex0 C e)) ∧ ∀ d od, H d = none → RowO "row" (.int i) od → Q .non (upd (upd H e (.ext (Ex1 C e d))) d (.frz od (.own 0)))
theorem scXI : FnScope ["self", "row"] ["self", "row"] (defScope mBRInit) := ⟨rfl, rfl, rfl, by decide +kernel, rfl, by decide +kernel, by decide +kernel⟩
theorem ok_brinit (F : MethAt K C "__init__" "BadRow.__init__" mBRInit) (T : XOwn K C) (S : XSet K C "row") (R : ClsRd K B) (mB : mg "BookError" = some (.ref B)) : MtP P w K mg base C 1 "__init__" ["self", "row"] (spXI C) := by
  refine F.ok scXI (fun _ _ _ _ _ _ us hl => match us, hl with | [_, _], _ => rfl) (fun vs H Q E h => ?_) (fun f0 cdv A outer s H vs Q E hr h => ?_)
  · obtain ⟨e, i, rfl, _⟩ := h; rfl
  obtain ⟨e, i, rfl, hi, he, q⟩ := h
  refine ⟨_, pss_cons (ps_expr (pe_xinit (pl := _) T R rfl mB (pa_cons (pv 0) (pa_cons (pe_fstr (pv 1) (by decide +kernel)) pa_nil)))) <|
    pss_one (ps_xrow S (pv 0) (pv 1) rfl), ?_⟩
  refine ⟨_, rfl, _, rfl, i, rfl, hi, fun z hz => ⟨e, z, rfl, he, ?_⟩⟩
  exact ⟨_, rfl, _, rfl, e, rfl, he, fun d od nd ro => q d od nd ro⟩
end
open Tx in
def spIsKey : Sp := fun vs H Q _ => ∃ z : Str, vs = [.str z] ∧ z.length ≤ 1000 ∧ z.cps.all (· < 128) = true ∧ ∀ H', (∀ b o, H b = some o → H' b = some o) → Q (.bl (decide (0 < (sg z).length ∧ (sg z).length ≤ 9) && dg (sg z))) H'
section
open Tx
variable {P : Program} {w : World} {K : PySem.W.Frag} {mg : Str → Option Value} {base : Heap}
theorem scIsk : FnScope ["word"] ["word"] (defScope sIsKey) := ⟨rfl, rfl, rfl, by decide +kernel, rfl, by decide +kernel, by decide +kernel⟩
theorem ok_iskey {tf tm : Tok} (F : FunAt K mg "is_key" sIsKey) (mf : mg "FIGURES" = some (.str "0123456789" tf)) (mm : mg "MOST_FIGURES" = some (.int 9 tm)) (ml : mg "len" = none) (ma : mg "all" = none) : FnP P w K mg base 1 "is_key" ["word"] spIsKey := by
  refine F.ok scIsk (fun _ _ _ _ _ _ us hl => match us, hl with | [_], _ => rfl) (fun vs H Q E h => ?_) (fun f0 cdv A outer s H vs Q E hr h => ?_)
  · obtain ⟨z, rfl, _⟩ := h; rfl
  obtain ⟨z, rfl, hz, ha, q⟩ := h
  refine' ⟨_, pss_one (ps_ret (pe_and (pe_chain op_lt op_le pe_int (pe_callB call_len_str rfl ml PySem.boot_len (pa_cons (pv 0) pa_nil)) (pe_glob (v := .int 9) rfl mm ⟨_, rfl⟩)) (pe_one (pe_callB (call_all rfl) rfl ma PyProof.Rows.boot_all (pa_cons (pe_comp (ys := []) (js := []) ?ok (pi_str (pv 0)) (fun _ _ _ => pts_nil) ?he) pa_nil))))), ?rd⟩
  case ok =>
    refine ⟨rfl, rfl, rfl, by decide +kernel, by decide +kernel, rfl, by decide +kernel, same_of (fun p hp => ?_), rfl, fun i y h => ?_, rfl⟩
    · simp at hp
    · simp at h
  case he =>
    exact fun _ _ _ => pe_cmpR op_inS (pv 0) (pe_glob (v := .str "0123456789") rfl mf ⟨_, rfl⟩) rfl
  case rd =>
  have hl := sg_len z
  refine ⟨_, rfl, z, rfl, by rw [sizeLine_eq]; omega, _, _, rfl, rfl, _, rfl, ?_⟩
  have no : ¬ (0 < (sg z).length ∧ (sg z).length ≤ 9) → Q (.bl false) H := fun n => by
    have := q H fun _ _ e => e
    rw [decide_eq_false n] at this
    exact this
  refine ite2 (fun c1 => ?_) (fun c1 => ?_)
  · refine ⟨_, _, rfl, rfl, _, rfl, ite2 (fun c2 => ?_) (fun c2 => ?_)⟩
    · have d1 : (0 : Int) < (z.length : Nat) := of_decide_eq_true c1
      have d2 : ((z.length : Nat) : Int) ≤ 9 := of_decide_eq_true c2
      rw [hl] at d1 d2
      have q : ∀ H', (∀ b o, H b = some o → H' b = some o) → Q (.bl (dg (sg z))) H' := fun H' x => by
        have := q H' x
        rw [decide_eq_true ⟨by omega, by omega⟩, Bool.true_and] at this
        exact this
      refine ⟨_, rfl, z, rfl, ha, ?_⟩
      refine comp_str (fun D i ys H' => (∀ b o, H b = some o → H' b = some o) ∧ H' D = some (.lst ys) ∧ ys = ((sg z).take i).map fun c => V.bl (decide (48 ≤ c ∧ c ≤ 57))) (fun D hD => ⟨fun b o e => by rw [upd_ne (ne_of_none e hD)]; exact e, upd_same, rfl⟩) ?_ ?_
      · rintro D i c ys H1 Qb hD hc ⟨x1, hD1, rfl⟩ hQ
        have hc : (sg z)[i]? = some c := by simpa using hc
        refine ⟨_, rfl, _, _, rfl, rfl, ?_⟩
        rw [fig]
        have hi : i < (sg z).length := (List.getElem?_eq_some_iff.mp hc).1
        refine hQ _ H1 hD1 (by rw [sizeLine_eq, List.length_map, List.length_take]; omega) ⟨fun b o e => by rw [upd_ne (ne_of_none e hD)]; exact x1 b o e, upd_same, ?_⟩
        rw [List.take_succ, hc]
        simp
      · rintro D ys H1 hD ⟨x1, hD1, rfl⟩
        have ez : z.cps.size = (sg z).length := by simp
        rw [ez, List.take_length] at hD1
        refine ⟨D, (sg z).map fun c => decide (48 ≤ c ∧ c ≤ 57), rfl, SqL.of (by rw [List.map_map]; exact hD1), ?_⟩
        have e : ((sg z).map fun c => decide (48 ≤ c ∧ c ≤ 57)).all id = dg (sg z) := by
          unfold dg
          rw [List.all_map]
          rfl
        rw [e]
        exact q H1 x1
    · have d2 : ¬ ((z.length : Nat) : Int) ≤ 9 := of_decide_eq_false (Bool.eq_false_iff.mpr c2)
      exact no (by rw [← hl]; omega)
  · have d1 : ¬ (0 : Int) < (z.length : Nat) := of_decide_eq_false (Bool.eq_false_iff.mpr c1)
    exact ⟨_, rfl, iteF (no (by rw [← hl]; omega))⟩
end
end My
namespace My
open PySem L2
section
open Tx PySem.NumText
variable {P : Program} {w : World} {K : PySem.W.Frag} {mg : Str → Option Value} {base : Heap} {C : Addr}
def BrOk (P : Program) (w : World) (K : PySem.W.Frag) (mg : Str → Option Value) (base : Heap) (C : Addr) : Prop := mg "BadRow" = some (.ref C) ∧ ∃ fi fd, XInit K C fi ∧ Binds K fd ["self", "row"] [] ∧ FnOk P w K mg base CX0 1 fi fd ["self", "row"] (spXI C)
def Refd (C : Addr) (pl : Int) (H : Hp) (E : XK) : Prop := ∀ H' d od, (∀ b o, H b = some o → H' b = some o) → H' d = some (.frz od (.own 0)) → RowO "row" (.int pl) od → E (.ref C) (some d) H'
theorem Refd.up {C : Addr} {pl : Int} {H H1 : Hp} {E : XK} (r : Refd C pl H E) (x : ∀ b o, H b = some o → H1 b = some o) : Refd C pl H1 E := fun H' d od k => r H' d od fun b o e => k b o (x b o e)
theorem ps_bad {X : Cx} {E : XK} {e : Expr} {te : TE} {np cpos pos : Pos} (hx : RaisesR X E) (hh : X.A.handled = none) (B : BrOk X.prog X.w X.K X.mg X.base C) (hr : Room 2 X.A) (hg : Gl X "BadRow") (ha : PE X e te) (he : starEach [e] X.env = (false, eval e X.env) :: starEach [] X.env := by rfl) :
    PS X (.Raise (some (.Call (.Name "BadRow" np) [e] [] cpos)) none pos) (tRaiseR X.s₀.heap C (spXI C) E (tCons te tNil)) := by
  obtain ⟨hm, fi, fd, T, hb, F⟩ := B
  exact ps_raiseR hx hh T F hr hb hg hm (pa_cons ha pa_nil (hs := he)) (by decide) he rfl
theorem bad_rd {h0 : Heap} {E : XK} {i : Nat} {D : Ends} {σ : St} {H : Hp} {pl : Int} (hs : σ[i]? = some (some (.int pl))) (hp : pl.natAbs.log2 < 1920) (r : Refd C pl H E) : tRaiseR h0 C (spXI C) E (tCons (tVar i) tNil) D σ H := by
  refine ⟨_, hs, (by show 1 ≤ 1000; decide), fun e n0 n1 => ⟨e, pl, rfl, hp, upd_same, fun d od nd ro => ⟨rfl, e, d, rfl, n1, ?_, ?_⟩⟩⟩
  · have ne : e ≠ d := by rintro rfl; rw [upd_same] at nd; cases nd
    rw [upd_ne ne]; exact upd_same
  · have ne : d ≠ e := by rintro rfl; rw [upd_same] at nd; cases nd
    rw [upd_ne ne] at nd
    refine r _ d od (fun b o z => ?_) (by rw [drp_ne ne]; exact upd_same) ro
    rw [drp_ne (ne_of_none z n0), upd_ne (ne_of_none z nd), upd_ne (ne_of_none z n0), upd_ne (ne_of_none z n0)]; exact z
def spRdK (C : Addr) : Sp := fun vs H Q E => ∃ (z : Str) (D : Nat) (pl : Int), vs = [.str z, .int (D : Int), .int pl] ∧ z.length ≤ 1000 ∧ z.cps.all (· < 128) = true ∧ pl.natAbs.log2 < 1920 ∧
  match keyR (sg z) D with
  | some k => ∀ H', (∀ b o, H b = some o → H' b = some o) → Q (.int (k : Int)) H'
  | none => Refd C pl H E
theorem scRdK : FnScope ["word", "depth", "place", "key"] ["word", "depth", "place"] (defScope sReadKey) := ⟨rfl, rfl, rfl, by decide +kernel, rfl, by decide +kernel, by decide +kernel⟩
theorem ok_readkey (F : FunAt K mg "read_key" sReadKey) (Fk : FnP P w K mg base 1 "is_key" ["word"] spIsKey) (Fi : FnP P w K mg base 1 "in_depth" ["key", "depth"] spInD) (B : BrOk P w K mg base C) (mi : mg "int" = none) : FnR P w K mg base 3 "read_key" ["word", "depth", "place"] (spRdK C) := by
  refine F.okR scRdK (fun _ _ _ _ _ _ us hl => match us, hl with | [_, _, _], _ => rfl) (fun vs H Q E h => ?_) (fun f0 cdv A outer s H vs Q E hr h => ?_)
  · obtain ⟨z, D, pl, rfl, _⟩ := h; rfl
  obtain ⟨z, D, pl, rfl, hz, ha, hp, q⟩ := h
  have nd := scRdK.nd
  refine ⟨_, pss_cons (ps_if (pt_not (pt_val (pe_callN Fk (hr.mono (by omega)) rfl (pa_cons (pv 0) pa_nil)))) (pss_one (ps_bad raisesR_cx hr.hd B hr rfl (pv 2))) pss_nil) <|
    pss_cons (ps_set (i := 3) nd rfl (Or.inl rfl) (pe_callTy call_int_text rfl mi PyProof.Rows.boot_int (pa_cons (pv 0) pa_nil))) <|
    pss_cons (ps_if (pt_not (pt_val (pe_callN Fi (hr.mono (by omega)) rfl (pa_cons (pv 3) (pa_cons (pv 1) pa_nil))))) (pss_one (ps_bad raisesR_cx hr.hd B hr rfl (pv 2))) pss_nil) <|
    pss_one (ps_ret (pv 3)), ?_⟩
  refine ⟨_, rfl, z, rfl, hz, ha, fun H1 x1 => ⟨_, rfl, ?_⟩⟩
  unfold keyR at q
  cases hb : (decide (0 < (sg z).length ∧ (sg z).length ≤ 9) && dg (sg z)) with
  | false =>
    rw [if_neg (fun c => by rw [decide_eq_true ⟨c.1, c.2.1⟩, c.2.2.1] at hb; cases hb)] at q
    exact iteT (bad_rd rfl hp (Refd.up q x1))
  | true =>
    refine iteF ?_
    rw [Bool.and_eq_true] at hb
    have c1 := of_decide_eq_true hb.1
    have c2 := dg_iff.mp hb.2
    have rd := PySem.intText_digits (x := z) c2 (fun e => by have := c1.1; rw [show sg z = [] from e] at this; simp at this) (by omega)
    refine ⟨_, rfl, z, _, rfl, rd, by rw [sg_len]; omega, ?_⟩
    refine ⟨_, rfl, _, rfl, _, D, rfl, _, rfl, ?_⟩
    by_cases c3 : digitsVal (sg z) < 2 ^ D
    · rw [if_pos ⟨c1.1, c1.2, hb.2, c3⟩] at q
      have c4 : (0 : Int) ≤ ((digitsVal z.cps.toList : Nat) : Int) ∧ ((digitsVal z.cps.toList : Nat) : Int) < 2 ^ D := ⟨by omega, by exact_mod_cast c3⟩
      rw [decide_eq_true c4]
      exact iteF ⟨_, rfl, q H1 x1⟩
    · rw [if_neg (fun z => c3 z.2.2.2)] at q
      have c4 : ¬ ((0 : Int) ≤ ((digitsVal z.cps.toList : Nat) : Int) ∧ ((digitsVal z.cps.toList : Nat) : Int) < 2 ^ D) := fun y => c3 (by exact_mod_cast y.2)
      rw [decide_eq_false c4]
      exact iteT (bad_rd rfl hp (Refd.up q x1))
end
section
open Tx PySem.NumText
variable {P : Program} {w : World} {K : PySem.W.Frag} {mg : Str → Option Value} {base : Heap} {C : Addr}
def spRdA (C : Addr) : Sp := fun vs H Q E => ∃ (z : Str) (D : Nat) (pl : Int), vs = [.str z, .int (D : Int), .int pl] ∧ z.length ≤ 1000 ∧ z.cps.all (· < 128) = true ∧ pl.natAbs.log2 < 1920 ∧
  match readR z D with
  | none => Refd C pl H E
  | some none => ∀ H', (∀ b o, H b = some o → H' b = some o) → Q .non H'
  | some (some (.put k v)) => ∀ H' p, (∀ b o, H b = some o → H' b = some o) → H' p = some (.tup [.str "put", .int (k : Int), .str v]) → Q (.ref p) H'
  | some (some (.cut k)) => ∀ H' p, (∀ b o, H b = some o → H' b = some o) → H' p = some (.tup [.str "cut", .int (k : Int)]) → Q (.ref p) H'
theorem scRdA : FnScope ["row", "depth", "place", "bare", "parts"] ["row", "depth", "place"] (defScope sReadAt) := ⟨rfl, rfl, rfl, by decide +kernel, rfl, by decide +kernel, by decide +kernel⟩
theorem ok_readat (F : FunAt K mg "read_at" sReadAt) (Fk : FnR P w K mg base 3 "read_key" ["word", "depth", "place"] (spRdK C)) (B : BrOk P w K mg base C) (ml : mg "len" = none) : FnR P w K mg base 4 "read_at" ["row", "depth", "place"] (spRdA C) := by
  refine F.okR scRdA (fun _ _ _ _ _ _ us hl => match us, hl with | [_, _, _], _ => rfl) (fun vs H Q E h => ?_) (fun f0 cdv A outer s H vs Q E hr h => ?_)
  · obtain ⟨z, D, pl, rfl, _⟩ := h; rfl
  obtain ⟨z, D, pl, rfl, hz, ha, hp, q⟩ := h
  have nd := scRdA.nd
  refine ⟨_, pss_cons (ps_set (i := 3) nd rfl (Or.inl rfl) (pe_bm PySem.F.plainAttrs_str PySem.F.slot_str_lstrip PySem.F.type_str_lstrip mt_lstripC (pv 0) (pa_cons pe_str pa_nil))) <|
    pss_cons (ps_if (PW.pt (pw_or (pt_cmpR op_eq (pv 3) pe_str (nomark _)) (pw_or1 (pt_val (pe_bm PySem.F.plainAttrs_str PySem.F.slot_str_startswith PySem.F.type_str_startswith mt_starts (pv 3) (pa_cons pe_str pa_nil)))))) (pss_one (ps_ret pe_non)) pss_nil) <|
    pss_cons (ps_if (pt_val (pe_bm PySem.F.plainAttrs_str PySem.F.slot_str_startswith PySem.F.type_str_startswith mt_starts (pv 3) (pa_cons pe_str pa_nil)))
      (pss_cons (ps_set (i := 4) nd rfl (Or.inl rfl) (pe_bm PySem.F.plainAttrs_str PySem.F.slot_str_partition PySem.F.type_str_partition mt_partition (pe_slice sl_str (pv 3) (po_some (pe_callB call_len_str rfl ml PySem.boot_len (pa_cons pe_str pa_nil))) po_none) (pa_cons pe_str pa_nil))) <|
       pss_cons (ps_if (pt_cmpR op_eq (pe_ix ix_tup (pv 4) pe_int (fun _ _ => rfl)) pe_str (nomark _)) (pss_one (ps_bad raisesR_cx hr.hd B (hr.mono (by omega)) rfl (pv 2))) pss_nil) <|
       pss_one (ps_ret (pe_tup (pa_cons pe_str (pa_cons (pe_callR passesR_cx Fk hr rfl (pa_cons (pe_ix ix_tup (pv 4) pe_int (fun _ _ => rfl)) (pa_cons (pv 1) (pa_cons (pv 2) pa_nil)))) (pa_cons (pe_ix ix_tup (pv 4) pe_int (fun _ _ => rfl)) pa_nil)))))) pss_nil) <|
    pss_cons (ps_if (pt_val (pe_bm PySem.F.plainAttrs_str PySem.F.slot_str_startswith PySem.F.type_str_startswith mt_starts (pv 3) (pa_cons pe_str pa_nil)))
      (pss_one (ps_ret (pe_tup (pa_cons pe_str (pa_cons (pe_callR passesR_cx Fk hr rfl (pa_cons (pe_bm PySem.F.plainAttrs_str PySem.F.slot_str_rstrip PySem.F.type_str_rstrip mt_rstripC (pe_slice sl_str (pv 3) (po_some (pe_callB call_len_str rfl ml PySem.boot_len (pa_cons pe_str pa_nil))) po_none) (pa_cons pe_str pa_nil)) (pa_cons (pv 1) (pa_cons (pv 2) pa_nil)))) pa_nil))))) pss_nil) <|
    pss_one (ps_bad raisesR_cx hr.hd B (hr.mono (by omega)) rfl (pv 2)), ?_⟩
  refine ⟨_, rfl, rfl, z, " ", rfl, rfl, by rw [sizeLine_eq]; omega, ?_⟩
  have hb : sg (Txt.lstripChars z " ") = (sg z).dropWhile (· == 32) := lstrip_sg z
  unfold readR at q
  rw [← hb] at q
  have sub : (sg (Txt.lstripChars z " ")).Sublist (sg z) := by rw [hb]; exact List.dropWhile_sublist _
  have lb : (Txt.lstripChars z " ").length ≤ 1000 := by rw [sg_len]; have := sub.length_le; rw [← sg_len z] at this; omega
  have az : ∀ c ∈ sg z, c < 128 := fun c hc => by
    have := Array.all_eq_true_iff_forall_mem.mp ha c (by simpa using hc)
    simpa using this
  have ab : ∀ c ∈ sg (Txt.lstripChars z " "), c < 128 := fun c hc => az c (sub.subset hc)
  clear hb sub
  generalize Txt.lstripChars z " " = b at q lb ab ⊢
  have asc : ∀ y : Str, (∀ c ∈ sg y, c ∈ sg b) → y.cps.all (· < 128) = true := fun y hy => Array.all_eq_true_iff_forall_mem.mpr fun c hc => by
    have := ab c (hy c (by simpa using hc))
    simpa using this
  unfold readB at q
  refine ⟨_, rfl, rfl, _, rfl, ?_⟩
  refine ite2 (fun c => ?_) (fun c => ?_)
  · have c' : V.str b = V.str "" := of_decide_eq_true c
    have c2 : b = "" := by injection c'
    rw [if_pos (Or.inl (by rw [c2]; rfl))] at q
    exact iteT (q H fun _ _ e => e)
  have nb : ¬ sg b = [] := fun e => c (decide_eq_true (by rw [show b = "" from sg_inj e]))
  refine ⟨_, rfl, rfl, b, "#", rfl, rfl, _, rfl, ?_⟩
  rw [starts_sg, show sg "#" = [35] by decide +kernel]
  cases h35 : List.isPrefixOf [35] (sg b) with
  | true =>
    rw [if_pos (Or.inr h35)] at q
    exact iteT (q H fun _ _ e => e)
  | false =>
  refine iteF ?_
  rw [if_neg (fun y => y.elim nb (fun y => by rw [h35] at y; cases y))] at q
  refine ⟨_, rfl, rfl, b, "put ", rfl, rfl, _, rfl, ?_⟩
  rw [starts_sg, put_sg]
  have l4 : ("put " : Str).length = 4 := by decide +kernel
  have l4' : ("cut " : Str).length = 4 := by decide +kernel
  cases hput : putL.isPrefixOf (sg b) with
  | true =>
    rw [if_pos hput] at q
    refine iteT ?_
    have hr4 : sg (Txt.slice b (some ((("put " : Str).length : Nat) : Int)) none) = (sg b).drop 4 := by rw [l4]; exact slice_sg b 4
    have ls := Txt.slice_le b (some ((("put " : Str).length : Nat) : Int)) none
    refine ⟨_, rfl, "put ", rfl, by decide, _, rfl, b, rfl, by rw [sizeLine_eq]; omega, rfl, _, " ", rfl, rfl, by decide, by rw [sizeLine_eq]; omega, fun p np => ?_⟩
    have x1 : ∀ v b' o, H b' = some o → (upd H p v) b' = some o := fun v b' o e => by rw [upd_ne (ne_of_none e np)]; exact e
    refine ⟨_, rfl, p, _, _, _, rfl, rfl, .inl (.inl upd_same), atI_nat (j := 1) rfl, rfl, _, rfl, ?_⟩
    by_cases c32 : 32 ∈ (sg b).drop 4
    · rw [if_pos c32] at q
      have cut : (sg b).drop 4 = ((sg b).drop 4).takeWhile (· != 32) ++ 32 :: (((sg b).drop 4).dropWhile (· != 32)).drop 1 ∧ 32 ∉ ((sg b).drop 4).takeWhile (· != 32) := by
        generalize (sg b).drop 4 = l at c32
        obtain ⟨a, r, rfl, na⟩ : ∃ a r, l = a ++ 32 :: r ∧ 32 ∉ a := by
          obtain ⟨a, r, e, n⟩ := List.append_of_mem c32 |> fun _ => List.eq_append_cons_of_mem c32
          exact ⟨a, r, e, n⟩
        obtain ⟨t1, t2⟩ := tw_no (b := r) na
        rw [t1, t2]
        exact ⟨rfl, na⟩
      obtain ⟨p1, p2, p3⟩ := part_at (hr4.trans cut.1) cut.2
      rw [decide_eq_false (fun y => by rw [p2] at y; injection y with y; exact absurd y (by decide +kernel))]
      refine iteF ?_
      refine ⟨_, rfl, p, _, _, _, rfl, rfl, .inl (.inl upd_same), atI_nat (j := 0) rfl, _, rfl, _, rfl, _, D, pl, rfl, ?_, asc _ (fun c' hc' => ?_), hp, ?_⟩
      · rw [sg_len, p1]
        have := (List.takeWhile_sublist (p := (· != 32)) (l := (sg b).drop 4)).length_le
        rw [List.length_drop, ← sg_len] at this
        omega
      · rw [p1] at hc'
        exact List.mem_of_mem_drop ((List.takeWhile_sublist _).subset hc')
      · rw [p1]
        cases hk : keyR (((sg b).drop 4).takeWhile (· != 32)) D with
        | none => rw [hk] at q; exact Refd.up q (x1 _)
        | some k =>
          rw [hk] at q
          intro H2 x2
          refine ⟨_, rfl, p, _, _, _, rfl, rfl, .inl (.inl (x2 _ _ upd_same)), atI_nat (j := 2) rfl, by show 3 ≤ sizeLine; decide, fun p3' np3 => ?_⟩
          have ev : (Txt.partition (Txt.slice b (some ((("put " : Str).length : Nat) : Int)) none) " ").2.2 = ⟨((((sg b).drop 4).dropWhile (· != 32)).drop 1).toArray⟩ := sg_inj (by rw [p3])
          rw [ev]
          exact q _ p3' (fun b' o e => by rw [upd_ne (ne_of_none (x2 _ _ (x1 _ b' o e)) np3)]; exact x2 _ _ (x1 _ b' o e)) upd_same
    · rw [if_neg c32] at q
      rw [part_no (by rw [hr4]; exact c32)]
      exact iteT (bad_rd (D := { nx := fun _ _ => True, rt := fun _ _ => True }) rfl hp (Refd.up q (x1 _)))
  | false =>
  refine iteF ?_
  rw [if_neg (by rw [hput]; simp)] at q
  refine ⟨_, rfl, rfl, b, "cut ", rfl, rfl, _, rfl, ?_⟩
  rw [starts_sg, cut_sg]
  cases hcut : cutL.isPrefixOf (sg b) with
  | true =>
    rw [if_pos hcut] at q
    refine iteT ?_
    have hr4 : sg (Txt.slice b (some ((("cut " : Str).length : Nat) : Int)) none) = (sg b).drop 4 := by rw [l4']; exact slice_sg b 4
    have ls := Txt.slice_le b (some ((("cut " : Str).length : Nat) : Int)) none
    have er : sg (Txt.rstripChars (Txt.slice b (some ((("cut " : Str).length : Nat) : Int)) none) " ") = (((sg b).drop 4).reverse.dropWhile (· == 32)).reverse := by rw [← hr4]; exact rstrip_sg _
    have sb : ∀ c' ∈ (((sg b).drop 4).reverse.dropWhile (· == 32)).reverse, c' ∈ sg b := fun c' hc' => by
      have h1 := (List.dropWhile_sublist _).subset (List.mem_reverse.mp hc')
      exact List.mem_of_mem_drop (List.mem_reverse.mp h1)
    have ll : ((((sg b).drop 4).reverse.dropWhile (· == 32)).reverse).length ≤ 1000 := by
      have h1 := (List.dropWhile_sublist (p := (· == 32)) (l := ((sg b).drop 4).reverse)).length_le
      rw [List.length_reverse, List.length_drop, ← sg_len] at h1
      rw [List.length_reverse]
      omega
    refine ⟨_, rfl, "cut ", rfl, by decide, _, rfl, b, rfl, by rw [sizeLine_eq]; omega, rfl, _, " ", rfl, rfl, by rw [sizeLine_eq]; omega, _, rfl, _, rfl, _, D, pl, rfl, ?_, asc _ (fun c' hc' => ?_), hp, ?_⟩
    · rw [sg_len, er]; exact ll
    · rw [er] at hc'; exact sb c' hc'
    · rw [er]
      cases hk : keyR (((sg b).drop 4).reverse.dropWhile (· == 32)).reverse D with
      | none => rw [hk] at q; exact q
      | some k =>
        rw [hk] at q
        intro H2 x2
        refine ⟨by show 2 ≤ sizeLine; decide, fun p np => ?_⟩
        exact q _ p (fun b' o e => by rw [upd_ne (ne_of_none (x2 _ _ e) np)]; exact x2 _ _ e) upd_same
  | false =>
    rw [if_neg (by rw [hcut]; simp)] at q
    exact iteF (bad_rd (D := { nx := fun _ _ => True, rt := fun _ _ => True }) rfl hp q)
end
end My
namespace My
open PySem L2
section
open Tx PySem.NumText
variable {P : Program} {w : World} {K : PySem.W.Frag} {mg : Str → Option Value} {base : Heap} {C cR cE cB : Addr}
theorem ok_brinitH (F : MethAt K cR "__init__" "BadRow.__init__" mBRInit) (T : XOwn K cR) (S : XSet K cR "row") (R : ClsRd K cB) (mB : mg "BookError" = some (.ref cB)) : MtH P w K mg base CX0 cR 1 "__init__" ["self", "row"] (fun _ => spXI cR) := by
  refine F.okH scXI (fun _ _ _ _ _ _ us hl => match us, hl with | [_, _], _ => rfl) (fun _ vs H Q E h => ?_) (fun f0 cdv A h0 outer s H vs Q E hA hr h => ?_)
  · obtain ⟨e, i, rfl, _⟩ := h; rfl
  obtain ⟨e, i, rfl, hi, he, q⟩ := h
  refine ⟨_, pss_cons (ps_expr (pe_xinit (pl := _) T R rfl mB (pa_cons (pv 0) (pa_cons (pe_fstr (pv 1) (by decide +kernel)) pa_nil)))) <|
    pss_one (ps_xrow S (pv 0) (pv 1) rfl), ?_⟩
  refine ⟨_, rfl, _, rfl, i, rfl, hi, fun z hz => ⟨e, z, rfl, he, ?_⟩⟩
  exact ⟨_, rfl, _, rfl, e, rfl, he, fun d od nd ro => q d od nd ro⟩
def BrOkH (P : Program) (w : World) (K : PySem.W.Frag) (mg : Str → Option Value) (base : Heap) (C : Addr) : Prop := mg "BadRow" = some (.ref C) ∧ ∃ fi fd, XInit K C fi ∧ Binds K fd ["self", "row"] [] ∧ FnOkH P w K mg base CX0 1 fi fd ["self", "row"] (fun _ => spXI C)
def spStep (C cR : Addr) : Sp := fun vs H Q E => ∃ (x d f p : Addr) (D : Nat) (kvs : List (Key × V)) (pl : Int), vs = [.ref x, .ref p, .int pl] ∧ pl.natAbs.log2 < 1920 ∧ TabAt C H x d f D kvs ∧ kvs.length < sizeLine ∧
  ((∃ (k : Int) (v : Str), H p = some (.tup [.str "put", .int k, .str v]) ∧ Of k D ∧ Q .non (upd H d (.dK (putK kvs (.inl k) (.str v))))) ∨
   (∃ k : Int, H p = some (.tup [.str "cut", .int k]) ∧ Of k D ∧ (∀ v, valV kvs (.inl k) = some v → Q .non (upd H d (.dK (dropK kvs (.inl k))))) ∧ (valV kvs (.inl k) = none → Refd cR pl H E)))
theorem scSt : FnScope ["table", "step", "place"] ["table", "step", "place"] (defScope sTakeS) := ⟨rfl, rfl, rfl, by decide +kernel, rfl, by decide +kernel, by decide +kernel⟩
theorem ok_step (F : FunAt K mg "take_step" sTakeS) (T : Txt K mg C) (N : Npl K mg cE) (B : BrOkH P w K mg base cR) (Mp : MtN P w K mg base C 3 "put" ["self", "key", "value"] (spPutN C cE)) (Mc : MtN P w K mg base C 3 "cut" ["self", "key"] (spCutN C cE)) : FnR P w K mg base 4 "take_step" ["table", "step", "place"] (spStep C cR) := by
  refine F.okR scSt (fun _ _ _ _ _ _ us hl => match us, hl with | [_, _, _], _ => rfl) (fun vs H Q E h => ?_) (fun f0 cdv A outer s H vs Q E hr h => ?_)
  · obtain ⟨x, d, f, p, D, kvs, pl, rfl, _⟩ := h; rfl
  obtain ⟨x, d, f, p, D, kvs, pl, rfl, hpl, hT, hz, q⟩ := h
  obtain ⟨⟨dx, h1⟩, h2⟩ := id hT
  obtain ⟨hmR, fi, fd, XI, hbi, FH⟩ := B
  refine ⟨_, pss_one (ps_tryS rfl ⟨rfl, rfl⟩ N.xc rfl N.hm
    (pssn_one (psn_if (pt_cmpR op_eq (pe_ix ix_tup (pv 1) pe_int (fun _ _ => rfl)) pe_str (nomark _)) (pssn_one (psn_meth Mp (pv 0) T.cl hr (pa_cons (pe_ix ix_tup (pv 1) pe_int (fun _ _ => rfl)) (pa_cons (pe_ix ix_tup (pv 1) pe_int (fun _ _ => rfl)) pa_nil)))) (pssn_one (psn_meth Mc (pv 0) T.cl hr (pa_cons (pe_ix ix_tup (pv 1) pe_int (fun _ _ => rfl)) pa_nil)))))
    raisesS_cx XI FH (hr.mono (by omega)) hbi rfl hmR (fun _ _ => pa_cons (pv 2) pa_nil)), ?_⟩
  rcases q with ⟨k, v, hp, hO, q⟩ | ⟨k, hp, hO, q1, q2⟩
  · refine ⟨_, rfl, p, _, 0, _, rfl, rfl, .inl (.inl hp), rfl, rfl, _, rfl, ?_⟩
    rw [decide_eq_true rfl]
    refine iteT ⟨_, rfl, x, dx, _, rfl, h1, rfl, _, rfl, p, _, 1, _, rfl, rfl, .inl (.inl hp), rfl, _, rfl, p, _, 2, _, rfl, rfl, .inl (.inl hp), rfl, x, d, f, D, kvs, k, .str v, rfl, hT, hz, fun _ => q, fun c => absurd hO c⟩
  · refine ⟨_, rfl, p, _, 0, _, rfl, rfl, .inl (.inl hp), rfl, rfl, _, rfl, ?_⟩
    rw [decide_eq_false (fun z => absurd (V.str.inj z) (by decide +kernel))]
    refine iteF ⟨_, rfl, x, dx, _, rfl, h1, rfl, _, rfl, p, _, 1, _, rfl, rfl, .inl (.inl hp), rfl, x, d, f, D, kvs, k, rfl, hT, fun v _ hv => q1 v hv, fun c => ⟨cE, rfl, rfl, fun e1 o1 n1 ix => ?_⟩⟩
    have hv : valV kvs (.inl k) = none := by
      rcases c with c | c
      · exact absurd hO c
      · exact c
    have k1 : ∀ b o, H b = some o → upd H e1 (.frz o1 (.own 0)) b = some o := fun b o e => by rw [upd_ne (ne_of_none e n1)]; exact e
    have r := Refd.up (q2 hv) k1
    refine ⟨_, rfl, (by show 1 ≤ 1000; decide), fun e ne0 hn => ⟨e, pl, rfl, hpl, upd_same, fun dd od nd ro => ⟨rfl, e, dd, rfl, hn, ?_, ?_, ?_, ?_⟩⟩⟩
    · rintro rfl; rw [upd_same] at ne0; cases ne0
    · have ne : e ≠ dd := by rintro rfl; rw [upd_same] at nd; cases nd
      rw [upd_ne ne]; exact upd_same
    · have ne1 : e1 ≠ e := by rintro rfl; rw [upd_same] at ne0; cases ne0
      have ne : e1 ≠ dd := by rintro rfl; rw [upd_ne ne1, upd_same] at nd; cases nd
      rw [upd_ne ne, upd_ne ne1, upd_ne ne1]; exact upd_same
    · have ne : dd ≠ e := by rintro rfl; rw [upd_same] at nd; cases nd
      rw [upd_ne ne] at nd
      refine r _ dd od (fun b o z => ?_) (by rw [drp_ne ne]; exact upd_same) ro
      rw [drp_ne (ne_of_none z ne0), upd_ne (ne_of_none z nd), upd_ne (ne_of_none z ne0), upd_ne (ne_of_none z ne0)]; exact z
def goR (D : Nat) : Nat → List Str → List (Key × V) → Sum Nat (List (Key × V))
  | _, [], kvs => .inr kvs
  | n, r :: l, kvs => match readR r D with
    | none => .inl n
    | some none => goR D (n + 1) l kvs
    | some (some (.put k v)) => goR D (n + 1) l (putK kvs (.inl (k : Int)) (.str v))
    | some (some (.cut k)) => match valV kvs (.inl (k : Int)) with
      | none => .inl n
      | some _ => goR D (n + 1) l (dropK kvs (.inl (k : Int)))
theorem readR_of {r : Str} {D : Nat} : (∀ k v, readR r D = some (some (.put k v)) → Of (k : Int) D) ∧ (∀ k, readR r D = some (some (.cut k)) → Of (k : Int) D) := by
  have key : ∀ w k, keyR w D = some k → Of (k : Int) D := fun w k h => by
    unfold keyR at h
    split at h
    · next c =>
      cases h
      refine ⟨by omega, ?_⟩
      have := c.2.2.2
      have e2 : ((2 ^ D : Nat) : Int) = (2 : Int) ^ D := by norm_cast
      rw [← e2]; omega
    · cases h
  have kk : ∀ b st, readB b D = some (some st) → match st with | .put k _ => Of (k : Int) D | .cut k => Of (k : Int) D := fun b st h => by
    unfold readB at h
    split at h
    · cases h
    · split at h
      · split at h
        · cases e : keyR ((b.drop 4).takeWhile (· != 32)) D with
          | none => rw [e] at h; cases h
          | some k => rw [e] at h; cases h; exact key _ _ e
        · cases h
      · split at h
        · cases e : keyR ((b.drop 4).reverse.dropWhile (· == 32)).reverse D with
          | none => rw [e] at h; cases h
          | some k => rw [e] at h; cases h; exact key _ _ e
        · cases h
  exact ⟨fun k v h => kk _ _ h, fun k h => kk _ _ h⟩
end
end My
namespace My
open PySem L2
section
open Tx
variable {P : Program} {w : World} {K : PySem.W.Frag} {mg : Str → Option Value} {base : Heap} {C cR cE cB : Addr}
def spChd (C cR : Addr) : Sp := fun vs H Q E => ∃ (x d f : Addr) (t : Str) (D : Nat) (kvs : List (Key × V)), vs = [.ref x, .str t, .int (D : Int)] ∧ TabAt C H x d f D kvs ∧ kvs.length ≤ 5000 ∧ t.length ≤ sizeLine ∧ (Txt.split t "\n").length ≤ 1000 ∧ (∀ r ∈ Txt.split t "\n", r.length ≤ 1000 ∧ r.cps.all (· < 128) = true) ∧
  match goR D 0 (Txt.split t "\n") kvs with
  | .inl n => Refd cR (n : Int) H E
  | .inr kvs' => ∀ y e H', TabAt C H' y e f D kvs' → (∀ b o, H b = some o → H' b = some o) → H y = none → H e = none → Q (.ref y) H'
theorem scCd : FnScope ["table", "text", "depth", "after", "place", "row", "step"] ["table", "text", "depth"] (defScope sChanged) := ⟨rfl, rfl, rfl, by decide +kernel, rfl, by decide +kernel, by decide +kernel⟩
theorem goR_at {D n : Nat} {rows : List Str} {i : Nat} {r : Str} {kvs : List (Key × V)} (h : rows[i]? = some r) : goR D n (rows.drop i) kvs = goR D n (r :: rows.drop (i + 1)) kvs := by
  have hi := (List.getElem?_eq_some_iff.mp h).1
  rw [List.drop_eq_getElem_cons hi, (List.getElem?_eq_some_iff.mp h).2]
theorem ok_changed (F : FunAt K mg "changed" sChanged) (T : Txt K mg C) (Mt : MtP P w K mg base C 3 "twin" ["self"] (spTwin C)) (Fa : FnR P w K mg base 4 "read_at" ["row", "depth", "place"] (spRdA cR)) (Fs : FnR P w K mg base 4 "take_step" ["table", "step", "place"] (spStep C cR)) (me : mg "enumerate" = none) : FnR P w K mg base 5 "changed" ["table", "text", "depth"] (spChd C cR) := by
  refine F.okR scCd (fun _ _ _ _ _ _ us hl => match us, hl with | [_, _, _], _ => rfl) (fun vs H Q E h => ?_) (fun f0 cdv A outer s H vs Q E hr h => ?_)
  · obtain ⟨x, d, f, t, D, kvs, rfl, _⟩ := h; rfl
  obtain ⟨x, d, f, t, D, kvs, rfl, hT, hkl, ht, hlen, hrow, q⟩ := h
  obtain ⟨⟨dx, h1⟩, h2⟩ := id hT
  have nd := scCd.nd
  refine ⟨_, pss_cons (ps_set (i := 3) nd rfl (Or.inl rfl) (pe_methN0 Mt (pv 0) T.cl (hr.mono (by omega)))) <|
    pss_cons (ps_for PassesOwn.leaving rfl (pi_enum rfl me (pa_cons (pe_bm PySem.F.plainAttrs_str PySem.F.slot_str_split PySem.F.type_str_split mt_split (pv 1) (pa_cons pe_str pa_nil)) pa_nil)) (pg_tup rfl (pgs_cons (pg_name (i := 4) nd rfl (Or.inl rfl)) (pgs_cons (pg_name (i := 5) nd rfl (Or.inl rfl)) pgs_nil))) <|
      pss_cons (ps_set (i := 6) nd rfl (Or.inl rfl) (pe_callR passesR_cx Fa hr rfl (pa_cons (pv 5) (pa_cons (pv 2) (pa_cons (pv 4) pa_nil))))) <|
      pss_one (ps_if (pt_cmpR op_notN (pv 6) pe_non (nomark _)) (pss_one (ps_expr (pe_callR passesR_cx Fs hr rfl (pa_cons (pv 3) (pa_cons (pv 6) (pa_cons (pv 4) pa_nil)))))) pss_nil)) <|
    pss_one (ps_ret (pv 3)), ?_⟩
  refine ⟨_, rfl, x, dx, _, rfl, h1, rfl, x, d, f, D, kvs, rfl, hT, fun y e H1 T1 k1 ny ne => ?_⟩
  dsimp only [gName]
  refine ⟨_, rfl, rfl, t, "\n", rfl, rfl, by decide +kernel, ht, by rw [sizeLine_eq]; omega, fun l nl' => ?_⟩
  generalize Txt.split t "\n" = rows at hlen hrow q ⊢
  generalize hres : goR D 0 rows kvs = res at q
  have k2 : ∀ b o, H1 b = some o → upd H1 l (.lst (rows.map V.str)) b = some o := fun b o e => by rw [upd_ne (ne_of_none e nl')]; exact e
  obtain ⟨⟨dy, y1⟩, y2⟩ := T1
  refine ⟨l, rows.map V.str, rfl, SqL.of upd_same, ?_⟩
  refine for_enum (xs := rows.map V.str) (fun i σ H' => (∀ b o, H b = some o → H' b = some o) ∧ H' l = some (.lst (rows.map V.str)) ∧ (∃ kvi, TabAt C H' y e f D kvi ∧ res = goR D i (rows.drop i) kvi ∧ kvi.length ≤ kvs.length + i) ∧ ∃ o4 o5 o6, σ = [some (.ref x), some (.str t), some (.int (D : Int)), some (.ref y), o4, o5, o6])
    ⟨fun b o e => k2 _ _ (k1 _ _ e), upd_same, ⟨kvs, ⟨⟨dy, k2 _ _ y1⟩, k2 _ _ y2⟩, hres.symm, by omega⟩, none, none, none, rfl⟩ (fun i σ H' _ h => SqL.of h.2.1) ?_ ?_
  · rintro i v p σ H2 hv np ⟨x2, hl2, ⟨kvi, T2, hg, hkv⟩, o4, o5, o6, rfl⟩
    obtain ⟨r, er, rfl⟩ : ∃ r, rows[i]? = some r ∧ v = .str r := by
      rw [List.getElem?_map] at hv
      cases e : rows[i]? with
      | none => rw [e] at hv; cases hv
      | some r => rw [e] at hv; exact ⟨r, rfl, by simpa using hv.symm⟩
    have hi : i < rows.length := (List.getElem?_eq_some_iff.mp er).1
    have mem := List.mem_of_getElem? er
    rw [goR_at er] at hg
    have k3 : ∀ b o, H2 b = some o → upd H2 p (.tup [.int (i : Nat), .str r]) b = some o := fun b o e => by rw [upd_ne (ne_of_none e np)]; exact e
    have sm : ((i : Nat) : Int).natAbs.log2 < 1920 := by
      have : ((i : Nat) : Int).natAbs = i := rfl
      rw [this]
      exact Nat.lt_of_le_of_lt (Nat.log2_le_self i) (by omega)
    refine ⟨p, _, rfl, .inl (.inl upd_same), rfl, _, _, rfl, _, _, rfl, rfl, ?_⟩
    refine ⟨_, rfl, _, rfl, _, rfl, r, D, (i : Int), rfl, (hrow r mem).1, (hrow r mem).2, sm, ?_⟩
    unfold goR at hg
    obtain ⟨⟨dy2, t1⟩, t2⟩ := T2
    have ty : ∀ {H' : Hp}, (∀ b o, H2 b = some o → H' b = some o) → TabAt C H' y e f D kvi := fun k => ⟨⟨dy2, k _ _ t1⟩, k _ _ t2⟩
    have nye : y ≠ e := by rintro rfl; rw [t1] at t2; cases t2
    have nle : l ≠ e := by rintro rfl; rw [t2] at hl2; cases hl2
    -- the state behind a change
    have nxt : ∀ (H3 : Hp) (kv : List (Key × V)) (o6 : Option V), (∀ b o, H2 b = some o → H3 b = some o) → kv.length ≤ kvs.length + (i + 1) → res = goR D (i + 1) (rows.drop (i + 1)) kv →
        (∀ b o, H b = some o → upd H3 e (.dK kv) b = some o) ∧ upd H3 e (.dK kv) l = some (.lst (rows.map V.str)) ∧ (∃ kvi, TabAt C (upd H3 e (.dK kv)) y e f D kvi ∧ res = goR D (i + 1) (rows.drop (i + 1)) kvi ∧ kvi.length ≤ kvs.length + (i + 1)) ∧ ∃ o4' o5' o6', [some (.ref x), some (.str t), some (.int (D : Int)), some (.ref y), some (.int (i : Nat)), some (.str r), o6] = [some (.ref x), some (.str t), some (.int (D : Int)), some (.ref y), o4', o5', o6'] := fun H3 kv o6 k hl hg => by
      refine ⟨fun b o z => ?_, ?_, ⟨kv, ⟨⟨dy2, ?_⟩, upd_same⟩, hg, hl⟩, _, _, _, rfl⟩
      · rw [upd_ne (ne_of_none z ne)]; exact k _ _ (x2 _ _ z)
      · rw [upd_ne nle]; exact k _ _ hl2
      · rw [upd_ne nye]; exact k _ _ t1
    have of := readR_of (r := r) (D := D)
    cases hr2 : readR r D with
    | none =>
      rw [hr2] at hg
      rw [hg] at q
      exact Refd.up q fun b o e => k3 b o (x2 b o e)
    | some o =>
      rw [hr2] at hg of
      cases o with
      | none =>
        intro H3 x3
        refine ⟨_, rfl, rfl, _, rfl, ?_⟩
        rw [decide_eq_true rfl]
        have kk : ∀ b o, H2 b = some o → H3 b = some o := fun b o e => x3 _ _ (k3 _ _ e)
        exact iteF ⟨fun b o e => kk _ _ (x2 b o e), kk _ _ hl2, ⟨kvi, ty kk, hg, by omega⟩, _, _, _, rfl⟩
      | some st =>
        cases st with
        | put a v2 =>
          intro H3 p3 x3 h3
          have kk : ∀ b o, H2 b = some o → H3 b = some o := fun b o e => x3 _ _ (k3 _ _ e)
          refine ⟨_, rfl, rfl, _, rfl, ?_⟩
          rw [decide_eq_false (fun h => nomatch h)]
          refine iteT ⟨_, rfl, _, rfl, _, rfl, y, e, f, p3, D, kvi, (i : Int), rfl, sm, ty kk, by rw [sizeLine_eq]; omega, .inl ⟨a, v2, h3, of.1 a v2 rfl, ?_⟩⟩
          exact nxt H3 _ _ kk (by have := length_putK kvi (.inl (a : Int) : Key) (V.str v2); omega) hg
        | cut a =>
          dsimp only at hg
          intro H3 p3 x3 h3
          have kk : ∀ b o, H2 b = some o → H3 b = some o := fun b o e => x3 _ _ (k3 _ _ e)
          refine ⟨_, rfl, rfl, _, rfl, ?_⟩
          rw [decide_eq_false (fun h => nomatch h)]
          refine iteT ⟨_, rfl, _, rfl, _, rfl, y, e, f, p3, D, kvi, (i : Int), rfl, sm, ty kk, by rw [sizeLine_eq]; omega, .inr ⟨a, h3, of.2 a rfl, fun v hv => ?_, fun hv => ?_⟩⟩
          · rw [hv] at hg
            exact nxt H3 _ _ kk (by have := dropK_le kvi (.inl (a : Int) : Key); omega) hg
          · rw [hv] at hg
            rw [hg] at q
            exact Refd.up q fun b o e => kk _ _ (x2 b o e)
  · rintro σ H2 ⟨x2, hl2, ⟨kvi, T2, hg, hkv⟩, o4, o5, o6, rfl⟩
    rw [List.length_map, List.drop_length] at hg
    unfold goR at hg
    rw [hg] at q
    exact ⟨_, rfl, q y e H2 T2 x2 ny ne⟩
end
end My
namespace My
open PySem L2
section
open Tx PySem.NumText
variable {P : Program} {w : World} {K : PySem.W.Frag} {mg : Str → Option Value} {base : Heap} {C cR : Addr}
theorem join_in {ys : List Str} (h : ∀ y ∈ ys, Sg y) : ∀ c ∈ sg (Txt.join "" ys), 32 ≤ c ∧ c ≤ 126 := by
  have e0 : ("" : Str) = ⟨#[]⟩ := by decide +kernel
  have key : ∀ {ys : List Str}, (∀ y ∈ ys, Sg y) → ∀ c ∈ sg (Str.join ⟨#[]⟩ ys), 32 ≤ c ∧ c ≤ 126 := by
    intro ys
    induction ys with
    | nil => intro _ c hc; exact absurd hc (by show c ∉ (#[] : Array Nat).toList; simp)
    | cons y r ih =>
      intro h c hc
      rw [PyProof.Rows.join_nil_cons] at hc
      have hc : c ∈ sg (y ++ Str.join ⟨#[]⟩ r) := hc
      rw [sg_app] at hc
      rcases List.mem_append.mp hc with z | z
      · exact (h y List.mem_cons_self).2 c z
      · exact ih (fun y hy => h y (List.mem_cons_of_mem _ hy)) c z
  intro c hc
  have e : Txt.join "" ys = Str.join ⟨#[]⟩ ys := by
    show Builtin.Str.glued "" ys = _
    rw [StrLaws.glued_eq_join, e0]
  rw [e] at hc
  exact key h c hc
theorem len_join {us : List Str} (h : ∀ y ∈ us, Sg y) : (Txt.join "" us).length = us.length := PySem.W.KT.join_ones us fun a ha => (h a ha).1
abbrev Vis126 (z : Str) : Prop := ∀ c ∈ sg z, 32 ≤ c ∧ c ≤ 126
theorem v126_app {a b : Str} (ha : Vis126 a) (hb : Vis126 b) : Vis126 (a ++ b) := fun c hc => by
  rw [sg_app] at hc
  exact (List.mem_append.mp hc).elim (ha c) (hb c)
abbrev dgs (n : Nat) : List Nat := (Nat.toDigits 10 n).map Char.toNat
theorem dgs_len {n : Nat} (h : n < 100000) : (dgs n).length ≤ 5 := by
  rw [List.length_map]
  exact (Nat.length_toDigits_le_iff (by decide) (by decide)).mpr h
theorem rep0 {n : Int} (h0 : 0 ≤ n) (h1 : n < 4) : sg (repS "0" n) = List.replicate n.toNat 48 := by
  obtain rfl | rfl | rfl | rfl : n = 0 ∨ n = 1 ∨ n = 2 ∨ n = 3 := by omega
  all_goals decide +kernel
def stepsOf (D : Nat) : Nat → List Str → List (Nat × Stp)
  | _, [] => []
  | n, r :: l => (match readR r D with | some (some st) => [(n, st)] | _ => []) ++ stepsOf D (n + 1) l
theorem stepsOf_snoc (D : Nat) : ∀ (n : Nat) (l : List Str) (r : Str), stepsOf D n (l ++ [r]) = stepsOf D n l ++ (match readR r D with | some (some st) => [(n + l.length, st)] | _ => [])
  | n, [], r => by simp [stepsOf]
  | n, a :: l, r => by
    show _ ++ stepsOf D (n + 1) (l ++ [r]) = _
    rw [stepsOf_snoc D (n + 1) l r]
    show _ = (_ ++ stepsOf D (n + 1) l) ++ _
    rw [List.append_assoc, show n + 1 + l.length = n + (a :: l).length by simp; omega]
def goS : List (Nat × Stp) → List (Key × V) → Sum Nat (List (Key × V))
  | [], kvs => .inr kvs
  | (n, .put k v) :: l, kvs => goS l (putK kvs (.inl (k : Int)) (.str v))
  | (n, .cut k) :: l, kvs => match valV kvs (.inl (k : Int)) with
    | none => .inl n
    | some _ => goS l (dropK kvs (.inl (k : Int)))
theorem go_steps {D : Nat} : ∀ (n : Nat) (rows : List Str) (kvs : List (Key × V)), (∀ r ∈ rows, readR r D ≠ none) → goR D n rows kvs = goS (stepsOf D n rows) kvs
  | _, [], _, _ => rfl
  | n, r :: l, kvs, h => by
    have ih := fun kvs => go_steps (n + 1) l kvs fun x hx => h x (List.mem_cons_of_mem _ hx)
    have h0 := h r List.mem_cons_self
    show (match readR r D with | none => .inl n | some none => goR D (n + 1) l kvs | some (some (.put k v)) => goR D (n + 1) l (putK kvs (.inl (k : Int)) (.str v)) | some (some (.cut k)) => match valV kvs (.inl (k : Int)) with | none => .inl n | some _ => goR D (n + 1) l (dropK kvs (.inl (k : Int)))) = goS ((match readR r D with | some (some st) => [(n, st)] | _ => []) ++ stepsOf D (n + 1) l) kvs
    cases e : readR r D with
    | none => exact absurd e h0
    | some o =>
      match o with
      | none => exact ih kvs
      | some (.put k v) => exact ih _
      | some (.cut k) =>
        show (match valV kvs (.inl (k : Int)) with | none => _ | some _ => _) = (match valV kvs (.inl (k : Int)) with | none => _ | some _ => _)
        cases valV kvs (.inl (k : Int)) with
        | none => rfl
        | some v => exact ih _
def OpAt (H : Hp) : Nat × Stp → V → Prop
  | (n, .put k v), x => ∃ p, x = .ref p ∧ H p = some (.tup [.int (n : Int), .int (k : Int), .str v])
  | (n, .cut k), x => ∃ p, x = .ref p ∧ H p = some (.tup [.int (n : Int), .int (k : Int), .non])
theorem OpAt.up {H H' : Hp} {e : Nat × Stp} {x : V} (h : OpAt H e x) (k : ∀ p xs, H p = some (.tup xs) → H' p = some (.tup xs)) : OpAt H' e x := by
  obtain ⟨n, st⟩ := e
  cases st with
  | put a v => obtain ⟨p, e1, e2⟩ := h; exact ⟨p, e1, k _ _ e2⟩
  | cut a => obtain ⟨p, e1, e2⟩ := h; exact ⟨p, e1, k _ _ e2⟩
def stK : Stp → Int
  | .put k _ => (k : Int)
  | .cut k => (k : Int)
abbrev nrK (ks : List Int) : List Int := ks ++ ks.map fun k => Builtin.bitXor k 1
def RdK (ks : List Int) (D : Nat) (r : Str) : Prop := ∃ o, readR r D = some o ∧ ∀ st, o = some st → stK st ∈ nrK ks
theorem RdK.ne {ks : List Int} {D : Nat} {r : Str} (h : RdK ks D r) : readR r D ≠ none := by
  obtain ⟨o, e, _⟩ := h
  rw [e]; exact fun z => nomatch z
def spText (K : PySem.W.Frag) : Sp := fun vs H Q _ => ∃ (c : Int) (D : Nat) (aN : Addr) (ks : List Int), vs = [.int c, .int (D : Int), .ref aN] ∧ H aN = some (.lst (ks.map V.int)) ∧ 0 < ks.length ∧ (∀ k ∈ ks, Of k D) ∧ 1 ≤ D ∧ D ≤ 16 ∧
  ∀ p l H' rows ws, H' p = some (.tup [.str (Txt.join "\n" rows), .ref l]) → H' l = some (.lst ws) → Paired (OpAt H') (stepsOf D 0 rows) ws → rows.length ≤ 3 → (∀ r ∈ rows, r.length ≤ 100 ∧ Vis126 r ∧ RdK ks D r) → (∀ b o, H b = some o → H' b = some o) → Q (.ref p) H'
theorem scTx : FnScope ["_law_cell", "_law_depth", "_law_near", "_law_rows", "_law_done", "_law_k", "_law_one", "_law_key", "_law_kind", "_law_text_here"] ["_law_cell", "_law_depth", "_law_near"] (defScope sLtext) := ⟨rfl, rfl, rfl, by decide +kernel, rfl, by decide +kernel, by decide +kernel⟩
theorem sum_100 : ∀ {ys : List Str}, (∀ y ∈ ys, y.length ≤ 100) → (ys.map (·.length)).sum ≤ 100 * ys.length
  | [], _ => by simp
  | y :: ys, h => by
    have := sum_100 fun z hz => h z (List.mem_cons_of_mem _ hz)
    have h1 := h y List.mem_cons_self
    rw [List.map_cons, List.sum_cons, List.length_cons]
    omega
theorem text_step {ks : List Int} {H H6 : Hp} {aR aD p : Addr} {D i : Nat} {rows : List Str} {ws : List V} {r : Str} {st : Stp} {tp : List V} (x6 : ∀ b o, H b = some o → H6 b = some o) (nR : H aR = none) (nD : H aD = none) (nRD : aR ≠ aD) (hR : H6 aR = some (.lst (rows.map V.str))) (hD : H6 aD = some (.lst ws)) (pr : Paired (OpAt H6) (stepsOf D 0 rows) ws)
    (rl : rows.length = i) (wl : ws.length ≤ i) (hall : ∀ r ∈ rows, r.length ≤ 100 ∧ Vis126 r ∧ RdK ks D r) (hr : r.length ≤ 100 ∧ Vis126 r) (hrd : readR r D = some (some st)) (hkk : stK st ∈ nrK ks) (np : upd H6 aR (.lst (rows.map V.str ++ [V.str r])) p = none) (ht : ∀ {H' : Hp}, H' p = some (.tup tp) → OpAt H' (i, st) (.ref p)) :
    (∀ b o, H b = some o → upd (upd (upd H6 aR (.lst (rows.map V.str ++ [V.str r]))) p (.tup tp)) aD (.lst (ws ++ [.ref p])) b = some o) ∧ (∃ rows' ws', upd (upd (upd H6 aR (.lst (rows.map V.str ++ [V.str r]))) p (.tup tp)) aD (.lst (ws ++ [.ref p])) aR = some (.lst (rows'.map V.str)) ∧ upd (upd (upd H6 aR (.lst (rows.map V.str ++ [V.str r]))) p (.tup tp)) aD (.lst (ws ++ [.ref p])) aD = some (.lst ws') ∧
      Paired (OpAt (upd (upd (upd H6 aR (.lst (rows.map V.str ++ [V.str r]))) p (.tup tp)) aD (.lst (ws ++ [.ref p])))) (stepsOf D 0 rows') ws' ∧ rows'.length = i + 1 ∧ ws'.length ≤ i + 1 ∧ ∀ r ∈ rows', r.length ≤ 100 ∧ Vis126 r ∧ RdK ks D r) := by
  have pR : aR ≠ p := by rintro rfl; rw [upd_same] at np; cases np
  have e1 : ∀ {b : Addr} {o : HO}, H6 b = some o → b ≠ aR → upd H6 aR (.lst (rows.map V.str ++ [V.str r])) b = some o := fun e n => by rw [upd_ne n]; exact e
  have pD : aD ≠ p := ne_of_none (e1 hD (Ne.symm nRD)) np
  have keep : ∀ q xs, H6 q = some (.tup xs) → upd (upd (upd H6 aR (.lst (rows.map V.str ++ [V.str r]))) p (.tup tp)) aD (.lst (ws ++ [.ref p])) q = some (.tup xs) := fun q xs e => by
    have n1 : q ≠ aR := by rintro rfl; rw [hR] at e; cases e
    have n2 : q ≠ aD := by rintro rfl; rw [hD] at e; cases e
    rw [upd_ne n2, upd_ne (ne_of_none (e1 e n1) np)]; exact e1 e n1
  refine ⟨fun b o e => ?_, rows ++ [r], ws ++ [.ref p], ?_, upd_same, ?_, by simp; omega, by simp; omega, fun y hy => ?_⟩
  · have n1 : b ≠ aR := ne_of_none e nR
    rw [upd_ne (ne_of_none e nD), upd_ne (ne_of_none (e1 (x6 _ _ e) n1) np)]; exact e1 (x6 _ _ e) n1
  · rw [upd_ne nRD, upd_ne pR, upd_same, List.map_append]; rfl
  · rw [stepsOf_snoc, hrd, rl, Nat.zero_add]
    refine pr_app (L2.Paired.imp2 (fun e x h => OpAt.up h keep) pr) (.cons (ht ?_) .nil)
    rw [upd_ne (Ne.symm pD)]; exact upd_same
  · rcases List.mem_append.mp hy with z | z
    · exact hall y z
    · rw [List.mem_singleton.mp z]; exact ⟨hr.1, hr.2, _, hrd, fun s e => by cases e; exact hkk⟩
theorem text_rem {ks : List Int} {H H6 : Hp} {aR aD : Addr} {D i : Nat} {rows : List Str} {ws : List V} {r : Str} (x6 : ∀ b o, H b = some o → H6 b = some o) (nR : H aR = none) (nRD : aR ≠ aD) (hR : H6 aR = some (.lst (rows.map V.str))) (hD : H6 aD = some (.lst ws)) (pr : Paired (OpAt H6) (stepsOf D 0 rows) ws)
    (rl : rows.length = i) (wl : ws.length ≤ i) (hall : ∀ r ∈ rows, r.length ≤ 100 ∧ Vis126 r ∧ RdK ks D r) (hr : r.length ≤ 100 ∧ Vis126 r) (hrd : readR r D = some none) :
    (∀ b o, H b = some o → upd H6 aR (.lst (rows.map V.str ++ [V.str r])) b = some o) ∧ (∃ rows' ws', upd H6 aR (.lst (rows.map V.str ++ [V.str r])) aR = some (.lst (rows'.map V.str)) ∧ upd H6 aR (.lst (rows.map V.str ++ [V.str r])) aD = some (.lst ws') ∧
      Paired (OpAt (upd H6 aR (.lst (rows.map V.str ++ [V.str r])))) (stepsOf D 0 rows') ws' ∧ rows'.length = i + 1 ∧ ws'.length ≤ i + 1 ∧ ∀ r ∈ rows', r.length ≤ 100 ∧ Vis126 r ∧ RdK ks D r) := by
  have keep : ∀ q xs, H6 q = some (.tup xs) → upd H6 aR (.lst (rows.map V.str ++ [V.str r])) q = some (.tup xs) := fun q xs e => by
    have n1 : q ≠ aR := by rintro rfl; rw [hR] at e; cases e
    rw [upd_ne n1]; exact e
  refine ⟨fun b o e => ?_, rows ++ [r], ws, ?_, ?_, ?_, by simp; omega, by omega, fun y hy => ?_⟩
  · rw [upd_ne (ne_of_none e nR)]; exact x6 _ _ e
  · rw [upd_same, List.map_append]; rfl
  · rw [upd_ne (Ne.symm nRD)]; exact hD
  · rw [stepsOf_snoc, hrd, List.append_nil]
    exact L2.Paired.imp2 (fun e x h => OpAt.up h keep) pr
  · rcases List.mem_append.mp hy with z | z
    · exact hall y z
    · rw [List.mem_singleton.mp z]; exact ⟨hr.1, hr.2, _, hrd, fun s e => nomatch e⟩
abbrev tσ (c : Int) (D : Nat) (aN aR aD : Addr) (k o e d t : Option V) : St := [some (.int c), some (.int (D : Int)), some (.ref aN), some (.ref aR), some (.ref aD), k, o, e, d, t]
theorem ok_text (F : FunAt K mg "_law_text" sLtext) (Fd : FnP P w K mg base 1 "_law_draw" ["_law_cell", "_law_k", "_law_many"] spDraw) (Fw : FnP P w K mg base 2 "_law_word" ["_law_cell"] spWord) (ml : mg "len" = none) (mr : mg "range" = none) (ms : mg "str" = none) : FnP P w K mg base 3 "_law_text" ["_law_cell", "_law_depth", "_law_near"] (spText K) := by
  refine F.ok scTx (fun _ _ _ _ _ _ us hl => match us, hl with | [_, _, _], _ => rfl) (fun vs H Q E h => ?_) (fun f0 cdv A outer s H vs Q E hr h => ?_)
  · obtain ⟨c, D, aN, ks, rfl, _⟩ := h; rfl
  obtain ⟨c, D, aN, ks, rfl, hN, hk0, hks, D1, D16, q⟩ := h
  have nd := scTx.nd
  have hr1 : Room 1 (A.deeper (PyProof.Rows.envOfC "_law_text" (defScope sLtext) s.heap.objs.size f0 cdv)) := hr.mono (by omega)
  refine ⟨_, pss_cons (ps_set (i := 3) nd rfl (Or.inl rfl) (pe_lst pa_nil)) <|
    pss_cons (ps_set (i := 4) nd rfl (Or.inl rfl) (pe_lst pa_nil)) <|
    pss_cons (ps_for PassesOwn.never rfl (pi_range1 rfl mr (pa_cons (pe_callN Fd hr1 rfl (pa_cons (pv 0) (pa_cons pe_int (pa_cons pe_int pa_nil)))) pa_nil)) (pg_name (i := 5) nd rfl (Or.inl rfl)) <|
      pss_cons (ps_set (i := 6) nd rfl (Or.inl rfl) (pe_op op_add (pv 0) (pe_op op_mul pe_int (pv 5)))) <|
      pss_cons (ps_set (i := 7) nd rfl (Or.inl rfl) (pe_op op_xor (pe_ix ix_list (pv 2) (pe_callN Fd hr1 rfl (pa_cons (pv 6) (pa_cons pe_int (pa_cons (pe_callB call_len_seq rfl ml PySem.boot_len (pa_cons (pv 2) pa_nil)) pa_nil)))) (fun _ _ => rfl)) (pe_callN Fd hr1 rfl (pa_cons (pv 6) (pa_cons pe_int (pa_cons pe_int pa_nil)))))) <|
      pss_cons (ps_set (i := 8) nd rfl (Or.inl rfl) (pe_callN Fd hr1 rfl (pa_cons (pv 6) (pa_cons pe_int (pa_cons pe_int pa_nil))))) <|
      pss_cons (ps_set (i := 9) nd rfl (Or.inl rfl) (pe_callN Fw hr rfl (pa_cons (pv 6) pa_nil))) <|
      pss_one (ps_if (pt_cmpR op_lt (pv 8) pe_int (nomark _))
        (pss_cons (ps_expr (pe_bm PySem.F.plainAttrs_list PySem.F.slot_list_append PySem.F.type_list_append mt_append (pv 3) (pa_cons (pe_op op_add_str (pe_op op_add_str (pe_op op_add_str (pe_op op_add_str pe_str (pe_op op_repStr pe_str (pe_callN Fd hr1 rfl (pa_cons (pv 6) (pa_cons pe_int (pa_cons pe_int pa_nil)))))) (pe_callTy call_str_int rfl ms PyProof.Rows.boot_str (pa_cons (pv 7) pa_nil))) pe_str) (pv 9)) pa_nil))) <|
          pss_one (ps_expr (pe_bm PySem.F.plainAttrs_list PySem.F.slot_list_append PySem.F.type_list_append mt_append (pv 4) (pa_cons (pe_tup (pa_cons (pv 5) (pa_cons (pv 7) (pa_cons (pv 9) pa_nil)))) pa_nil))))
        (pss_one (ps_if (pt_cmpR op_lt (pv 8) pe_int (nomark _))
          (pss_cons (ps_expr (pe_bm PySem.F.plainAttrs_list PySem.F.slot_list_append PySem.F.type_list_append mt_append (pv 3) (pa_cons (pe_op op_add_str pe_str (pe_callTy call_str_int rfl ms PyProof.Rows.boot_str (pa_cons (pv 7) pa_nil))) pa_nil))) <|
            pss_one (ps_expr (pe_bm PySem.F.plainAttrs_list PySem.F.slot_list_append PySem.F.type_list_append mt_append (pv 4) (pa_cons (pe_tup (pa_cons (pv 5) (pa_cons (pv 7) (pa_cons pe_non pa_nil)))) pa_nil))))
          (pss_one (ps_expr (pe_bm PySem.F.plainAttrs_list PySem.F.slot_list_append PySem.F.type_list_append mt_append (pv 3) (pa_cons (pe_op op_add_str pe_str (pv 9)) pa_nil)))))))) <|
    pss_one (ps_ret (pe_tup (pa_cons (pe_bm PySem.F.plainAttrs_str PySem.F.slot_str_join PySem.F.type_str_join mt_join pe_str (pa_cons (pv 3) pa_nil)) (pa_cons (pv 4) pa_nil)))), ?_⟩
  refine ⟨by show 0 ≤ sizeLine; decide, fun aR nR => ?_⟩
  dsimp only [gName]
  refine ⟨by show 0 ≤ sizeLine; decide, fun aD nD => ?_⟩
  dsimp only [gName]
  have nRD : aR ≠ aD := by rintro rfl; rw [upd_same] at nD; cases nD
  have nD0 : H aD = none := by rw [upd_ne (Ne.symm nRD)] at nD; exact nD
  have k0 : ∀ b o, H b = some o → upd (upd H aR (.lst [])) aD (.lst []) b = some o := fun b o e => by rw [upd_ne (ne_of_none e nD0), upd_ne (ne_of_none e nR)]; exact e
  have nNR : aN ≠ aR := ne_of_none hN nR
  have nND : aN ≠ aD := ne_of_none hN nD0
  refine ⟨_, rfl, c, 0, 4, rfl, by decide, by decide, fun v0 H1 a0 b0 x1 => ⟨v0, rfl, by omega, by omega, ?_⟩⟩
  refine for_range (n := v0.toNat) (fun i σ H' => (∀ b o, H b = some o → H' b = some o) ∧ (∃ rows ws, H' aR = some (.lst (rows.map V.str)) ∧ H' aD = some (.lst ws) ∧ Paired (OpAt H') (stepsOf D 0 rows) ws ∧ rows.length = i ∧ ws.length ≤ i ∧ ∀ r ∈ rows, r.length ≤ 100 ∧ Vis126 r ∧ RdK ks D r) ∧ ∃ o5 o6 o7 o8 o9, σ = tσ c D aN aR aD o5 o6 o7 o8 o9)
    ⟨fun b o e => x1 _ _ (k0 _ _ e), ⟨[], [], x1 _ _ (by rw [upd_ne nRD]; exact upd_same), x1 _ _ upd_same, .nil, rfl, by simp, by simp⟩, none, none, none, none, none, rfl⟩ ?_ ?_
  · rintro i σ H2 hi ⟨x2, ⟨rows, ws, hR2, hD2, pr, rl, wl, hall⟩, o5, o6, o7, o8, o9, rfl⟩
    rw [show (0 : Int) + (i : Int) = ((i : Nat) : Int) by omega]
    dsimp only [gName]
    refine ⟨_, rfl, _, rfl, _, _, rfl, rfl, .inl ⟨by decide, by decide⟩, _, _, rfl, rfl, ?_⟩
    dsimp only [gName]
    generalize c + 61 * ((i : Nat) : Int) = one
    have hN2 := x2 _ _ hN
    refine ⟨_, rfl, _, rfl, _, rfl, aN, _, rfl, .inl (SqL.of hN2), one, 1, _, rfl, by decide, by rw [List.length_map]; omega, fun v1 H3 a1 b1 x3 => ?_⟩
    rw [List.length_map] at b1
    have hv : v1.toNat < ks.length := by omega
    have ek : atI (ks.map V.int) v1 = some (.int ks[v1.toNat]) := by
      have z : atI (ks.map V.int) ((v1.toNat : Nat) : Int) = some (.int ks[v1.toNat]) := atI_nat (by rw [List.getElem?_map, List.getElem?_eq_getElem hv]; rfl)
      rw [show ((v1.toNat : Nat) : Int) = v1 by omega] at z
      exact z
    obtain ⟨r0, r1⟩ := hks _ (List.getElem_mem hv)
    refine ⟨aN, _, v1, _, rfl, rfl, SqL.of (x3 _ _ hN2), ek, _, rfl, one, 2, 2, rfl, by decide, by decide, fun v2 H4 a2 b2 x4 => ⟨_, _, rfl, rfl, ?_⟩⟩
    dsimp only [gName]
    obtain ⟨kn, ekn, hkn, hmem⟩ : ∃ kn : Nat, Builtin.bitXor ks[v1.toNat] v2 = (kn : Int) ∧ kn < 2 ^ D ∧ (kn : Int) ∈ nrK ks := by
      have e2 : ((2 ^ D : Nat) : Int) = (2 : Int) ^ D := by norm_cast
      have key : ∀ x : Int, 0 ≤ x → x < 2 ^ D → x ∈ nrK ks → ∃ kn : Nat, x = (kn : Int) ∧ kn < 2 ^ D ∧ (kn : Int) ∈ nrK ks := fun x h0 h1 hm => ⟨x.toNat, by omega, by rw [← e2] at h1; omega, by rw [show ((x.toNat : Nat) : Int) = x by omega]; exact hm⟩
      obtain rfl | rfl : v2 = 0 ∨ v2 = 1 := by omega
      · have e0 : Builtin.bitXor ks[v1.toNat] 0 = ks[v1.toNat] := by rw [PyProof.Rows.bitXor_and, PyProof.Rows.bitAnd_zero]; omega
        rw [e0]
        exact key _ r0 r1 (List.mem_append_left _ (List.getElem_mem hv))
      · obtain ⟨y0, y1⟩ := xor1 D1 r0 r1
        exact key _ y0 y1 (List.mem_append_right _ (List.mem_map.mpr ⟨_, List.getElem_mem hv, rfl⟩))
    rw [ekn]
    refine ⟨_, rfl, one, 3, 8, rfl, by decide, by decide, fun v3 H5 a3 b3 x5 => ?_⟩
    dsimp only [gName]
    refine ⟨_, rfl, one, rfl, fun us H6 hul hus x6 => ?_⟩
    dsimp only [gName]
    have wlen : (Txt.join "" us).length ≤ 5 := by rw [len_join hus]; exact hul
    have wvis : Vis126 (Txt.join "" us) := join_in hus
    generalize Txt.join "" us = wd at wlen wvis
    have k26 : ∀ b o, H2 b = some o → H6 b = some o := fun b o e => x6 _ _ (x5 _ _ (x4 _ _ (x3 _ _ e)))
    have x26 : ∀ b o, H b = some o → H6 b = some o := fun b o e => k26 _ _ (x2 _ _ e)
    have hR6 := k26 _ _ hR2
    have hD6 := k26 _ _ hD2
    have pr6 := L2.Paired.imp2 (fun e x h => OpAt.up h fun p' xs y => k26 _ _ y) pr
    have hp16 : 2 ^ D ≤ 65536 := Nat.le_trans (Nat.pow_le_pow_right (by decide) D16) (by decide)
    have dl := dgs_len (n := kn) (by omega)
    have nb : ((kn : Nat) : Int).natAbs.log2 < 1920 := by
      rw [Int.natAbs_natCast]
      rcases Nat.eq_zero_or_pos kn with h0 | h0
      · rw [h0]; decide
      · exact (Nat.log2_lt (by omega)).mpr (Nat.lt_of_lt_of_le (show kn < 65536 by omega) (Nat.le_trans (by decide : 65536 ≤ 2 ^ 16) (Nat.pow_le_pow_right (by decide) (by decide))))
    have ls : (Str.ofString (toString ((kn : Nat) : Int))).length ≤ 5 := by rw [sg_len, num_sg]; exact dl
    have vs : Vis126 (Str.ofString (toString ((kn : Nat) : Int))) := fun x hx => by
      rw [num_sg] at hx
      have := num_dig kn x hx
      omega
    have rz : (rows.map V.str).length < sizeLine := by rw [List.length_map, sizeLine_eq]; omega
    have wz : ws.length < sizeLine := by rw [sizeLine_eq]; omega
    refine ⟨_, rfl, _, _, rfl, rfl, _, rfl, ite2 (fun _ => ?_) (fun _ => ?_)⟩
    · have lp : ("put " : Str).length = 4 := by decide +kernel
      have lb : (" " : Str).length = 1 := by decide +kernel
      have sb : sg " " = [32] := by decide +kernel
      refine ⟨_, rfl, .inl ⟨rfl, _, SqL.of hR6⟩, _, rfl, one, 4, 3, rfl, by decide, by decide, fun v4 H7 a4 b4 x7 => ?_⟩
      have er := rep0 a4 (by omega)
      have lr : (repS "0" v4).length ≤ 3 := by rw [sg_len, er, List.length_replicate]; omega
      have vr : Vis126 (repS "0" v4) := fun x hx => by
        rw [er] at hx
        have := List.eq_of_mem_replicate hx
        omega
      refine ⟨_, _, rfl, rfl, a4, by omega, by decide, _, _, rfl, rfl, by rw [sizeLine_eq, lp]; omega, _, rfl, kn, rfl, nb, _, _, rfl, rfl, by rw [sizeLine_eq, strLen_append, lp]; exact Nat.le_trans (Nat.add_le_add (Nat.add_le_add_left lr _) ls) (by decide), _, _, rfl, rfl, ?_, _, rfl, _, _, rfl, rfl, ?_, aR, _, _, rfl, rfl, x7 _ _ hR6, rz, ?_⟩
      · rw [sizeLine_eq, strLen_append, strLen_append, lp, lb]; exact Nat.le_trans (Nat.add_le_add_right (Nat.add_le_add (Nat.add_le_add_left lr _) ls) _) (by decide)
      · rw [sizeLine_eq, strLen_append, strLen_append, strLen_append, lp, lb]; exact Nat.le_trans (Nat.add_le_add (Nat.add_le_add_right (Nat.add_le_add (Nat.add_le_add_left lr _) ls) _) wlen) (by decide)
      have hrow : ("put " ++ repS "0" v4 ++ Str.ofString (toString ((kn : Nat) : Int)) ++ " " ++ wd).length ≤ 100 ∧ Vis126 ("put " ++ repS "0" v4 ++ Str.ofString (toString ((kn : Nat) : Int)) ++ " " ++ wd) := by
        refine ⟨?_, v126_app (v126_app (v126_app (v126_app (by decide +kernel) vr) vs) (by decide +kernel)) wvis⟩
        rw [strLen_append, strLen_append, strLen_append, strLen_append, lp, lb]
        exact Nat.le_trans (Nat.add_le_add (Nat.add_le_add_right (Nat.add_le_add (Nat.add_le_add_left lr _) ls) _) wlen) (by decide)
      have hrd : readR ("put " ++ repS "0" v4 ++ Str.ofString (toString ((kn : Nat) : Int)) ++ " " ++ wd) D = some (some (.put kn wd)) := by
        rw [read_put (n := 0) (w := List.replicate v4.toNat 48 ++ dgs kn) (v := wd) (zeros_dig (num_dig kn)) (by rw [sg_app, sg_app, sg_app, sg_app, er, put_sg, num_sg, sb]; simp), key_num (by show v4.toNat + (dgs kn).length ≤ 9; omega), if_pos hkn]; rfl
      have pr7 := L2.Paired.imp2 (fun e x h => OpAt.up h fun p' xs y => x7 _ _ y) pr6
      have hD7 : upd H7 aR (.lst (rows.map V.str ++ [V.str ("put " ++ repS "0" v4 ++ Str.ofString (toString ((kn : Nat) : Int)) ++ " " ++ wd)])) aD = some (.lst ws) := by rw [upd_ne (Ne.symm nRD)]; exact x7 _ _ hD6
      refine ⟨_, rfl, .inl ⟨rfl, _, SqL.of hD7⟩, _, rfl, _, rfl, _, rfl, by show 3 ≤ sizeLine; decide, fun p np => ⟨aD, ws, .ref p, rfl, rfl, by rw [upd_ne (ne_of_none hD7 np)]; exact hD7, wz, ?_⟩⟩
      obtain ⟨z1, z2⟩ := text_step (H6 := H7) (tp := [.int (i : Nat), .int (kn : Nat), .str wd]) (fun b o e => x7 _ _ (x26 _ _ e)) nR nD0 nRD (x7 _ _ hR6) (x7 _ _ hD6) pr7 rl wl hall hrow hrd hmem np (fun h => ⟨p, rfl, h⟩)
      exact ⟨z1, z2, _, _, _, _, _, rfl⟩
    · refine ⟨_, rfl, _, _, rfl, rfl, _, rfl, ite2 (fun _ => ?_) (fun _ => ?_)⟩
      · have lp : (" cut " : Str).length = 5 := by decide +kernel
        have sp : sg " cut " = [32] ++ cutL := by decide +kernel
        refine ⟨_, rfl, .inl ⟨rfl, _, SqL.of hR6⟩, _, rfl, kn, rfl, nb, _, _, rfl, rfl, by rw [sizeLine_eq, lp]; exact Nat.le_trans (Nat.add_le_add_left ls _) (by decide), aR, _, _, rfl, rfl, hR6, rz, ?_⟩
        have hrow : (" cut " ++ Str.ofString (toString ((kn : Nat) : Int))).length ≤ 100 ∧ Vis126 (" cut " ++ Str.ofString (toString ((kn : Nat) : Int))) := by
          refine ⟨?_, v126_app (by decide +kernel) vs⟩
          rw [strLen_append, lp]
          exact Nat.le_trans (Nat.add_le_add_left ls _) (by decide)
        have hrd : readR (" cut " ++ Str.ofString (toString ((kn : Nat) : Int))) D = some (some (.cut kn)) := by
          rw [read_cut (n := 1) (m := 0) (w := dgs kn) (num_dig kn) (by rw [sg_app, sp, num_sg]; simp)]
          have := key_num (k := 0) (m := kn) (D := D) (by show 0 + (dgs kn).length ≤ 9; omega)
          rw [if_pos hkn] at this
          have e0 : List.replicate 0 48 ++ (Nat.toDigits 10 kn).map Char.toNat = dgs kn := rfl
          rw [e0] at this
          rw [this]; rfl
        have hD7 : upd H6 aR (.lst (rows.map V.str ++ [V.str (" cut " ++ Str.ofString (toString ((kn : Nat) : Int)))])) aD = some (.lst ws) := by rw [upd_ne (Ne.symm nRD)]; exact hD6
        refine ⟨_, rfl, .inl ⟨rfl, _, SqL.of hD7⟩, _, rfl, _, rfl, by show 3 ≤ sizeLine; decide, fun p np => ⟨aD, ws, .ref p, rfl, rfl, by rw [upd_ne (ne_of_none hD7 np)]; exact hD7, wz, ?_⟩⟩
        obtain ⟨z1, z2⟩ := text_step (H6 := H6) (tp := [.int (i : Nat), .int (kn : Nat), .non]) x26 nR nD0 nRD hR6 hD6 pr6 rl wl hall hrow hrd hmem np (fun h => ⟨p, rfl, h⟩)
        exact ⟨z1, z2, _, _, _, _, _, rfl⟩
      · have lp : ("#" : Str).length = 1 := by decide +kernel
        have sp : sg "#" = [35] := by decide +kernel
        refine ⟨_, rfl, .inl ⟨rfl, _, SqL.of hR6⟩, _, rfl, _, _, rfl, rfl, by rw [sizeLine_eq, lp]; omega, aR, _, _, rfl, rfl, hR6, rz, ?_⟩
        have hrow : ("#" ++ wd).length ≤ 100 ∧ Vis126 ("#" ++ wd) := ⟨by rw [strLen_append, lp]; omega, v126_app (by decide +kernel) wvis⟩
        have hrd : readR ("#" ++ wd) D = some none := read_remark (n := 0) (l := sg wd) (by rw [sg_app, sp]; simp)
        obtain ⟨z1, z2⟩ := text_rem x26 nR nRD hR6 hD6 pr6 rl wl hall hrow hrd
        exact ⟨z1, z2, _, _, _, _, _, rfl⟩
  · rintro σ H2 ⟨x2, ⟨rows, ws, hR2, hD2, pr, rl, wl, hall⟩, o5, o6, o7, o8, o9, rfl⟩
    have sm := sum_100 fun y hy => (hall y hy).1
    have l1 : ("\n" : Str).length = 1 := by decide +kernel
    refine ⟨rfl, _, rfl, "\n", aR, rows, rfl, rfl, SqL.of hR2, by rw [l1]; omega, _, rfl, by show 2 ≤ sizeLine; decide, fun p np => ?_⟩
    have kp : ∀ b o, H2 b = some o → upd H2 p (.tup [.str (Txt.join "\n" rows), .ref aD]) b = some o := fun b o e => by rw [upd_ne (ne_of_none e np)]; exact e
    exact q p aD _ rows ws upd_same (kp _ _ hD2) (L2.Paired.imp2 (fun e x h => OpAt.up h fun p' xs y => kp _ _ y) pr) (by omega) hall fun b o e => kp _ _ (x2 _ _ e)
end
end My
namespace My
open PySem L2
section
open Tx
variable {P : Program} {w : World} {K : PySem.W.Frag} {mg : Str → Option Value} {base : Heap} {C cR : Addr}
def spBehind : Sp := fun vs H Q _ => ∃ (hd l : Addr) (kvs : List (Key × V)) (ops : List (Nat × Stp)) (ws : List V), vs = [.ref hd, .ref l] ∧ H hd = some (.dK kvs) ∧ kvs.length ≤ 5000 ∧ H l = some (.lst ws) ∧ Paired (OpAt H) ops ws ∧ ops.length ≤ 10 ∧
  match goS ops kvs with
  | .inl n => ∀ H', (∀ b o, H b = some o → H' b = some o) → Q (.int (n : Int)) H'
  | .inr kvs' => ∀ b H', H' b = some (.dK kvs') → (∀ b o, H b = some o → H' b = some o) → H b = none → Q (.ref b) H'
theorem scBh : FnScope ["_law_held", "_law_done", "_law_behind_here", "_law_one"] ["_law_held", "_law_done"] (defScope sBehind) := ⟨rfl, rfl, rfl, by decide +kernel, rfl, by decide +kernel, by decide +kernel⟩
theorem ops_kp {H H' : Hp} {ops : List (Nat × Stp)} {ws : List V} (h : Paired (OpAt H) ops ws) (k : ∀ b o, H b = some o → H' b = some o) : Paired (OpAt H') ops ws := L2.Paired.imp2 (fun e x h => OpAt.up h fun p' xs y => k _ _ y) h
theorem ops_at {H : Hp} {ops : List (Nat × Stp)} {ws : List V} (h : Paired (OpAt H) ops ws) : ∀ {i : Nat} {v : V}, ws[i]? = some v → ∃ o, ops[i]? = some o ∧ OpAt H o v := by
  induction h with
  | nil => intro i v e; simp at e
  | cons r _ ih =>
    intro i v e
    match i, e with
    | 0, e => simp at e; subst e; exact ⟨_, rfl, r⟩
    | i + 1, e => exact ih (by simpa using e)
theorem ok_behind (F : FunAt K mg "_law_behind" sBehind) (md : mg "dict" = none) : FnP P w K mg base 1 "_law_behind" ["_law_held", "_law_done"] spBehind := by
  refine F.ok scBh (fun _ _ _ _ _ _ us hl => match us, hl with | [_, _], _ => rfl) (fun vs H Q E h => ?_) (fun f0 cdv A outer s H vs Q E hr h => ?_)
  · obtain ⟨hd, l, kvs, ops, ws, rfl, _⟩ := h; rfl
  obtain ⟨hd, l, kvs, ops, ws, rfl, hH, hz, hl, pr, ol, q⟩ := h
  have nd := scBh.nd
  have hu := hu_of hr
  refine ⟨_, pss_cons (ps_set (i := 2) nd rfl (Or.inl rfl) (pe_callTy call_dictC rfl md PyProof.Rows.boot_dict (pa_cons (pv 0) pa_nil))) <|
    pss_cons (ps_for PassesOwn.never rfl (pi_list (pv 1)) (pg_name (i := 3) nd rfl (Or.inl rfl)) <|
      pss_one (ps_if (pt_cmpR op_notN (pe_ix ix_tup (pv 3) pe_int (fun _ _ => rfl)) pe_non (nomark _)) (pss_one (ps_dput hu (pv 2) (pe_ix ix_tup (pv 3) pe_int (fun _ _ => rfl)) (pe_ix ix_tup (pv 3) pe_int (fun _ _ => rfl)) rfl))
        (pss_one (ps_if (pt_cmp (pc_din hu (pe_ix ix_tup (pv 3) pe_int (fun _ _ => rfl)) (pv 2))) (pss_one (ps_expr (pe_dpop1 (pv 2) (pe_ix ix_tup (pv 3) pe_int (fun _ _ => rfl)) ⟨rfl, rfl, rfl, rfl⟩))) (pss_one (ps_ret (pe_ix ix_tup (pv 3) pe_int (fun _ _ => rfl)))))))) <|
    pss_one (ps_ret (pv 2)), ?_⟩
  refine ⟨_, rfl, hd, kvs, rfl, hH, fun b nb => ?_⟩
  dsimp only [gName]
  have k1 : ∀ c o, H c = some o → upd H b (.dK kvs) c = some o := fun c o e => by rw [upd_ne (ne_of_none e nb)]; exact e
  generalize hres : goS ops kvs = res at q
  have plen : ws.length = ops.length := by
    clear q hres hl
    induction pr with
    | nil => rfl
    | cons _ _ ih => rw [List.length_cons, List.length_cons, ih (by simp at ol; omega)]
  refine ⟨_, rfl, l, rfl, ⟨ws, SqL.of (k1 _ _ hl)⟩, ?_⟩
  refine for_list (xs := ws) (fun i σ H' => (∀ c o, H c = some o → H' c = some o) ∧ (∃ kvi, H' b = some (.dK kvi) ∧ res = goS (ops.drop i) kvi ∧ kvi.length ≤ kvs.length + i) ∧ ∃ o3, σ = [some (.ref hd), some (.ref l), some (.ref b), o3])
    ⟨k1, ⟨kvs, upd_same, hres.symm, by omega⟩, none, rfl⟩ (fun i σ H' _ h => SqL.of (h.1 _ _ hl)) ?_ ?_
  · rintro i v σ H2 ev ⟨x2, ⟨kvi, hb, hg, hkl⟩, o3, rfl⟩
    have hi := (List.getElem?_eq_some_iff.mp ev).1
    obtain ⟨⟨n, st⟩, eo, ho⟩ := ops_at (ops_kp pr x2) ev
    have ed : ops.drop i = (n, st) :: ops.drop (i + 1) := by
      have hio := (List.getElem?_eq_some_iff.mp eo).1
      rw [List.drop_eq_getElem_cons hio, (List.getElem?_eq_some_iff.mp eo).2]
    rw [ed] at hg
    dsimp only [gName]
    cases st with
    | put k z =>
      obtain ⟨p, rfl, hp⟩ := ho
      refine ⟨_, rfl, p, _, 2, _, rfl, rfl, .inl (.inl hp), rfl, rfl, _, rfl, ?_⟩
      rw [decide_eq_false (fun h => nomatch h)]
      refine iteT ⟨_, rfl, p, _, 2, _, rfl, rfl, .inl (.inl hp), rfl, _, rfl, _, rfl, p, _, 1, _, rfl, rfl, .inl (.inl hp), rfl, b, _, rfl, DPut.k (k := .inl (k : Int)) hb (by rw [sizeLine_eq]; omega), ?_⟩
      refine ⟨fun c o e => ?_, ⟨_, upd_same, hg, by have := length_putK kvi (.inl (k : Int) : Key) (V.str z); omega⟩, _, rfl⟩
      rw [upd_ne (ne_of_none e nb)]; exact x2 _ _ e
    | cut k =>
      obtain ⟨p, rfl, hp⟩ := ho
      refine ⟨_, rfl, p, _, 2, _, rfl, rfl, .inl (.inl hp), rfl, rfl, _, rfl, ?_⟩
      rw [decide_eq_true rfl]
      refine iteF ⟨_, rfl, p, _, 1, _, rfl, rfl, .inl (.inl hp), rfl, _, rfl, b, _, rfl, DGet.k (k := .inl (k : Int)) hb, _, rfl, ?_⟩
      unfold goS at hg
      cases hv : valV kvi (.inl (k : Int)) with
      | none =>
        rw [hv] at hg
        dsimp only at hg
        rw [hg] at q
        exact iteF ⟨_, rfl, p, _, 0, _, rfl, rfl, .inl (.inl hp), rfl, q H2 x2⟩
      | some v0 =>
        rw [hv] at hg
        dsimp only at hg
        refine iteT ⟨_, rfl, b, rfl, .inl ⟨_, .inl hb⟩, _, rfl, p, _, 1, _, rfl, rfl, .inl (.inl hp), rfl, kvi, .inl (k : Int), v0, hb, rfl, hv, ?_⟩
        refine ⟨fun c o e => ?_, ⟨_, upd_same, hg, by have := dropK_le kvi (.inl (k : Int) : Key); omega⟩, _, rfl⟩
        rw [upd_ne (ne_of_none e nb)]; exact x2 _ _ e
  · rintro σ H2 ⟨x2, ⟨kvi, hb, hg, hkl⟩, o3, rfl⟩
    rw [plen, List.drop_length] at hg
    unfold goS at hg
    rw [hg] at q
    exact ⟨_, rfl, q b H2 hb x2 nb⟩
theorem bad3 {z : Str} (h : z ∈ (["put it", "cut", "none 1"] : List Str)) : (∀ D, readR z D = none) ∧ z.length ≤ 100 ∧ Vis126 z := by
  simp only [List.mem_cons, List.not_mem_nil, or_false] at h
  rcases h with rfl | rfl | rfl
  · refine ⟨fun D => ?_, by decide +kernel, by decide +kernel⟩
    have e : sg "put it" = putL ++ [105, 116] := by decide +kernel
    unfold readR
    rw [e]
    exact b_put (l := [105, 116]) (fun m => by simp at m)
  · refine ⟨fun D => ?_, by decide +kernel, by decide +kernel⟩
    have e : sg "cut" = [99, 117, 116] := by decide +kernel
    unfold readR
    rw [e]
    exact b_none (by decide) (by decide) (by decide)
  · refine ⟨fun D => ?_, by decide +kernel, by decide +kernel⟩
    have e : sg "none 1" = [110, 111, 110, 101, 32, 49] := by decide +kernel
    unfold readR
    rw [e]
    exact b_none (by decide) (by decide) (by decide)
def DueA (H : Hp) (r : Sum Nat (List (Key × V))) (v : V) : Prop := match r with
  | .inl n => v = .int (n : Int)
  | .inr kvs => ∃ b, v = .ref b ∧ H b = some (.dK kvs)
def spoil (r : Sum Nat (List (Key × V))) (at_ : Nat) : Sum Nat (List (Key × V)) := match r with
  | .inl n => if at_ ≤ n then .inl at_ else .inl n
  | .inr _ => .inl at_
def spSpoilt : Sp := fun vs H Q _ => ∃ (t : Str) (du : V) (c : Int) (r : Sum Nat (List (Key × V))), vs = [.str t, du, .int c] ∧ DueA H r du ∧ t.length ≤ sizeLine ∧ (Txt.split t "\n").length ≤ 100 ∧ (∀ x ∈ Txt.split t "\n", x.length ≤ 100) ∧
  ∀ p H' z at_, at_ ≤ (Txt.split t "\n").length → (∀ D, readR z D = none) → z.length ≤ 100 → Vis126 z →
    (∃ du', DueA H' (spoil r at_) du' ∧ H' p = some (.tup [.str (Txt.join "\n" ((Txt.split t "\n").take at_ ++ z :: (Txt.split t "\n").drop at_)), du'])) → (∀ b o, H b = some o → H' b = some o) → Q (.ref p) H'
theorem scSp : FnScope ["_law_text_here", "_law_due", "_law_cell", "_law_rows", "_law_at"] ["_law_text_here", "_law_due", "_law_cell"] (defScope sSpoilt) := ⟨rfl, rfl, rfl, by decide +kernel, rfl, by decide +kernel, by decide +kernel⟩
theorem ok_spoilt (F : FunAt K mg "_law_spoilt" sSpoilt) (Fd : FnP P w K mg base 1 "_law_draw" ["_law_cell", "_law_k", "_law_many"] spDraw) (ml : mg "len" = none) (mi : mg "isinstance" = none) (md : mg "dict" = none) (kd : PySem.W.kitOne K (.type "dict") (.type "dict") = some true) (ki : PySem.W.kitOne K (.type "int") (.type "dict") = some false) :
    FnP P w K mg base 2 "_law_spoilt" ["_law_text_here", "_law_due", "_law_cell"] spSpoilt := by
  refine F.ok scSp (fun _ _ _ _ _ _ us hl => match us, hl with | [_, _, _], _ => rfl) (fun vs H Q E h => ?_) (fun f0 cdv A outer s H vs Q E hr h => ?_)
  · obtain ⟨t, du, c, r, rfl, _⟩ := h; rfl
  obtain ⟨t, du, c, r, rfl, hdu, ht, hlen, hrow, q⟩ := h
  have nd := scSp.nd
  refine ⟨_, pss_cons (ps_set (i := 3) nd rfl (Or.inl rfl) (pe_bm PySem.F.plainAttrs_str PySem.F.slot_str_split PySem.F.type_str_split mt_split (pv 0) (pa_cons pe_str pa_nil))) <|
    pss_cons (ps_set (i := 4) nd rfl (Or.inl rfl) (pe_callN Fd hr rfl (pa_cons (pv 2) (pa_cons pe_int (pa_cons (pe_op op_add (pe_callB call_len_seq rfl ml PySem.boot_len (pa_cons (pv 3) pa_nil)) pe_int) pa_nil))))) <|
    pss_cons (ps_expr (pe_bm PySem.F.plainAttrs_list PySem.F.slot_list_insert PySem.F.type_list_insert mt_insertAt (pv 3) (pa_cons (pv 4) (pa_cons (pe_ix ix_tup (pe_tup (pa_cons pe_str (pa_cons pe_str (pa_cons pe_str pa_nil)))) (pe_callN Fd hr rfl (pa_cons (pv 2) (pa_cons pe_int (pa_cons pe_int pa_nil)))) (fun _ _ => rfl)) pa_nil)))) <|
    pss_cons (ps_if (PW.pt (pw_or (pt_val (pe_callB call_isinst rfl mi PyProof.Rows.boot_isinstance (pa_cons (pv 1) (pa_cons (pe_ty rfl md PyProof.Rows.boot_dict) pa_nil)))) (pw_or1 (pt_cmpR op_ge (pv 1) (pv 4) (nomark _))))) (pss_one (ps_set (i := 1) nd rfl (Or.inl rfl) (pv 4))) pss_nil) <|
    pss_one (ps_ret (pe_tup (pa_cons (pe_bm PySem.F.plainAttrs_str PySem.F.slot_str_join PySem.F.type_str_join mt_join pe_str (pa_cons (pv 3) pa_nil)) (pa_cons (pv 1) pa_nil)))), ?_⟩
  refine ⟨_, rfl, rfl, t, "\n", rfl, rfl, by decide +kernel, ht, by rw [sizeLine_eq]; omega, fun l nl' => ?_⟩
  dsimp only [gName]
  generalize Txt.split t "\n" = rows at hlen hrow q ⊢
  have k1 : ∀ b o, H b = some o → upd H l (.lst (rows.map V.str)) b = some o := fun b o e => by rw [upd_ne (ne_of_none e nl')]; exact e
  refine ⟨_, rfl, _, rfl, l, _, rfl, .inl (SqL.of upd_same), _, _, rfl, rfl, c, 6, _, rfl, by decide, by omega, fun v H1 a1 b1 x1 => ?_⟩
  dsimp only [gName]
  rw [List.length_map] at b1
  obtain ⟨at_, rfl⟩ := Int.eq_ofNat_of_zero_le a1
  have hl1 := x1 _ _ (show upd H l (.lst (rows.map V.str)) l = some (.lst (rows.map V.str)) from upd_same)
  refine ⟨_, rfl, .inl ⟨rfl, _, SqL.of hl1⟩, _, rfl, by show 3 ≤ sizeLine; decide, fun p3 np3 => ?_⟩
  have k2 : ∀ b o, H1 b = some o → upd H1 p3 (.tup [.str "put it", .str "cut", .str "none 1"]) b = some o := fun b o e => by rw [upd_ne (ne_of_none e np3)]; exact e
  refine ⟨_, rfl, c, 7, 3, rfl, by decide, by decide, fun v2 H2 a2 b2 x2 => ?_⟩
  obtain ⟨z, hz, hzm⟩ : ∃ z : Str, atI [V.str "put it", V.str "cut", V.str "none 1"] v2 = some (.str z) ∧ z ∈ (["put it", "cut", "none 1"] : List Str) := by
    obtain rfl | rfl | rfl : v2 = 0 ∨ v2 = 1 ∨ v2 = 2 := by omega
    · exact ⟨_, rfl, by simp⟩
    · exact ⟨_, rfl, by simp⟩
    · exact ⟨_, rfl, by simp⟩
  obtain ⟨bz, lz, vz⟩ := bad3 hzm
  have hl2 := x2 _ _ (k2 _ _ hl1)
  refine ⟨p3, _, v2, .str z, rfl, rfl, .inl (.inl (x2 _ _ upd_same)), hz, l, _, .str z, at_, rfl, rfl, by rw [List.length_map]; omega, by rw [List.length_map]; omega, hl2, ?_⟩
  have k3 : ∀ b o, H b = some o → upd H2 l (.lst ((rows.map V.str).take at_ ++ V.str z :: (rows.map V.str).drop at_)) b = some o := fun b o e => by rw [upd_ne (ne_of_none e nl')]; exact x2 _ _ (k2 _ _ (x1 _ _ (k1 _ _ e)))
  have el : (rows.map V.str).take at_ ++ V.str z :: (rows.map V.str).drop at_ = (rows.take at_ ++ z :: rows.drop at_).map V.str := by rw [List.map_append, List.map_cons, List.map_take, List.map_drop]
  rw [el] at k3 ⊢
  generalize hH3 : upd H2 l (.lst ((rows.take at_ ++ z :: rows.drop at_).map V.str)) = H3 at k3 ⊢
  have hl3 : H3 l = some (.lst ((rows.take at_ ++ z :: rows.drop at_).map V.str)) := by rw [← hH3]; exact upd_same
  -- what is due now
  dsimp only [gName, tNext]
  refine joinS (fun σ H' => H3 = H' ∧ ∃ du', DueA H3 (spoil r at_) du' ∧ σ = [some (.str t), some du', some (.int c), some (.ref l), some (.int (at_ : Int))]) (fun D' hD' => ?_) ?_
  · cases r with
    | inl n =>
      obtain rfl : du = .int (n : Int) := hdu
      refine ⟨_, rfl, _, _, _, _, rfl, .int _, ki, _, rfl, ?_⟩
      refine iteF ⟨_, rfl, _, rfl, _, _, rfl, rfl, _, rfl, ?_⟩
      refine ite2 (fun hc => ?_) (fun hc => ?_)
      · have hc' : at_ ≤ n := by have : ((at_ : Nat) : Int) ≤ (n : Int) := of_decide_eq_true hc; omega
        exact ⟨_, rfl, hD' _ _ ⟨rfl, _, by show DueA H3 (if at_ ≤ n then .inl at_ else .inl n) _; rw [if_pos hc']; exact rfl, rfl⟩⟩
      · have hc' : ¬ at_ ≤ n := fun y => hc (decide_eq_true (by omega))
        exact hD' _ _ ⟨rfl, _, by show DueA H3 (if at_ ≤ n then .inl at_ else .inl n) _; rw [if_neg hc']; exact rfl, rfl⟩
    | inr kvs =>
      obtain ⟨b, rfl, hb⟩ := hdu
      refine ⟨_, rfl, _, _, _, _, rfl, .dK (k3 _ _ hb), kd, _, rfl, ?_⟩
      exact iteT (iteT ⟨_, rfl, hD' _ _ ⟨rfl, _, rfl, rfl⟩⟩)
  rintro _ _ ⟨rfl, du', hdu', rfl⟩
  have hall : ∀ y ∈ rows.take at_ ++ z :: rows.drop at_, y.length ≤ 100 := fun y hy => by
    rcases List.mem_append.mp hy with m | m
    · exact hrow y (List.mem_of_mem_take m)
    · rcases List.mem_cons.mp m with rfl | m
      · exact lz
      · exact hrow y (List.mem_of_mem_drop m)
  have sm := sum_100 hall
  have l1 : ("\n" : Str).length = 1 := by decide +kernel
  have ln : (rows.take at_ ++ z :: rows.drop at_).length ≤ 101 := by rw [List.length_append, List.length_take, List.length_cons, List.length_drop]; omega
  refine ⟨rfl, _, rfl, "\n", l, _, rfl, rfl, SqL.of hl3, by rw [l1]; omega, _, rfl, by show 2 ≤ sizeLine; decide, fun p np => ?_⟩
  have k4 : ∀ b o, H3 b = some o → upd H3 p (.tup [.str (Txt.join "\n" (rows.take at_ ++ z :: rows.drop at_)), du']) b = some o := fun b o e => by rw [upd_ne (ne_of_none e np)]; exact e
  refine q p _ z at_ (by omega) bz lz vz ⟨du', ?_, upd_same⟩ fun b o e => k4 _ _ (k3 _ _ e)
  cases hs : spoil r at_ with
  | inl n => rw [hs] at hdu'; exact hdu'
  | inr kvs => rw [hs] at hdu'; obtain ⟨b, e1, e2⟩ := hdu'; exact ⟨b, e1, k4 _ _ e2⟩
end
end My
namespace My
open PySem L2
theorem rows_eqB {H : Hp} {rows : List Rw} {us : List V} (hu : RowsAt H rows us) : ∀ {vs : List V}, RowsAt H rows vs → us.length = vs.length ∧ ∀ (i : Nat) u v, us[i]? = some u → vs[i]? = some v → EqB H 1 u v true := by
  induction hu with
  | nil => intro vs hv; cases hv; exact ⟨rfl, fun i u v e => by simp at e⟩
  | cons r _ ih =>
    intro vs hv
    cases hv with
    | cons r' hv =>
      obtain ⟨h1, h2⟩ := ih hv
      refine ⟨by rw [List.length_cons, List.length_cons, h1], fun i u v e1 e2 => ?_⟩
      match i, e1, e2 with
      | 0, e1, e2 =>
        rw [List.getElem?_cons_zero] at e1 e2
        cases e1; cases e2
        obtain ⟨p, rfl, g⟩ := r
        obtain ⟨p', rfl, g'⟩ := r'
        exact eqB_tupS g g' (by simp [flatV])
      | i + 1, e1, e2 => exact h2 i u v (by simpa using e1) (by simpa using e2)
theorem srt_one {kvs : List (Key × V)} {rows rows' : List Rw} (srt0 : SrtOf kvs rows) (srt : SrtOf kvs rows') : rows' = rows := by
  have u1 := srt0.uniq (rs := rows'.map fun r => (r.1, V.str r.2)) (by rw [List.map_map]; exact srt.1) srt.2
  have this := congrArg (List.map fun (p : Int × V) => (p.1, match p.2 with | .str z => z | _ => ("" : Str))) u1
  rw [List.map_map, List.map_map] at this
  have e : ((fun (p : Int × V) => (p.1, match p.2 with | .str z => z | _ => ("" : Str))) ∘ fun r : Rw => (r.1, V.str r.2)) = id := by funext r; rfl
  rw [e, List.map_id, List.map_id] at this
  exact this
theorem srt_ex {D : Nat} {kvs : List (Key × V)} (hw : Rws D kvs) : ∃ rows, SrtOf kvs rows := by
  have hp := List.mergeSort_perm (kvs.map fun q => keyI q.1) (fun a b => decide (a ≤ b))
  have hs := List.pairwise_mergeSort (le := fun a b : Int => decide (a ≤ b)) (fun a b c h1 h2 => by simp at h1 h2 ⊢; omega) (fun a b => by simp; omega) (kvs.map fun q => keyI q.1)
  have nd : (kvs.map fun q => keyI q.1).Nodup := by
    have h0 := hw.nd
    unfold List.Nodup at h0 ⊢
    rw [List.pairwise_map] at h0 ⊢
    refine h0.imp_of_mem fun {a b} ma mb h e => ?_
    obtain ⟨i, x, rfl, _⟩ := hw.all a ma
    obtain ⟨j, y, rfl, _⟩ := hw.all b mb
    exact h (congrArg Sum.inl (show i = j from e))
  have nd2 := hp.nodup_iff.mpr nd
  refine ⟨_, srt_of hw hp ((hs.and nd2).imp fun {a b} h => ?_)⟩
  have h1 : a ≤ b := of_decide_eq_true h.1
  have h2 := h.2
  omega
section
variable {P : Program} {w : World} {K : PySem.W.Frag} {mg : Str → Option Value} {base : Heap} {C : Addr}
def spLtab (K : PySem.W.Frag) (mg : Str → Option Value) : Sp := fun vs H Q _ => ∃ (S : Sl) (f hd : Addr) (D : Nat) (kvs : List (Key × V)) (rows : List Rw), vs = [.ref f, .ref hd, .int (D : Int)] ∧ H hd = some (.dK kvs) ∧ SealAt K mg sNumd S H f ∧ Rws D kvs ∧ kvs.length < 64 ∧ SrtOf kvs rows ∧ D ≤ 16 ∧ Cap S H (cstP D rows + 1) ∧
  ∀ v H', Gr S (cstP D rows + 1) H H' → isT S H' (tbT D rows) v → Q v H'
theorem scLtb : FnScope ["_law_seal", "_law_held", "_law_depth"] ["_law_seal", "_law_held", "_law_depth"] (defScope sLtab) := ⟨rfl, rfl, rfl, by decide +kernel, rfl, by decide +kernel, by decide +kernel⟩
theorem ok_ltab (F : FunAt K mg "_law_table" sLtab) (Fl : CallOkQ P w K mg base 1 (spSeal K mg sNumd)) (Flp : FnQ P w K mg base 19 "_law_part" ["_law_seal", "_law_rows", "_law_level"] (spTopA K mg)) (mso : mg "sorted" = none) : FnQ P w K mg base 20 "_law_table" ["_law_seal", "_law_held", "_law_depth"] (spLtab K mg) := by
  refine F.okQ scLtb (fun _ _ _ _ _ _ us hl => match us, hl with | [_, _, _], _ => rfl) (fun vs H Q E h => ?_) (fun f0 cdv A outer s H vs Q E hr h => ?_)
  · obtain ⟨S, f, hd, D, kvs, rows, rfl, _⟩ := h; rfl
  obtain ⟨S, f, hd, D, kvs, rows, rfl, hH, hS, hw, hz, srt0, D16, hc, q⟩ := h
  have nd := scLtb.nd
  have hu := hu_ofQ hr
  refine' ⟨_, pss_one (ps_ret (pe_callVQ (i := 0) Fl (hr.mono (by omega)) rfl (Or.inl rfl) (pa_cons pe_str (pa_cons (pv 2) (pa_cons (pe_callQ Flp hr rfl (pa_cons (pv 0) (pa_cons (pe_compQ (ys := ["_law_held"]) (js := [1]) ?ok (pi_listQ (pe_callB (call_sortedDQ hr) rfl mso PyProof.Rows.boot_sorted (pa_cons (pv 1) pa_nil))) (fun _ _ _ => pts_nil) ?he) (pa_cons (pv 2) pa_nil)))) pa_nil))))), ?rd⟩
  case ok =>
    refine ⟨hr.md, rfl, rfl, by decide +kernel, by decide +kernel, rfl, by decide +kernel, fun _ _ h => h, rfl, fun i y h => ?_, rfl⟩
    match i, h with
    | 0, h => simp at h; subst h; exact ⟨1, rfl, rfl, rfl, rfl⟩
    | i + 1, h => simp at h
  case he =>
    exact fun _ _ _ => pe_tup (pa_cons (pv 0) (pa_cons (pe_dget hu (pv 1) (pv 0) (fun _ _ => rfl)) pa_nil))
  case rd =>
  refine ⟨f, rfl, hS.fny, _, rfl, _, rfl, _, rfl, hd, kvs, rfl, hH, hw.ints, hz, fun l lk nl pm pw => ⟨l, rfl, ⟨_, SqL.of upd_same⟩, fun DD hDD => ?_⟩⟩
  have srt := srt_of hw pm pw
  have g6 : Gr S 0 H (upd H l (.lst (lk.map V.int))) := .new hS.told nl
  have llk : lk.length = kvs.length := by have := pm.length_eq; simpa using this
  refine ⟨fun i m ys H2 => m = lk.length - i ∧ i ≤ lk.length ∧ H2 DD = some (.lst ys) ∧ Gr S 0 (upd H l (.lst (lk.map V.int))) H2 ∧ RowsAt H2 ((lk.take i).map fun k => (k, sVal kvs k)) ys,
    ⟨lk.length, by simp, by omega, upd_same, Gr.new g6.gn.told2 hDD, .nil⟩, ?_⟩
  rintro i m ys H2 ⟨rfl, hi, hD2, g, ry⟩
  have hl2 := g.lst (show upd H l (.lst (lk.map V.int)) l = some (.lst (lk.map V.int)) from upd_same)
  have ylen := pr_len ry
  rw [List.length_map, List.length_take] at ylen
  have g0 := g6.trans g
  by_cases hlt : i < lk.length
  · refine .inr ⟨⟨_, V.int lk[i], SqL.of hl2, by simp [hlt]⟩, fun y H3 ⟨e3, hx⟩ => ?_⟩
    subst e3
    have ex : y = V.int lk[i] := by
      have z := hx _ (SqL.of hl2)
      simp [hlt] at z
      exact z.symm
    subst ex
    refine iteT ?_
    have hh := g0.same hH (fun _ e => nomatch e)
    have ev := sVal_eq hw (key_mem hw pm (List.getElem_mem hlt))
    refine ⟨_, rfl, _, rfl, _, rfl, hd, .str (sVal kvs lk[i]), rfl, ?_, (by show 2 ≤ sizeLine; decide), fun p hp => ?_⟩
    · have z := DGet.k (H := H3) (a := hd) (k := .inl lk[i]) hh
      rw [ev] at z; exact z
    have g7 : Gr S 0 H3 (upd H3 p (.tup [.int lk[i], .str (sVal kvs lk[i])])) := .new g.gn.told2 hp
    have hD7 := g7.lst hD2
    have g8 : Gn S 0 _ (upd (upd H3 p (.tup [.int lk[i], .str (sVal kvs lk[i])])) DD (.lst (ys ++ [.ref p]))) := Gn.chg g7.gn.told2 hD7 rfl (fun _ e => nomatch e)
    refine ⟨hD7, by rw [sizeLine_eq]; omega, lk.length - (i + 1), by omega, rfl, by omega, upd_same, ((g.trans g7).up (by omega)).own hDD, ?_⟩
    rw [List.take_succ, List.getElem?_eq_getElem hlt, List.map_append]
    exact RowsAt.up (pr_snoc (RowsAt.up ry g7.gn) ⟨p, rfl, upd_same⟩) g8
  have e : i = lk.length := by omega
  subst e
  refine .inl ⟨⟨_, SqL.of hl2, by simp⟩, ?_⟩
  rw [List.take_length] at ry
  have er := srt_one srt0 srt
  rw [er] at ry
  have rlen := srt0.len
  refine ⟨_, rfl, D, D16, S, f, DD, ys, rows, rfl, hS.up g0.gn, SqL.of hD2, ry, by omega, srt0.okr hw, hc.go g0.gn (by omega), fun v7 H7 G7 i7 => ?_⟩
  have G07 := g0.trans G7
  have hS7 := hS.up G07.gn
  exact ⟨hS7.fny, S, "table", .int (D : Int), topP D rows, _, _, hS7, hc.go G07.gn (by omega), rfl, rfl, i7, fun v8 H8 G8 i8 => q v8 H8 ((G07.trans G8).up (by omega)) i8⟩
def spRight (K : PySem.W.Frag) (mg : Str → Option Value) (C : Addr) : Sp := fun vs H Q _ => ∃ (S : Sl) (x d f hd : Addr) (D : Nat) (kvs : List (Key × V)), vs = [.ref f, .ref x, .ref hd, .int (D : Int)] ∧ TabAt C H x d f D kvs ∧ H hd = some (.dK kvs) ∧ SealAt K mg sNumd S H f ∧ Rws D kvs ∧ kvs.length < 64 ∧ D ≤ 16 ∧ Cap S H 5000 ∧
  ∀ H', Gr S 5000 H H' → Q (.bl true) H'
theorem scRg : FnScope ["_law_seal", "_law_table_here", "_law_held", "_law_depth"] ["_law_seal", "_law_table_here", "_law_held", "_law_depth"] (defScope sRight) := ⟨rfl, rfl, rfl, by decide +kernel, rfl, by decide +kernel, by decide +kernel⟩
theorem ok_right (F : FunAt K mg "_law_right" sRight) (T : Txt K mg C) (Mr : MtQ P w K mg base C 1 "rows" ["self"] (spRows C)) (Mh : MtQ P w K mg base C 20 "head" ["self"] (spTHead K mg C)) (Flt : FnQ P w K mg base 20 "_law_table" ["_law_seal", "_law_held", "_law_depth"] (spLtab K mg))
    (mso : mg "sorted" = none) : FnQ P w K mg base 21 "_law_right" ["_law_seal", "_law_table_here", "_law_held", "_law_depth"] (spRight K mg C) := by
  refine F.okQ scRg (fun _ _ _ _ _ _ us hl => match us, hl with | [_, _, _, _], _ => rfl) (fun vs H Q E h => ?_) (fun f0 cdv A outer s H vs Q E hr h => ?_)
  · obtain ⟨S, x, d, f, hd, D, kvs, rfl, _⟩ := h; rfl
  obtain ⟨S, x, d, f, hd, D, kvs, rfl, hT, hH, hS, hw, hz, D16, hc, q⟩ := h
  have nd := scRg.nd
  have hu := hu_ofQ hr
  have hun := hr.un
  refine' ⟨_, pss_one (ps_ret (pe_and (pe_cmpR op_eqB (pe_methQ0 Mr (pv 1) T.cl (hr.mono (by omega))) (pe_compQ (ys := ["_law_held"]) (js := [2]) ?ok (pi_listQ (pe_callB (call_sortedDQ hr) rfl mso PyProof.Rows.boot_sorted (pa_cons (pv 2) pa_nil))) (fun _ _ _ => pts_nil) ?he) (nomark _)) (pe_one (pe_cmpR op_eqT (pe_methQ0 Mh (pv 1) T.cl hr) (pe_callQ Flt hr rfl (pa_cons (pv 0) (pa_cons (pv 2) (pa_cons (pv 3) pa_nil)))) (nomark _))))), ?rd⟩
  case ok =>
    refine ⟨hr.md, rfl, rfl, by decide +kernel, by decide +kernel, rfl, by decide +kernel, fun _ _ h => h, rfl, fun i y h => ?_, rfl⟩
    match i, h with
    | 0, h => simp at h; subst h; exact ⟨2, rfl, rfl, rfl, rfl⟩
    | i + 1, h => simp at h
  case he =>
    exact fun _ _ _ => pe_tup (pa_cons (pv 0) (pa_cons (pe_dget hu (pv 1) (pv 0) (fun _ _ => rfl)) pa_nil))
  case rd =>
  obtain ⟨rows, srt0⟩ := srt_ex hw
  have rlen := srt0.len
  have cl := cstP_le D rows
  have cl2 : D * rows.length ≤ 16 * 63 := Nat.mul_le_mul D16 (by omega)
  obtain ⟨⟨dx, h1⟩, h2⟩ := id hT
  refine ⟨_, rfl, x, dx, _, rfl, h1, rfl, S, x, d, f, D, kvs, rows, rfl, hT, hS.told, hw, hz, srt0, fun l1 ws1 H1 g1 nl1 el1 rl1 => ?_⟩
  have hH1 := g1.same hH (fun _ e => nomatch e)
  refine ⟨_, rfl, hd, kvs, rfl, hH1, hw.ints, hz, fun l lk nl pm pw => ⟨l, rfl, ⟨_, SqL.of upd_same⟩, fun DD hDD => ?_⟩⟩
  have srt := srt_of hw pm pw
  have g6 : Gr S 0 H1 (upd H1 l (.lst (lk.map V.int))) := .new g1.gn.told2 nl
  have llk : lk.length = kvs.length := by have := pm.length_eq; simpa using this
  refine ⟨fun i m ys H2 => m = lk.length - i ∧ i ≤ lk.length ∧ H2 DD = some (.lst ys) ∧ Gr S 0 (upd H1 l (.lst (lk.map V.int))) H2 ∧ RowsAt H2 ((lk.take i).map fun k => (k, sVal kvs k)) ys,
    ⟨lk.length, by simp, by omega, upd_same, Gr.new g6.gn.told2 hDD, .nil⟩, ?_⟩
  rintro i m ys H2 ⟨rfl, hi, hD2, g, ry⟩
  have hl2 := g.lst (show upd H1 l (.lst (lk.map V.int)) l = some (.lst (lk.map V.int)) from upd_same)
  have ylen := pr_len ry
  rw [List.length_map, List.length_take] at ylen
  have g0 := g6.trans g
  by_cases hlt : i < lk.length
  · refine .inr ⟨⟨_, V.int lk[i], SqL.of hl2, by simp [hlt]⟩, fun y H3 ⟨e3, hx⟩ => ?_⟩
    subst e3
    have ex : y = V.int lk[i] := by
      have z := hx _ (SqL.of hl2)
      simp [hlt] at z
      exact z.symm
    subst ex
    refine iteT ?_
    have hh := g0.same hH1 (fun _ e => nomatch e)
    have ev := sVal_eq hw (key_mem hw pm (List.getElem_mem hlt))
    refine ⟨_, rfl, _, rfl, _, rfl, hd, .str (sVal kvs lk[i]), rfl, ?_, (by show 2 ≤ sizeLine; decide), fun p hp => ?_⟩
    · have z := DGet.k (H := H3) (a := hd) (k := .inl lk[i]) hh
      rw [ev] at z; exact z
    have g7 : Gr S 0 H3 (upd H3 p (.tup [.int lk[i], .str (sVal kvs lk[i])])) := .new g.gn.told2 hp
    have hD7 := g7.lst hD2
    have g8 : Gn S 0 _ (upd (upd H3 p (.tup [.int lk[i], .str (sVal kvs lk[i])])) DD (.lst (ys ++ [.ref p]))) := Gn.chg g7.gn.told2 hD7 rfl (fun _ e => nomatch e)
    refine ⟨hD7, by rw [sizeLine_eq]; omega, lk.length - (i + 1), by omega, rfl, by omega, upd_same, ((g.trans g7).up (by omega)).own hDD, ?_⟩
    rw [List.take_succ, List.getElem?_eq_getElem hlt, List.map_append]
    exact RowsAt.up (pr_snoc (RowsAt.up ry g7.gn) ⟨p, rfl, upd_same⟩) g8
  have e : i = lk.length := by omega
  subst e
  refine .inl ⟨⟨_, SqL.of hl2, by simp⟩, ?_⟩
  rw [List.take_length] at ry
  rw [srt_one srt0 srt] at ry
  have G2 := (g1.trans g0).up (b := 0) (by omega)
  have hub : (A.deeper (PyProof.Rows.envOfC "_law_right" (defScope sRight) s.heap.objs.size f0 cdv)).units + 2 + 1 < cLine := by omega
  obtain ⟨s1, s2⟩ := rows_eqB (RowsAt.up rl1 g0.gn) ry
  refine ⟨2, _, eqB_lstS (g0.lst el1) hD2 s1 s2, hub, _, rfl, ?_⟩
  refine iteT ?_
  obtain ⟨⟨dx5, h15⟩, h25⟩ := hT.up G2
  refine ⟨_, rfl, x, dx5, _, rfl, h15, rfl, S, x, d, f, D, kvs, rows, rfl, hT.up G2, hS.up G2.gn, hw, hz, srt0, D16, hc.go G2.gn (by omega), fun v6 H6 G6 i6 => ?_⟩
  have G06 := G2.trans G6
  refine ⟨_, rfl, _, rfl, _, rfl, S, f, hd, D, kvs, rows, rfl, G06.same hH (fun _ e => nomatch e), hS.up G06.gn, hw, hz, srt0, D16, hc.go G06.gn (by omega), fun v8 H8 G8 i8 => ?_⟩
  refine ⟨_, isT_eq (isT_up G8.gn i6) i8, ?_, q H8 ((G06.trans G8).up (by omega))⟩
  have dp := topP_dep D rows
  have dp2 : (tbT D rows).dep ≤ D + 3 := by
    show max ((Tm.int (D : Int)).dep) ((topP D rows).dep) + 1 ≤ D + 3
    have : (Tm.int (D : Int)).dep = 0 := rfl
    omega
  show (A.deeper (PyProof.Rows.envOfC "_law_right" (defScope sRight) s.heap.objs.size f0 cdv)).units + (tbT D rows).dep + 1 < cLine
  omega
end
end My
namespace My
open PySem L2
section
open Tx
theorem join_nl (zs : List Str) : Txt.join "\n" zs = Str.join nl zs := by
  have e0 : ("\n" : Str) = nl := by decide +kernel
  show Builtin.Str.glued "\n" zs = _
  rw [StrLaws.glued_eq_join, e0]
theorem split_rows {zs : List Str} (hv : ∀ z ∈ zs, Vis126 z) : Txt.split (Txt.join "\n" zs) "\n" = if zs = [] then [("" : Str)] else zs := by
  have e0 : ("\n" : Str) = nl := by decide +kernel
  split
  · next h => rw [h]; decide +kernel
  · next h =>
    rw [join_nl, e0]
    exact split_join h fun z hz m => by have := hv z hz 10 m; omega
theorem join_len : ∀ (zs : List Str), (∀ z ∈ zs, z.length ≤ 100) → (Str.join nl zs).length ≤ 101 * zs.length
  | [], _ => by decide
  | [a], h => by
    have := h a List.mem_cons_self
    show a.length ≤ _
    simp; omega
  | a :: b :: l, h => by
    have ih := join_len (b :: l) fun z hz => h z (List.mem_cons_of_mem _ hz)
    have ha := h a List.mem_cons_self
    rw [sg_len, join_cons, List.length_append, List.length_cons, ← sg_len, ← sg_len]
    simp only [List.length_cons] at ih ⊢
    omega
theorem vis_asc {z : Str} (h : Vis126 z) : z.cps.all (· < 128) = true := Array.all_eq_true_iff_forall_mem.mpr fun c hc => by
  have := h c (by simpa using hc)
  simp; omega
theorem goR_cons (D n : Nat) (r : Str) (l : List Str) (kvs : List (Key × V)) : goR D n (r :: l) kvs = match readR r D with | none => .inl n | some none => goR D (n + 1) l kvs | some (some (.put k v)) => goR D (n + 1) l (putK kvs (.inl (k : Int)) (.str v)) | some (some (.cut k)) => match valV kvs (.inl (k : Int)) with | none => .inl n | some _ => goR D (n + 1) l (dropK kvs (.inl (k : Int))) := rfl
theorem goR_ge {D : Nat} : ∀ (l : List Str) (n : Nat) (kvs : List (Key × V)) (m : Nat), goR D n l kvs = .inl m → n ≤ m
  | [], n, kvs, m, h => by cases h
  | r :: l, n, kvs, m, h => by
    rw [goR_cons] at h
    split at h
    · cases h; exact Nat.le_refl _
    · exact Nat.le_of_succ_le (goR_ge l _ _ _ h)
    · exact Nat.le_of_succ_le (goR_ge l _ _ _ h)
    · split at h
      · cases h; exact Nat.le_refl _
      · exact Nat.le_of_succ_le (goR_ge l _ _ _ h)
theorem spl_go {D : Nat} {z : Str} (hz : readR z D = none) : ∀ (i : Nat) (l : List Str) (n : Nat) (kvs : List (Key × V)), (∀ r ∈ l, readR r D ≠ none) → i ≤ l.length → goR D n (l.take i ++ z :: l.drop i) kvs = spoil (goR D n l kvs) (n + i)
  | 0, l, n, kvs, _, _ => by
    rw [List.take_zero, List.drop_zero, List.nil_append, goR_cons, hz, Nat.add_zero]
    cases e : goR D n l kvs with
    | inl m => show Sum.inl n = if n ≤ m then Sum.inl n else Sum.inl m; rw [if_pos (goR_ge l n kvs m e)]
    | inr k => rfl
  | i + 1, [], n, kvs, _, hi => by simp at hi
  | i + 1, r :: l, n, kvs, hl, hi => by
    have ih := fun kv => spl_go hz i l (n + 1) kv (fun x hx => hl x (List.mem_cons_of_mem _ hx)) (by simpa using hi)
    have e1 : n + 1 + i = n + (i + 1) := by omega
    rw [List.take_succ_cons, List.drop_succ_cons, List.cons_append, goR_cons, goR_cons]
    cases hr : readR r D with
    | none => exact absurd hr (hl r List.mem_cons_self)
    | some o =>
      cases o with
      | none => rw [← e1]; exact ih kvs
      | some st =>
        cases st with
        | put k v => rw [← e1]; exact ih _
        | cut k =>
          dsimp only
          cases hv : valV kvs (.inl (k : Int)) with
          | none =>
            dsimp only
            show _ = if n + (i + 1) ≤ n then _ else _
            rw [if_neg (by omega)]
          | some v => rw [← e1]; exact ih _
theorem mem_put {kvs : List (Key × V)} {k : Key} {v : V} {q : Key × V} (h : q ∈ putK kvs k v) : q ∈ kvs ∨ q.1 = k := by
  cases e : valV kvs k with
  | none =>
    rw [putK_new _ e] at h
    rcases List.mem_append.mp h with z | z
    · exact .inl z
    · rw [List.mem_singleton.mp z]; exact .inr rfl
  | some w =>
    rw [putK_old (show (valV kvs k).isSome = true by rw [e]; rfl)] at h
    obtain ⟨p, hp, rfl⟩ := List.mem_map.mp h
    by_cases z : p.1 = k
    · rw [if_pos z]; exact .inr z
    · rw [if_neg z]; exact .inl hp
structure Near (ks : List Int) (D : Nat) (kvs : List (Key × V)) : Prop where
  w : Rws D kvs
  nr : ∀ q ∈ kvs, keyI q.1 ∈ nrK ks
theorem nodup_sub {α : Type} [DecidableEq α] : ∀ {l m : List α}, l.Nodup → (∀ x ∈ l, x ∈ m) → l.length ≤ m.length
  | [], _, _, _ => Nat.zero_le _
  | a :: l, m, hn, hs => by
    have h1 := List.nodup_cons.mp hn
    have h2 : ∀ x ∈ l, x ∈ m.erase a := fun x hx => (List.mem_erase_of_ne (fun (e : x = a) => h1.1 (by rw [← e]; exact hx))).mpr (hs x (List.mem_cons_of_mem _ hx))
    have h3 := nodup_sub h1.2 h2
    have h4 := List.length_erase_of_mem (hs a List.mem_cons_self)
    have h5 : 0 < m.length := List.length_pos_of_mem (hs a List.mem_cons_self)
    rw [List.length_cons]
    omega
theorem Near.len {ks : List Int} {D : Nat} {kvs : List (Key × V)} (h : Near ks D kvs) : kvs.length ≤ 2 * ks.length := by
  have nd : (kvs.map fun q => keyI q.1).Nodup := by
    have h0 := h.w.nd
    unfold List.Nodup at h0 ⊢
    rw [List.pairwise_map] at h0 ⊢
    refine h0.imp_of_mem fun {a b} ma mb h' e => ?_
    obtain ⟨i, x, rfl, _⟩ := h.w.all a ma
    obtain ⟨j, y, rfl, _⟩ := h.w.all b mb
    exact h' (congrArg Sum.inl (show i = j from e))
  have := nodup_sub nd fun x hx => by
    obtain ⟨q, hq, rfl⟩ := List.mem_map.mp hx
    exact h.nr q hq
  rw [List.length_map, List.length_append, List.length_map] at this
  omega
theorem goR_near {ks : List Int} {D : Nat} : ∀ (l : List Str) (n : Nat) (kvs kvs' : List (Key × V)), (∀ r ∈ l, RdK ks D r) → Near ks D kvs → goR D n l kvs = .inr kvs' → Near ks D kvs'
  | [], n, kvs, kvs', _, h, e => by cases e; exact h
  | r :: l, n, kvs, kvs', hl, h, e => by
    have hl' : ∀ x ∈ l, RdK ks D x := fun x hx => hl x (List.mem_cons_of_mem _ hx)
    obtain ⟨o, eo, ho⟩ := hl r List.mem_cons_self
    have of := readR_of (r := r) (D := D)
    rw [goR_cons, eo] at e
    cases o with
    | none => exact goR_near l _ _ _ hl' h e
    | some st =>
      have hk := ho st rfl
      cases st with
      | put k v =>
        have o1 := of.1 k v eo
        refine goR_near l _ _ _ hl' ⟨h.w.put o1.1 o1.2 v, fun q hq => ?_⟩ e
        rcases mem_put hq with z | z
        · exact h.nr q z
        · rw [z]; exact hk
      | cut k =>
        dsimp only at e
        cases hv : valV kvs (.inl (k : Int)) with
        | none => rw [hv] at e; cases e
        | some v =>
          rw [hv] at e
          exact goR_near l _ _ _ hl' ⟨h.w.drop _, fun q hq => h.nr q (dropK_mem hq)⟩ e
theorem rd_empty (ks : List Int) (D : Nat) : RdK ks D "" := ⟨none, read_empty (n := 0) (by decide +kernel), fun _ e => nomatch e⟩
theorem steps_len (D : Nat) : ∀ (n : Nat) (l : List Str), (stepsOf D n l).length ≤ l.length
  | _, [] => Nat.le_refl _
  | n, r :: l => by
    have ih := steps_len D (n + 1) l
    show ((match readR r D with | some (some st) => [(n, st)] | _ => []) ++ stepsOf D (n + 1) l).length ≤ _
    rw [List.length_append, List.length_cons]
    split
    · rw [List.length_singleton]; omega
    · rw [List.length_nil]; omega
end
end My
namespace My
open PySem L2
section
open Tx
variable {P : Program} {w : World} {K : PySem.W.Frag} {mg : Str → Option Value} {base : Heap} {C cR : Addr}
structure Br10 (K : PySem.W.Frag) (mg : Str → Option Value) (cR : Addr) : Prop where
  xg : XGet K cR
  no : PySem.W.findIn K (.ref cR) "row" = some none
  hR : mg "BadRow" = some (.ref cR)
  mi : mg "isinstance" = none
  md : mg "dict" = none
  kd : PySem.W.kitOne K (.type "dict") (.type "dict") = some true
  ki : PySem.W.kitOne K (.type "int") (.type "dict") = some false
structure Lw (K : PySem.W.Frag) (mg : Str → Option Value) (C : Addr) (S : Sl) (a f aN x d hd : Addr) (ns ks : List Int) (D n : Nat) (H : Hp) (kvs : List (Key × V)) : Prop where
  sl : SealAt K mg sNumd S H f
  cap : Cap S H n
  sc : SqF K H a (ns.map V.int)
  nr : H aN = some (.lst (ks.map V.int))
  t : TabAt C H x d f D kvs
  h : H hd = some (.dK kvs)
  w : Near ks D kvs
variable {S : Sl} {a f aN x d hd : Addr} {ns ks : List Int} {D n : Nat} {H H' : Hp} {kvs : List (Key × V)}
theorem Lw.go {m b : Nat} (h : Lw K mg C S a f aN x d hd ns ks D n H kvs) (g : Gr S m H H') (hb : b + m ≤ n) : Lw K mg C S a f aN x d hd ns ks D b H' kvs :=
  ⟨h.sl.up g.gn, h.cap.go g.gn (by omega), h.sc.up g.gn, g.same h.nr (fun _ e => nomatch e), h.t.up g, g.same h.h (fun _ e => nomatch e), h.w⟩
theorem Lw.ext (h : Lw K mg C S a f aN x d hd ns ks D n H kvs) (k : ∀ b o, H b = some o → H' b = some o) : Lw K mg C S a f aN x d hd ns ks D n H' kvs := h.go (gr_ext h.sl.told k) (by omega)
theorem DueA.up {r : Sum Nat (List (Key × V))} {v : V} (h : DueA H r v) (k : ∀ b o, H b = some o → H' b = some o) : DueA H' r v := by
  cases r with
  | inl n => exact h
  | inr kv => obtain ⟨b, e, z⟩ := h; exact ⟨b, e, k _ _ z⟩
theorem scL : FnScope ["_law_script", "_law_seal", "_law_depth", "_law_near", "_law_table_here", "_law_held", "_law_at", "_law_cell", "_law_made", "_law_text_here", "_law_due", "_law_both", "_law_other", "e", "_law_third"] ["_law_script"] (defScope sLaw) := ⟨rfl, rfl, rfl, by decide +kernel, rfl, by decide +kernel, by decide +kernel⟩
abbrev lσ (a f : Addr) (D : Nat) (aN x hd : Addr) (i c m t du bo ot e th : Option V) : St := [some (.ref a), some (.ref f), some (.int (D : Int)), some (.ref aN), some (.ref x), some (.ref hd), i, c, m, t, du, bo, ot, e, th]
def lB : List Stmt := match (defBody sLaw).getD 5 (.Pass ⟨0, 0, 0, 0⟩) with
  | .For _ _ b _ _ => b
  | _ => []
structure TxOk (ks : List Int) (D : Nat) (kvs : List (Key × V)) (H : Hp) (t : Str) (r : Sum Nat (List (Key × V))) (du : V) : Prop where
  go : goR D 0 (Txt.split t "\n") kvs = r
  due : DueA H r du
  nr : ∀ kv, r = .inr kv → Near ks D kv
  len : t.length ≤ sizeLine
  sz : (Txt.split t "\n").length ≤ 1000
  row : ∀ r ∈ Txt.split t "\n", r.length ≤ 1000 ∧ r.cps.all (· < 128) = true
theorem try_ok {f0 : Addr} {cdv : Value} {A : Around} {outer : List Env} {s : Shared} {H0 : Hp} {E : XK} (hr : Room 99 (A.deeper (PyProof.Rows.envOfC "law" (defScope sLaw) s.heap.objs.size f0 cdv))) (T : Txt K mg C) (X : Br10 K mg cR)
    (Fch : FnR P w K mg base 5 "changed" ["table", "text", "depth"] (spChd C cR)) (Frt : FnQ P w K mg base 21 "_law_right" ["_law_seal", "_law_table_here", "_law_held", "_law_depth"] (spRight K mg C)) (Mp : MtP P w K mg base C 3 "put" ["self", "key", "value"] (spPut C)) :
    ∃ t, PSs (cxOf CX0 P w K mg base ["_law_script", "_law_seal", "_law_depth", "_law_near", "_law_table_here", "_law_held", "_law_at", "_law_cell", "_law_made", "_law_text_here", "_law_due", "_law_both", "_law_other", "e", "_law_third"] "law" (defScope sLaw) f0 cdv A outer s H0 E).nox (lB.drop 5) t ∧
      ∀ (Ed : Ends) (S : Sl) (a f aN x d hd : Addr) (ns ks : List Int) (D n : Nat) (H : Hp) (kvs : List (Key × V)) (i c m bo ot e th : Option V) (t' : Str) (du : V) (r : Sum Nat (List (Key × V))), Lw K mg C S a f aN x d hd ns ks D (n + 30000) H kvs → TxOk ks D kvs H t' r du → ks.length = 4 → (∀ k ∈ ks, Of k D) → D ≤ 16 →
        (∀ H' x' d' hd' kvs' e' ot' th', Lw K mg C S a f aN x' d' hd' ns ks D n H' kvs' → Ed.nx (lσ a f D aN x' hd' i c m (some (.str t')) (some du) bo ot' e' th') H') → t Ed (lσ a f D aN x hd i c m (some (.str t')) (some du) bo ot e th) H := by
  have nd := scL.nd
  have mi := X.mi
  have md := X.md
  have hr21 : Room 21 (A.deeper (PyProof.Rows.envOfC "law" (defScope sLaw) s.heap.objs.size f0 cdv)) := hr.mono (by omega)
  have Fr := Frt.toP
  refine ⟨_, pss_one (ps_tryRC (i := 13) rfl ⟨rfl, rfl⟩ nd rfl rfl X.xg.own rfl X.hR (pssr_set (i := 12) nd rfl (Or.inl rfl) Fch (hr.mono (by omega)) rfl (pa_cons (pv 4) (pa_cons (pv 9) (pa_cons (pv 2) pa_nil))))
      (pss_cons (ps_if (PW.pt (pw_or (pt_not (pt_val (pe_callB call_isinst rfl mi PyProof.Rows.boot_isinstance (pa_cons (pv 10) (pa_cons (pe_ty rfl md PyProof.Rows.boot_dict) pa_nil))))) (pw_or1 (pt_not (pt_val (pe_callN Fr hr21 rfl (pa_cons (pv 1) (pa_cons (pv 12) (pa_cons (pv 10) (pa_cons (pv 2) pa_nil)))))))))) (pss_one (ps_ret pe_bl)) pss_nil) <|
       pss_cons (ps_if (pt_not (pt_val (pe_callN Fr hr21 rfl (pa_cons (pv 1) (pa_cons (pv 4) (pa_cons (pv 5) (pa_cons (pv 2) pa_nil))))))) (pss_one (ps_ret pe_bl)) pss_nil) <|
       pss_cons (ps_set (i := 14) nd rfl (Or.inl rfl) (pe_callR passR0 Fch (hr.mono (by omega)) rfl (pa_cons (pv 4) (pa_cons (pv 9) (pa_cons (pv 2) pa_nil))))) <|
       pss_cons (ps_expr (pe_methN Mp (pv 14) T.cl (hr.mono (by omega)) (pa_cons (pe_ix ix_list (pv 3) pe_int (fun _ _ => rfl)) (pa_cons pe_str pa_nil)))) <|
       pss_cons (ps_if (PW.pt (pw_or (pt_not (pt_val (pe_callN Fr hr21 rfl (pa_cons (pv 1) (pa_cons (pv 4) (pa_cons (pv 5) (pa_cons (pv 2) pa_nil))))))) (pw_or1 (pt_not (pt_val (pe_callN Fr hr21 rfl (pa_cons (pv 1) (pa_cons (pv 12) (pa_cons (pv 10) (pa_cons (pv 2) pa_nil)))))))))) (pss_one (ps_ret pe_bl)) pss_nil) <|
       pss_cons (ps_set (i := 4) nd rfl (Or.inl rfl) (pv 12)) <|
       pss_one (ps_set (i := 5) nd rfl (Or.inl rfl) (pv 10)))
      (fun e => pss_one (ps_if (PW.pt (pw_or (pt_val (pe_callB call_isinst rfl mi PyProof.Rows.boot_isinstance (pa_cons (pv 10) (pa_cons (pe_ty rfl md PyProof.Rows.boot_dict) pa_nil)))) (pw_or (pt_cmpR op_ne (pe_rowK K rfl (pv 13) rfl) (pv 10) (nomark _)) (pw_or1 (pt_not (pt_val (pe_callM Frt ⟨hr21.dp, hr21.un⟩ rfl (pa_cons (pv 1) (pa_cons (pv 4) (pa_cons (pv 5) (pa_cons (pv 2) pa_nil))))))))))) (pss_one (ps_ret pe_bl)) pss_nil))), ?_⟩
  intro Ed S a f aN x d hd ns ks D n H kvs i c m bo ot e th t' du r h tx k4 hks D16 q
  have hl := h.w.len
  refine ⟨_, rfl, _, rfl, _, rfl, x, d, f, t', D, kvs, rfl, h.t, by omega, tx.len, tx.sz, tx.row, ?_⟩
  rw [tx.go]
  cases r with
  | inl n' =>
    obtain rfl : du = .int (n' : Int) := tx.due
    intro H1 dd od k1 hd1 ro
    refine ⟨cR, dd, rfl, rfl, rfl, fun ea oe n0 ix co => ?_⟩
    have k2 : ∀ b o, H1 b = some o → upd H1 ea (.frz oe (.own 0)) b = some o := fun b o e => by rw [upd_ne (ne_of_none e n0)]; exact e
    have h2 := h.ext fun b o e => k2 _ _ (k1 _ _ e)
    refine ⟨_, rfl, _, _, _, _, rfl, .int _, X.ki, _, rfl, ?_⟩
    refine iteF ?_
    refine ⟨_, rfl, ea, cR, dd, oe, od, (n' : Int), rfl, upd_same, ix, X.xg, X.no, k2 _ _ hd1, ro, _, rfl, rfl, _, rfl, ?_⟩
    rw [decide_eq_true rfl]
    refine iteF ?_
    refine ⟨_, rfl, _, rfl, _, rfl, _, rfl, Mild.hand co, S, x, d, f, hd, D, kvs, rfl, h2.t, h2.h, h2.sl, h2.w.w, by omega, D16, h2.cap.dn (by omega), fun H3 g3 => ⟨_, rfl, iteF ?_⟩⟩
    exact q _ _ _ _ _ _ _ _ (h2.go g3 (by omega))
  | inr kvs' =>
    obtain ⟨bd, rfl, hbd⟩ := tx.due
    have nr' := tx.nr _ rfl
    have hl' := nr'.len
    intro y e' H1 T1 k1 ny ne'
    have h1 := h.ext k1
    refine ⟨_, rfl, _, _, _, _, rfl, .dK (k1 _ _ hbd), X.kd, _, rfl, ?_⟩
    refine iteF ?_
    refine ⟨_, rfl, _, rfl, _, rfl, _, rfl, S, y, e', f, bd, D, kvs', rfl, T1, k1 _ _ hbd, h1.sl, nr'.w, by omega, D16, h1.cap.dn (by omega), fun H2 g2 => ⟨_, rfl, iteF ?_⟩⟩
    have h2 := h1.go (b := n + 25000) g2 (by omega)
    refine ⟨_, rfl, _, rfl, _, rfl, _, rfl, S, x, d, f, hd, D, kvs, rfl, h2.t, h2.h, h2.sl, h2.w.w, by omega, D16, h2.cap.dn (by omega), fun H3 g3 => ⟨_, rfl, iteF ?_⟩⟩
    have h3 := h2.go (b := n + 20000) g3 (by omega)
    have g13 := g2.trans g3
    have T3 := T1.up g13
    have b3 := g13.same (k1 _ _ hbd) (fun _ e => nomatch e)
    refine ⟨_, rfl, _, rfl, _, rfl, x, d, f, t', D, kvs, rfl, h3.t, by omega, tx.len, tx.sz, tx.row, ?_⟩
    rw [tx.go]
    intro y3 e3 H4 T4 k4' ny3 ne3
    dsimp only [gName]
    obtain ⟨⟨dx4, t41⟩, t42⟩ := id T4
    have hk0 : 0 < ks.length := by omega
    obtain ⟨o0, o1⟩ := hks ks[0] (List.getElem_mem hk0)
    have ek : atI (ks.map V.int) 0 = some (.int ks[0]) := atI_nat (j := 0) (by rw [List.getElem?_map, List.getElem?_eq_getElem hk0]; rfl)
    refine ⟨_, rfl, y3, dx4, _, rfl, t41, rfl, _, rfl, aN, _, 0, _, rfl, rfl, SqL.of (k4' _ _ h3.nr), ek, y3, e3, f, D, kvs', ks[0], .str "qqq", rfl, T4, o0, o1, by rw [sizeLine_eq]; omega, ?_⟩
    have k5 : ∀ b o, H3 b = some o → upd H4 e3 (.dK (putK kvs' (.inl ks[0]) (.str "qqq"))) b = some o := fun b o e => by rw [upd_ne (ne_of_none e ne3)]; exact k4' _ _ e
    have h5 := h3.ext k5
    have T5 := T3.up (gr_ext h3.sl.told k5)
    refine ⟨_, rfl, _, rfl, _, rfl, _, rfl, S, x, d, f, hd, D, kvs, rfl, h5.t, h5.h, h5.sl, h5.w.w, by omega, D16, h5.cap.dn (by omega), fun H6 g6 => ⟨_, rfl, iteF ?_⟩⟩
    have h6 := h5.go (b := n + 15000) g6 (by omega)
    refine ⟨_, rfl, _, rfl, _, rfl, _, rfl, S, y, e', f, bd, D, kvs', rfl, T5.up g6, g6.same (k5 _ _ b3) (fun _ e => nomatch e), h6.sl, nr'.w, by omega, D16, h6.cap.dn (by omega), fun H7 g7 => ⟨_, rfl, iteF ?_⟩⟩
    have h7 := h6.go (b := n) g7 (by omega)
    refine ⟨_, rfl, ?_⟩
    refine ⟨_, rfl, ?_⟩
    exact q H7 y e' bd kvs' _ _ _ ⟨h7.sl, h7.cap, h7.sc, h7.nr, (T5.up g6).up g7, g7.same (g6.same (k5 _ _ b3) (fun _ e => nomatch e)) (fun _ e => nomatch e), nr'⟩
end
end My
namespace My
open PySem L2
theorem joinE {te : TE} {g : TG} {rest : TS} {D : Ends} {σ : St} {H : Hp} (R : V → Hp → Prop) (hm : ∀ Q' : VK, (∀ v H', R v H' → Q' v H') → te σ H Q') (hq : ∀ v H', R v H' → g v σ H' (rest D)) : tSeq (tAsg te g) rest D σ H := hm _ hq
def spLaw (K : PySem.W.Frag) (mg : Str → Option Value) (Pt : Addr) : Sp := fun vs H Q _ => ∃ (a : Addr) (ns : List Int), vs = [.ref a] ∧ SqF K H a (ns.map V.int) ∧ ns.length ≤ 63 ∧ H Pt = some (.tbl #[]) ∧ ∀ H', Q (.bl true) H'
section
open Tx
variable {P : Program} {w : World} {K : PySem.W.Frag} {mg : Str → Option Value} {base : Heap} {C cR : Addr}
theorem ok_law {Pt : Addr} (F : FunAt K mg "law" sLaw) (T : Txt K mg C) (X : Br10 K mg cR) {fI : Addr} {fdI : FuncData} (M : Mk K C fI) (GI : FnOk P w K mg base CX0 1 fI fdI ["self", "seal", "depth"] (spTI C)) (bI : Binds K fdI ["self", "seal", "depth"] [])
    (Fsb : FnP P w K mg base 2 "_law_seal_by" ["_law_script"] (spSealBy K mg Pt)) (Fc : FnP P w K mg base 1 "_law_cell_at" ["_law_script", "_law_k"] (spCell K)) (Fd : FnP P w K mg base 1 "_law_draw" ["_law_cell", "_law_k", "_law_many"] spDraw)
    (Ftx : FnP P w K mg base 3 "_law_text" ["_law_cell", "_law_depth", "_law_near"] (spText K)) (Fbh : FnP P w K mg base 1 "_law_behind" ["_law_held", "_law_done"] spBehind) (Fsp : FnP P w K mg base 2 "_law_spoilt" ["_law_text_here", "_law_due", "_law_cell"] spSpoilt)
    (Fch : FnR P w K mg base 5 "changed" ["table", "text", "depth"] (spChd C cR)) (Frt : FnQ P w K mg base 21 "_law_right" ["_law_seal", "_law_table_here", "_law_held", "_law_depth"] (spRight K mg C)) (Mp : MtP P w K mg base C 3 "put" ["self", "key", "value"] (spPut C))
    (ml : mg "len" = none) (mr : mg "range" = none) (mm : mg "min" = none) : FnP P w K mg base 100 "law" ["_law_script"] (spLaw K mg Pt) := by
  refine F.ok scL (fun _ _ _ _ _ _ us hl => match us, hl with | [_], _ => rfl) (fun vs H Q E h => ?_) (fun f0 cdv A outer s H vs Q E hr h => ?_)
  · obtain ⟨a, ns, rfl, _⟩ := h; rfl
  obtain ⟨a, ns, rfl, hq, h63, hP, q⟩ := h
  have nd := scL.nd
  have hu := hu_of hr
  obtain ⟨tt, htt, rtt⟩ := try_ok (outer := outer) (H0 := H) (E := E) hr T X Fch Frt Mp
  refine' ⟨_, pss_cons (ps_set (i := 1) nd rfl (Or.inl rfl) (pe_callN Fsb (hr.mono (by omega)) rfl (pa_cons (pv 0) pa_nil))) <|
    pss_cons (ps_set (i := 2) nd rfl (Or.inr rfl) (pe_op op_add pe_int (pe_op op_mod (pe_callN Fc (hr.mono (by omega)) rfl (pa_cons (pv 0) (pa_cons pe_int pa_nil))) pe_int))) <|
    pss_cons (ps_setComp (iz := 3) (ys := ["_law_script", "_law_depth"]) (js := [0, 2]) ?ok (pi_range1 rfl mr (pa_cons pe_int pa_nil)) (fun _ _ _ => pts_nil) ?he nd rfl (Or.inl rfl) (Or.inl rfl) rfl) <|
    pss_cons (ps_set (i := 4) nd rfl (Or.inl rfl) (pe_make M GI (hr.mono (by omega)) rfl T.mgC bI .nil pass0 (pa_cons (pv 1) (pa_cons (pv 2) pa_nil)))) <|
    pss_cons (ps_set (i := 5) nd rfl (Or.inl rfl) pe_dnewK) <|
    pss_cons (ps_for PassesOwn.never rfl (pi_range1 rfl mr (pa_cons (pe_callB (call_min2 rfl) rfl mm PyProof.Rows.boot_min (pa_cons (pe_callB call_len_seq rfl ml PySem.boot_len (pa_cons (pv 0) pa_nil)) (pa_cons pe_int pa_nil))) pa_nil)) (pg_name (i := 6) nd rfl (Or.inl rfl)) <|
      pss_cons (ps_set (i := 7) nd rfl (Or.inl rfl) (pe_op op_add (pe_ix ix_list (pv 0) (pv 6) (fun _ _ => rfl)) (pe_op op_mul pe_int (pv 6)))) <|
      pss_cons (ps_set (i := 8) nd rfl (Or.inl rfl) (pe_callN Ftx (hr.mono (by omega)) rfl (pa_cons (pv 7) (pa_cons (pv 2) (pa_cons (pv 3) pa_nil))))) <|
      pss_cons (ps_set (i := 9) nd rfl (Or.inl rfl) (pe_ix ix_tup (pv 8) pe_int (fun _ _ => rfl))) <|
      pss_cons (ps_set (i := 10) nd rfl (Or.inl rfl) (pe_callN Fbh (hr.mono (by omega)) rfl (pa_cons (pv 5) (pa_cons (pe_ix ix_tup (pv 8) pe_int (fun _ _ => rfl)) pa_nil)))) <|
      pss_cons (ps_if (pt_cmpR op_eq (pe_callN Fd (hr.mono (by omega)) rfl (pa_cons (pv 7) (pa_cons pe_int (pa_cons pe_int pa_nil)))) pe_int (nomark _))
        (pss_cons (ps_set (i := 11) nd rfl (Or.inl rfl) (pe_callN Fsp (hr.mono (by omega)) rfl (pa_cons (pv 9) (pa_cons (pv 10) (pa_cons (pv 7) pa_nil))))) <|
         pss_cons (ps_set (i := 9) nd rfl (Or.inl rfl) (pe_ix ix_tup (pv 11) pe_int (fun _ _ => rfl))) <|
         pss_one (ps_set (i := 10) nd rfl (Or.inl rfl) (pe_ix ix_tup (pv 11) pe_int (fun _ _ => rfl)))) pss_nil) htt) <|
    pss_one (ps_ret pe_bl), ?rd⟩
  case ok =>
    refine ⟨rfl, rfl, rfl, by decide +kernel, by decide +kernel, rfl, by decide +kernel, same_of (fun p hp => ?_), rfl, fun i y h => ?_, rfl⟩
    · simp only [List.mem_cons, List.not_mem_nil, or_false] at hp
      rcases hp with rfl | rfl <;> rfl
    · match i, h with
      | 0, h => simp at h; subst h; exact ⟨0, rfl, rfl, rfl, rfl⟩
      | 1, h => simp at h; subst h; exact ⟨2, rfl, rfl, rfl, rfl⟩
      | i + 2, h => simp at h
  case he =>
    exact fun _ _ _ => pe_callN Fd (hr.mono (by omega)) rfl (pa_cons (pe_op op_add (pe_callN Fc (hr.mono (by omega)) rfl (pa_cons (pv 1) (pa_cons pe_int pa_nil))) (pv 0)) (pa_cons pe_int (pa_cons (pe_op op_shl pe_int (pv 2)) pa_nil)))
  case rd =>
  refine ⟨_, rfl, a, ns, rfl, hq.sq, hP, fun S f H1 hS hc hk1 => ?_⟩
  have hq1 : SqF K H1 a (ns.map V.int) := by
    rcases hq with ⟨o, h⟩ | h
    · exact .inl ⟨o, hk1 _ _ h (by rintro rfl; rw [hP] at h; cases h)⟩
    · exact .inr h
  refine ⟨_, rfl, a, ns, 0, rfl, hq1.sq, by omega, fun v0 => ⟨_, _, rfl, rfl, (by show (0 : Int) < 16; decide), _, _, rfl, rfl, ?_⟩⟩
  obtain ⟨D, eD, D1, D16⟩ : ∃ D : Nat, (1 : Int) + v0 % 16 = (D : Int) ∧ 1 ≤ D ∧ D ≤ 16 := ⟨(1 + v0 % 16).toNat, by omega, by omega, by omega⟩
  dsimp only [gName]
  rw [eD]
  have e2D : (1 : Int) * 2 ^ ((D : Int)).toNat = 2 ^ D := by rw [Int.one_mul, Int.toNat_natCast]
  have p2D : (0 : Int) < 2 ^ D := by
    have : ((2 ^ D : Nat) : Int) = (2 : Int) ^ D := by norm_cast
    have h1 := Nat.one_le_two_pow (n := D)
    omega
  -- the near keys
  refine ⟨4, rfl, by decide, by decide, ?_⟩
  refine comp_range (n := 4) (fun Da i ys H' => (∀ b o, H1 b = some o → H' b = some o) ∧ H' Da = some (.lst ys) ∧ ∃ ks : List Int, ys = ks.map V.int ∧ ks.length = i ∧ ∀ k ∈ ks, Of k D) (fun Da hD => ⟨fun b o e => by rw [upd_ne (ne_of_none e hD)]; exact e, upd_same, [], rfl, rfl, by simp⟩) ?_ ?_
  · rintro Da i ys H' Qb hD hi ⟨kp, hDa, ks, rfl, kl, hks⟩ hQ
    have hq' : SqF K H' a (ns.map V.int) := by
      rcases hq1 with ⟨o, h⟩ | h
      · exact .inl ⟨o, kp _ _ h⟩
      · exact .inr h
    refine ⟨_, rfl, a, ns, 1, rfl, hq'.sq, by omega, fun v1 => ⟨_, rfl, _, _, rfl, rfl, _, rfl, _, _, rfl, rfl, ⟨by omega, by omega, by decide⟩, ?_⟩⟩
    dsimp only
    rw [e2D]
    refine ⟨_, 5, _, rfl, by decide, p2D, fun v2 H2 a2 b2 x2 => hQ _ _ (x2 _ _ hDa) (by rw [List.length_map, sizeLine_eq]; omega) ⟨fun b o e => ?_, upd_same, ks ++ [v2], by rw [List.map_append]; rfl, by rw [List.length_append, kl]; rfl, fun k hk => ?_⟩⟩
    · rw [upd_ne (ne_of_none e hD)]; exact x2 _ _ (kp _ _ e)
    · rcases List.mem_append.mp hk with z | z
      · exact hks k z
      · rw [List.mem_singleton.mp z]; exact ⟨a2, b2⟩
  rintro aN ys H2 nN ⟨k2, hN2, ks, rfl, kl, hks⟩
  dsimp only [gName]
  -- the table, and what is held
  refine ⟨_, rfl, _, rfl, fun x0 dx0 nx0 ndx0 nex0 => ⟨x0, dx0, f, D, rfl, upd_same, fun d0 H3 nd0 T0 k3 => ⟨rfl, ?_⟩⟩⟩
  have e3 : ∀ b o, H2 b = some o → H3 b = some o := fun b o h => k3 b o (by rw [upd_ne (ne_of_none h nx0), upd_ne (ne_of_none h ndx0)]; exact h) (ne_of_none h nx0)
  dsimp only [gName]
  intro h0 nh0
  dsimp only [gName]
  have k4 : ∀ b o, H3 b = some o → upd H3 h0 (.dK []) b = some o := fun b o e => by rw [upd_ne (ne_of_none e nh0)]; exact e
  have lw : Lw K mg C S a f aN x0 d0 h0 ns ks D 9900000 (upd H3 h0 (.dK [])) [] := by
    have G : Gr S 0 H1 (upd H3 h0 (.dK [])) := gr_ext hS.told fun b o e => k4 _ _ (e3 _ _ (k2 _ _ e))
    obtain ⟨⟨dy0, t01⟩, t02⟩ := T0
    exact ⟨hS.up G.gn, hc.go G.gn (by omega), hq1.up G.gn, k4 _ _ (e3 _ _ hN2), ⟨⟨dy0, k4 _ _ t01⟩, k4 _ _ t02⟩, upd_same, .nil, by simp⟩
  -- the turns
  refine ⟨_, rfl, a, _, rfl, .inl lw.sc.sq, _, _, rfl, ?_⟩
  rw [List.length_map, show (if (30 : Int) < (ns.length : Int) then (30 : Int) else (ns.length : Int)) = ((min 30 ns.length : Nat) : Int) by split <;> omega]
  refine ⟨_, rfl, by omega, by omega, ?_⟩
  rw [show (((min 30 ns.length : Nat) : Int)).toNat = min 30 ns.length from rfl]
  refine for_range (n := min 30 ns.length) (fun i σ H' => ∃ x d hd kvs, ∃ o6 o7 o8 o9 o10 o11 o12 o13 o14 : Option V, Lw K mg C S a f aN x d hd ns ks D (9900000 - 30000 * i) H' kvs ∧ σ = lσ a f D aN x hd o6 o7 o8 o9 o10 o11 o12 o13 o14)
    ⟨x0, d0, h0, [], none, none, none, none, none, none, none, none, none, lw, rfl⟩ ?_ (fun σ H' _ => q H')
  rintro i σ H' hi ⟨x, d, hd, kvs, o6, o7, o8, o9, o10, o11, o12, o13, o14, h, rfl⟩
  have e0 : (0 : Int) + (i : Int) = (i : Int) := by omega
  have hin : i < ns.length := by omega
  have eat : atI (ns.map V.int) ((i : Nat) : Int) = some (.int ns[i]) := atI_nat (by rw [List.getElem?_map, List.getElem?_eq_getElem hin]; rfl)
  have hln := h.w.len
  dsimp only [gName]
  refine ⟨_, rfl, _, rfl, a, _, _, _, rfl, rfl, h.sc.sq, by rw [e0]; exact eat, _, rfl, _, _, rfl, rfl, .inl ⟨by decide, by decide⟩, _, _, rfl, rfl, ?_⟩
  dsimp only [gName]
  generalize ns[i] + 977 * (0 + (i : Int)) = cell
  refine ⟨_, rfl, _, rfl, _, rfl, cell, D, aN, ks, rfl, h.nr, by omega, hks, D1, D16, fun p l H4 rows ws hp hl pr rl hall x4 => ?_⟩
  have h4 := h.ext x4
  dsimp only [gName]
  refine ⟨_, rfl, p, _, 0, _, rfl, rfl, .inl (.inl hp), atI_nat (j := 0) rfl, ?_⟩
  dsimp only [gName]
  have es := split_rows fun r hr => (hall r hr).2.1
  have hjl : (Txt.join "\n" rows).length ≤ 1000 := by
    rw [join_nl]
    have := join_len rows (fun z hz => (hall z hz).1)
    omega
  have hgo : goR D 0 (Txt.split (Txt.join "\n" rows) "\n") kvs = goS (stepsOf D 0 rows) kvs := by
    rw [es]
    split
    · next z =>
      obtain ⟨o, eo, _⟩ := rd_empty ks D
      have : readR "" D = some none := read_empty (n := 0) (by decide +kernel)
      rw [z, goR_cons, this]; rfl
    · exact go_steps 0 rows kvs fun r hr => (hall r hr).2.2.ne
  have hall' : ∀ r ∈ Txt.split (Txt.join "\n" rows) "\n", r.length ≤ 100 ∧ Vis126 r ∧ RdK ks D r := by
    rw [es]
    intro r hr
    split at hr
    · rw [List.mem_singleton.mp hr]; exact ⟨by decide, by decide +kernel, rd_empty ks D⟩
    · exact hall r hr
  have hsl : (Txt.split (Txt.join "\n" rows) "\n").length ≤ 3 := by
    rw [es]
    split
    · decide
    · exact rl
  have sln := steps_len D 0 rows
  refine joinE (fun v H5 => (∀ b o, H4 b = some o → H5 b = some o) ∧ DueA H5 (goR D 0 (Txt.split (Txt.join "\n" rows) "\n") kvs) v) (fun Q' hQ => ?_) ?_
  · refine ⟨_, rfl, _, rfl, p, _, 1, _, rfl, rfl, .inl (.inl hp), atI_nat (j := 1) rfl, hd, l, kvs, stepsOf D 0 rows, ws, rfl, h4.h, by omega, hl, pr, by omega, ?_⟩
    rw [hgo] at hQ
    cases e : goS (stepsOf D 0 rows) kvs with
    | inl m => rw [e] at hQ; exact fun H5 x5 => hQ _ _ ⟨x5, rfl⟩
    | inr kv => rw [e] at hQ; exact fun b H5 hb x5 _ => hQ _ _ ⟨x5, b, rfl, hb⟩
  generalize Txt.join "\n" rows = t at hjl hall' hsl hgo
  rintro du H5 ⟨x5, hdu⟩
  have h5 := h4.ext x5
  dsimp only [gName]
  have near : ∀ kv, goR D 0 (Txt.split t "\n") kvs = .inr kv → Near ks D kv := fun kv e => goR_near _ _ _ _ (fun r hr => (hall' r hr).2.2) h.w e
  refine joinS (fun σ H6 => ∃ (t' : Str) (du' : V) (bo : Option V) (r : Sum Nat (List (Key × V))), Lw K mg C S a f aN x d hd ns ks D (9900000 - 30000 * i) H6 kvs ∧ TxOk ks D kvs H6 t' r du' ∧ σ = lσ a f D aN x hd (some (.int (0 + (i : Int)))) (some (.int cell)) (some (.ref p)) (some (.str t')) (some du') bo o12 o13 o14) (fun D' hD' => ?_) ?_
  · refine ⟨_, rfl, cell, 8, 6, rfl, by decide, by decide, fun v H6 _ _ x6 => ⟨rfl, _, rfl, ?_⟩⟩
    have x6 : ∀ b o, H5 b = some o → H6 b = some o := x6
    refine ite2 (fun _ => ?_) (fun _ => hD' _ _ ⟨t, du, o11, _, h5.ext x6, ⟨rfl, hdu.up x6, near, by rw [sizeLine_eq]; omega, by omega, fun r hr => ⟨by have := (hall' r hr).1; omega, vis_asc (hall' r hr).2.1⟩⟩, rfl⟩)
    refine ⟨_, rfl, _, rfl, _, rfl, t, du, cell, _, rfl, hdu.up x6, by rw [sizeLine_eq]; omega, by omega, fun r hr => (hall' r hr).1, fun p2 H7 z at_ ha hz zl zv hdz x7 => ?_⟩
    obtain ⟨du', hdu', hp2⟩ := hdz
    dsimp only [gName]
    refine ⟨_, rfl, p2, _, 0, _, rfl, rfl, .inl (.inl hp2), atI_nat (j := 0) rfl, ?_⟩
    dsimp only [gName]
    refine ⟨_, rfl, p2, _, 1, _, rfl, rfl, .inl (.inl hp2), atI_nat (j := 1) rfl, ?_⟩
    have hz2 : ∀ r ∈ (Txt.split t "\n").take at_ ++ z :: (Txt.split t "\n").drop at_, r.length ≤ 100 ∧ Vis126 r := fun r hr => by
      rcases List.mem_append.mp hr with m | m
      · exact ⟨(hall' r (List.mem_of_mem_take m)).1, (hall' r (List.mem_of_mem_take m)).2.1⟩
      · rcases List.mem_cons.mp m with rfl | m
        · exact ⟨zl, zv⟩
        · exact ⟨(hall' r (List.mem_of_mem_drop m)).1, (hall' r (List.mem_of_mem_drop m)).2.1⟩
    have ln2 : ((Txt.split t "\n").take at_ ++ z :: (Txt.split t "\n").drop at_).length ≤ 4 := by rw [List.length_append, List.length_take, List.length_cons, List.length_drop]; omega
    have es2 := split_rows fun r hr => (hz2 r hr).2
    rw [if_neg (by simp)] at es2
    have jl2 := join_len _ fun r hr => (hz2 r hr).1
    refine hD' _ _ ⟨_, du', _, spoil (goR D 0 (Txt.split t "\n") kvs) at_, (h5.ext x6).ext x7, ⟨?_, hdu', ?_, ?_, ?_, ?_⟩, rfl⟩
    · rw [es2, spl_go (hz D) at_ _ 0 kvs (fun r hr => (hall' r hr).2.2.ne) ha, Nat.zero_add]
    · intro kv e
      unfold spoil at e
      split at e
      · split at e <;> cases e
      · cases e
    · rw [join_nl, sizeLine_eq]; omega
    · rw [es2]; omega
    · rw [es2]; exact fun r hr => ⟨by have := (hz2 r hr).1; omega, vis_asc (hz2 r hr).2⟩
  rintro _ H6 ⟨t', du', bo, r, h6, tx, rfl⟩
  refine rtt _ S a f aN x d hd ns ks D (9900000 - 30000 * (i + 1)) H6 kvs _ _ _ _ _ _ _ t' du' r (h6.go (.refl h6.sl.told) (by omega)) tx kl hks D16 fun H9 x' d' hd' kvs' e' ot' th' h9 => ⟨x', d', hd', kvs', _, _, _, _, _, _, _, _, _, h9, rfl⟩
end
end My
namespace My
open PySem L2
section
variable {P : Program} {w : World} {K : PySem.W.Frag} {mg : Str → Option Value} {base : Heap} {C cE cB cR : Addr}
structure Ers10 (K : PySem.W.Frag) (mg : Str → Option Value) (cR cB cE : Addr) : Prop where
  x : Br10 K mg cR
  st : XSet K cR "row"
  rd : ClsRd K cB
  hB : mg "BookError" = some (.ref cB)
  xi : ∃ fi, XInit K cR fi ∧ PySem.W.findIn K (.ref cR) "__init__" = some (some (.ref fi))
  fg : ∃ t, mg "FIGURES" = some (.str "0123456789" t)
  mf : ∃ t, mg "MOST_FIGURES" = some (.int 9 t)
  n : Npl K mg cE
theorem br_ok (X : Ers10 K mg cR cB cE) (M : MethAt K cR "__init__" "BadRow.__init__" mBRInit) : BrOk P w K mg base cR := by
  obtain ⟨f, fd, h1, h2, h3⟩ := ok_brinit (P := P) (w := w) (mg := mg) (base := base) M X.x.xg.own X.st X.rd X.hB
  obtain ⟨fi, xi, e⟩ := X.xi
  have ef := h1.at_.symm.trans e
  injection ef with ef
  injection ef with ef
  injection ef with ef
  subst ef
  exact ⟨X.x.hR, f, fd, xi, h2, h3⟩
theorem br_okH (X : Ers10 K mg cR cB cE) (M : MethAt K cR "__init__" "BadRow.__init__" mBRInit) : BrOkH P w K mg base cR := by
  obtain ⟨f, fd, h1, h2, h3⟩ := ok_brinitH (P := P) (w := w) (mg := mg) (base := base) M X.x.xg.own X.st X.rd X.hB
  obtain ⟨fi, xi, e⟩ := X.xi
  have ef := h1.at_.symm.trans e
  injection ef with ef
  injection ef with ef
  injection ef with ef
  subst ef
  exact ⟨X.x.hR, f, fd, xi, h2, h3⟩
theorem all_ok {c0 Pt : Addr} (kb : K.In base) (nb : base.Ns mainGlobals mg) (X0 : Ext0 K mg base c0 Pt)
    (F_none : FunAt K mg "none_seal" sNone) (F_ind : FunAt K mg "in_depth" sInD) (F_row : FunAt K mg "row_seal" sRow) (F_fork : FunAt K mg "fork_seal" sFork) (F_tabs : FunAt K mg "table_seal" sTabS) (F_part : FunAt K mg "part_of" sPartOf) (F_top : FunAt K mg "top_of_part" sTopPart)
    (F_isk : FunAt K mg "is_key" sIsKey) (F_rdk : FunAt K mg "read_key" sReadKey) (F_rda : FunAt K mg "read_at" sReadAt) (F_tks : FunAt K mg "take_step" sTakeS) (F_chg : FunAt K mg "changed" sChanged)
    (F_cell : FunAt K mg "_law_cell_at" sCell) (F_plain : FunAt K mg "_law_plain" sPlain) (F_turned : FunAt K mg "_law_turned" sTurned) (F_numbering : FunAt K mg "_law_numbering" sNumbering) (F_sealby : FunAt K mg "_law_seal_by" sSealBy)
    (F_draw : FunAt K mg "_law_draw" sDraw) (F_word : FunAt K mg "_law_word" sWord) (F_lpart : FunAt K mg "_law_part" sLpart) (F_ltab : FunAt K mg "_law_table" sLtab) (F_text : FunAt K mg "_law_text" sLtext) (F_behind : FunAt K mg "_law_behind" sBehind) (F_spoilt : FunAt K mg "_law_spoilt" sSpoilt) (F_right : FunAt K mg "_law_right" sRight) (F_law : FunAt K mg "law" sLaw)
    (ml : mg "len" = none) (mr : mg "range" = none) (ms : mg "str" = none) (mso : mg "sorted" = none) (mm : mg "min" = none) (mn : mg "int" = none) (ma : mg "all" = none) (me : mg "enumerate" = none)
    (T : Txt K mg C) (M : ∃ fI, Mk K C fI) (M_init : MethD K C "__init__" "Table.__init__" mInit [8]) (M_check : MethAt K C "check" "Table.check" mCheck) (M_put : MethAt K C "put" "Table.put" mPut) (M_cut : MethAt K C "cut" "Table.cut" mCut)
    (M_head : MethAt K C "head" "Table.head" mHead) (M_twin : MethAt K C "twin" "Table.twin" mTwin) (M_rows : MethAt K C "rows" "Table.rows" mRows) (X : Ers10 K mg cR cB cE) (M_br : MethAt K cR "__init__" "BadRow.__init__" mBRInit) : FnP P w K mg base 100 "law" ["_law_script"] (spLaw K mg Pt) := by
  obtain ⟨tf, fg⟩ := X.fg
  obtain ⟨tm, mf⟩ := X.mf
  have B := br_ok (P := P) (w := w) (base := base) X M_br
  have BH := br_okH (P := P) (w := w) (base := base) X M_br
  have Sl := seal_ok (P := P) (w := w) (base := base) (ok_plain F_plain) (ok_turned F_turned) ml
  have Cl := ok_cell (P := P) (w := w) (base := base) F_cell ml
  have Pa := ok_part (P := P) (w := w) (base := base) F_part
  have Tp := ok_topP F_top (ok_none F_none Sl) (ok_row F_row Sl) (ok_fork F_fork Sl) Pa ml
  have TpA : FnQ P w K mg base 19 "top_of_part" ["seal", "rows", "bits"] (spTopA K mg) := FnQ.any fun b hb => (Tp b).mono (by omega)
  have LpA : FnQ P w K mg base 19 "_law_part" ["_law_seal", "_law_rows", "_law_level"] (spTopA K mg) := FnQ.any fun b hb => (ok_lpart F_lpart Sl ml b (by omega)).mono (by omega)
  have In := ok_ind (P := P) (w := w) (base := base) F_ind
  have Ck := ok_chk M_check T In
  have Rs := ok_rows (P := P) (w := w) (base := base) M_rows T mso
  have Hd := ok_thead M_head T (ok_tabS F_tabs Sl) TpA Rs
  have CkN := ok_chkN M_check T X.n In
  have Dr := ok_draw (P := P) (w := w) (base := base) F_draw
  have Rg := ok_right F_right T Rs Hd (ok_ltab F_ltab Sl LpA mso) mso
  have Ik := ok_iskey (P := P) (w := w) (base := base) F_isk fg mf ml ma
  have Rk := ok_readkey F_rdk Ik In B mn
  have Ra := ok_readat F_rda Rk B ml
  have St := ok_step F_tks T X.n BH (ok_putN M_put T CkN) (ok_cutN M_cut T X.n CkN)
  obtain ⟨fI, M⟩ := M
  obtain ⟨fI', fdI, hm, FI⟩ := M_init
  have e := M.init.symm.trans hm.at_
  cases e
  have GI := ok_tinit (P := P) (w := w) (base := base) FI T
  have bI := FI.binds (ps := ["self", "seal", "depth"]) fun _ _ _ _ _ _ _ _ us hl => match us, hl with | [_, _, _], _ => ⟨_, rfl, rfl⟩
  have Tw := ok_twin M_twin T M GI bI X.x.md
  have Ch := ok_changed F_chg T Tw Ra St me
  exact ok_law F_law T X.x M GI bI (ok_sealby F_sealby Cl (ok_numbering F_numbering kb nb X0) F_plain F_turned) Cl Dr (ok_text F_text Dr (ok_word F_word Dr ml mr) ml mr ms) (ok_behind F_behind X.x.md) (ok_spoilt F_spoilt Dr ml X.x.mi X.x.md X.x.kd X.x.ki) Ch Rg (ok_put M_put T Ck) ml mr mm
end
theorem cls_mk {K : PySem.W.Frag} {mg : Str → Option Value} {h : Heap} {C fI : Addr} (X : K.In h) (G : h.Ns mainGlobals mg) (aC : PySem.W.nsIn K mainGlobals "Table" = some (some (.ref C)))
    (pg : PySem.W.plainGet K C Str.empty = true) (hd : PySem.W.hasDictIn K C = true) (po : PySem.W.plainOver K C = true) (sa : PySem.W.findIn K (.ref C) "__setattr__" = some (some (.builtin "object.__setattr__"))) (mk : PySem.W.makesIn K C = true) (kc : PySem.W.keepIn K (.ref C) = true)
    (nS : PySem.W.findIn K (.ref C) "seal" = some none) (nD : PySem.W.findIn K (.ref C) "depth" = some none) (nH : PySem.W.findIn K (.ref C) "held" = some none)
    (aI : PySem.W.findIn K (.ref C) "__init__" = some (some (.ref fI))) (iI : PySem.W.isFn K (.ref fI) = true)
    (M_init : MethD K C "__init__" "Table.__init__" mInit [8]) (M_check : MethAt K C "check" "Table.check" mCheck) (M_put : MethAt K C "put" "Table.put" mPut) (M_cut : MethAt K C "cut" "Table.cut" mCut)
    (M_head : MethAt K C "head" "Table.head" mHead) (M_twin : MethAt K C "twin" "Table.twin" mTwin) (M_rows : MethAt K C "rows" "Table.rows" mRows) :
    ∃ C, Txt K mg C ∧ (∃ fI, Mk K C fI) ∧ MethD K C "__init__" "Table.__init__" mInit [8] ∧ MethAt K C "check" "Table.check" mCheck ∧ MethAt K C "put" "Table.put" mPut ∧ MethAt K C "cut" "Table.cut" mCut ∧ MethAt K C "head" "Table.head" mHead ∧ MethAt K C "twin" "Table.twin" mTwin ∧ MethAt K C "rows" "Table.rows" mRows :=
  ⟨C, ⟨⟨pg, hd, po, sa⟩, nS, nD, nH, PySem.W.mg_of X G aC⟩, ⟨fI, mk, aI, iI, kc⟩, M_init, M_check, M_put, M_cut, M_head, M_twin, M_rows⟩
theorem reads_mk {K : PySem.W.Frag} {B : Addr} {d : Option Addr} {cd : ClassData} {sl : Array (Option Value)} (l : K.lookup B = some ⟨.type "type", d, .cls cd, sl⟩) (t1 : PySem.W.nsIn K cStatics "thirdparty.any" = some none)
    (t3 : PySem.W.findIn K (.type "type") "__getattribute__" = some (some (.builtin "type.__getattribute__"))) : PySem.W.readsIn K B (.type "type") = true := by
  unfold PySem.W.readsIn
  have e2 : PySem.W.typeIn K (.ref B) = some (.type "type") := by show Option.map (fun x => x.cls) (List.lookup B K) = _; rw [show List.lookup B K = _ from l]; rfl
  have e5 : PySem.W.subIn K (.type "type") (.type "type") = some true := by unfold PySem.W.subIn; kernel_rfl
  rw [t1, e2, t3, e5, if_neg (by decide)]
  simp
theorem find_mk {K : PySem.W.Frag} {B : Addr} {a1 g1 ta : Value} (f1 : PySem.W.findIn K (.type "type") "__init__" = some (some a1)) (s1 : PySem.W.specialIn K a1 "__get__" = some (some g1)) (tk1 : PySem.W.takesIn K a1 = some false)
    (f2 : PySem.W.findIn K (.ref B) "__init__" = some (some (.builtin "ValueError.__init__"))) (t : PySem.W.typeIn K (.builtin "ValueError.__init__") = some ta) (b : PySem.W.bareKinds.contains ta = true) :
    PySem.W.findCls K (.ref B) (.type "type") "__init__" = some (.val (.builtin "ValueError.__init__")) := by
  have hh : PySem.Builtin.heldUnderItsOwnName "__init__" (.builtin "ValueError.__init__") = false := by kernel_rfl
  unfold PySem.W.findCls
  rw [f1]
  show (PySem.W.specialIn K a1 "__get__").bind _ = _
  rw [s1]
  show (PySem.W.takesIn K a1).bind _ = _
  rw [tk1]
  show (PySem.W.findIn K (.ref B) "__init__").bind _ = _
  rw [f2]
  show (if PySem.Builtin.heldUnderItsOwnName "__init__" (.builtin "ValueError.__init__") = true then none else _) = _
  rw [hh, if_neg (by simp)]
  rw [t]
  show (if PySem.W.bareKinds.contains ta = true then _ else _) = _
  rw [if_pos b]
theorem kit_id {K : PySem.W.Frag} : PySem.W.kitOne K (.type "int") (.type "dict") = some false := by unfold PySem.W.kitOne; rw [if_neg (by simp)]; kernel_rfl
theorem kit_dd {K : PySem.W.Frag} : PySem.W.kitOne K (.type "dict") (.type "dict") = some true := by unfold PySem.W.kitOne; rw [if_pos (by simp)]
theorem br_mk {K : PySem.W.Frag} {mg : Str → Option Value} {h : Heap} (X : K.In h) (G : h.Ns mainGlobals mg) {C cB cE N NE fi : Addr} {nm q nmE qE : Str} {bs bsE : List Value} {sn snE : List Str} {sub subE : List Value} {ab abE hdE : Bool} {col colE : Option Bool} {dd ddE dB dn1 dn2 dn3 : Option Addr} {k0 k1 k2 k3 k5 j0 j1 j2 j3 j5 : Option Value} {cdB : ClassData} {slB sn1 sn2 sn3 : Array (Option Value)} {cn1 cn2 cn3 : Value} {es1 es2 es3 : Array DictEntry} {ep1 ep2 ep3 : Nat}
    {fo' : Obj} {tf tm : Tok} {a1' g1 : Value}
    (a1 : PySem.W.nsIn K mainGlobals "BadRow" = some (some (.ref C))) (a2 : PySem.W.nsIn K mainGlobals "BookError" = some (some (.ref cB))) (a4 : PySem.W.nsIn K mainGlobals "NoPlace" = some (some (.ref cE)))
    (lB : K.lookup cB = some ⟨.type "type", dB, .cls cdB, slB⟩)
    (lk : K.lookup C = some (excClassObj nm q C N bs (.ref cB :: bmVE) true sn sub ab col dd k0 k1 k2 k3 k5 "ValueError.__new__"))
    (l1 : K.lookup N = some ⟨cn1, dn1, .dict es1 ep1, sn1⟩) (l2 : K.lookup cdB.ns = some ⟨cn2, dn2, .dict es2 ep2, sn2⟩) (e1 : (es1.toList.all fun e => match e.key with | .str _ _ => true | _ => false) = true) (e2 : (es2.toList.all fun e => match e.key with | .str _ _ => true | _ => false) = true)
    (b1 : PySem.W.nsIn K N "__init__" = some (some (.ref fi))) (f1 : PySem.W.findIn K (.ref C) "__init__" = some (some (.ref fi))) (lf : K.lookup fi = some fo') (cf : fo'.cls = .type "function") (kc : PySem.W.keepIn K (.ref C) = true)
    (c1 : PySem.W.nsIn K cdB.ns "__init__" = some none) (c2 : PySem.W.nsIn K cdB.ns "__getattribute__" = some none) (c3 : PySem.W.nsIn K cdB.ns "__getattr__" = some none) (c4 : PySem.W.nsIn K cdB.ns "args" = some none)
    (ga : PySem.W.findIn K (.ref C) "__getattribute__" = some (some (.builtin "BaseException.__getattribute__"))) (gn : PySem.W.findIn K (.ref C) "__getattr__" = some none)
    (fo : PySem.W.findIn K (.ref C) "__class__" = some (some (.builtin "object.__class__"))) (sp : PySem.W.specialIn K (.builtin "object.__class__") "__get__" = some (some (.builtin "getset_descriptor.__get__")))
    (tk : PySem.W.takesIn K (.builtin "object.__class__") = some true) (mo : PySem.W.mroIn K C (.type "object") = some true) (sa : PySem.W.findIn K (.ref C) "__setattr__" = some (some (.builtin "object.__setattr__"))) (no : PySem.W.findIn K (.ref C) "row" = some none)
    (mi : PySem.W.nsIn K mainGlobals "isinstance" = some none) (md : PySem.W.nsIn K mainGlobals "dict" = some none)
    (mf : PySem.W.nsIn K mainGlobals "FIGURES" = some (some (.str "0123456789" tf))) (mm : PySem.W.nsIn K mainGlobals "MOST_FIGURES" = some (some (.int 9 tm)))
    (sg : PySem.W.specialIn K (.ref cB) "__getattribute__" = some (some (.builtin "type.__getattribute__"))) (t1 : PySem.W.nsIn K cStatics "thirdparty.any" = some none) (t3 : PySem.W.findIn K (.type "type") "__getattribute__" = some (some (.builtin "type.__getattribute__")))
    (g2 : PySem.W.findIn K (.type "type") "__init__" = some (some a1')) (g3 : PySem.W.specialIn K a1' "__get__" = some (some g1)) (g4 : PySem.W.takesIn K a1' = some false) (g5 : PySem.W.findIn K (.ref cB) "__init__" = some (some (.builtin "ValueError.__init__"))) (g6 : PySem.W.typeIn K (.builtin "ValueError.__init__") = some (.type "wrapper_descriptor"))
    (lE : K.lookup cE = some (excClassObj nmE qE cE NE bsE (.ref cB :: bmVE) hdE snE subE abE colE ddE j0 j1 j2 j3 j5 "ValueError.__new__")) (l3 : K.lookup NE = some ⟨cn3, dn3, .dict es3 ep3, sn3⟩) (e3 : (es3.toList.all fun e => match e.key with | .str _ _ => true | _ => false) = true)
    (d1 : PySem.W.nsIn K NE "__init__" = some none) (d2 : PySem.W.nsIn K NE "__getattribute__" = some none) (d3 : PySem.W.nsIn K NE "__getattr__" = some none) (d4 : PySem.W.nsIn K NE "args" = some none)
    (gE : PySem.W.findIn K (.ref cE) "__getattribute__" = some (some (.builtin "BaseException.__getattribute__"))) (hE : PySem.W.findIn K (.ref cE) "__getattr__" = some none) (oE : PySem.W.findIn K (.ref cE) "__class__" = some (some (.builtin "object.__class__"))) (mE : PySem.W.mroIn K cE (.type "object") = some true) (kE : PySem.W.keepIn K (.ref cE) = true)
    (M : MethAt K C "__init__" "BadRow.__init__" mBRInit) : ∃ C cB cE, Ers10 K mg C cB cE ∧ MethAt K C "__init__" "BadRow.__init__" mBRInit := by
  obtain ⟨cd, cl, ch, cm⟩ : ∃ cd, PySem.W.clsIn K C = some cd ∧ cd.hasDict = true ∧ cd.mro = .ref C :: .ref cB :: bmVE := by
    unfold PySem.W.clsIn
    rw [show List.lookup C K = _ from lk]
    exact ⟨_, rfl, rfl, rfl⟩
  have tq : tailQ K bmVal (.ref cB :: bmVE) = true := tailQ_one lB ⟨nsOk_of l2 e2, c1, c2, c3, c4⟩
  have ow : XOwn K C := ⟨_, _, _, _, _, _, _, _, _, _, _, _, _, _, _, _, lk, tq, by simp⟩
  refine ⟨C, cB, cE, ⟨⟨⟨ow, ⟨cd, cl, ch⟩, ga, gn, fo, sp, tk, mo⟩, no, PySem.W.mg_of X G a1, PySem.W.mg_none_of X G mi, PySem.W.mg_none_of X G md, kit_dd, kit_id⟩,
    ⟨⟨cd, cl, ch, fun x => ?_⟩, mo, sa, no⟩, ⟨sg, reads_mk lB t1 t3, find_mk g2 g3 g4 g5 g6 (by decide)⟩, PySem.W.mg_of X G a2, ⟨fi, ⟨⟨_, _, _, _, _, _, _, _, _, _, _, _, _, _, _, _, lk, tq, by simp, nsOk_of l1 e1, b1⟩, ⟨_, lf, cf⟩, kc⟩, f1⟩, ⟨tf, PySem.W.mg_of X G mf⟩, ⟨tm, PySem.W.mg_of X G mm⟩,
    ⟨xcls_mk lE (QuietAt.q ⟨nsOk_of l3 e3, d1, d2, d3, d4⟩) tq (by simp) gE hE oE sp tk mE, kE, PySem.W.mg_of X G a4⟩⟩, M⟩
  rw [cm, refuseLoop_ref, refuseLoop_ref]
  exact PySem.F.store_ValueError.passes _
end My
namespace PySem.W.Fast
def tw6686183547098662280 := ()
def tw15072563861567956093 := ()
def tw11542637550433683670 := ()
def tw1132482199193205120 := ()
def tw10236697122922391653 := ()
def tw8538563224685417984 := ()
def tw6673455138447270981 := ()
def tw875807975154960580 := ()
def tw2157258204568556330 := ()
def tw5693557455490732477 := ()
def tw13242888205451948393 := ()
def tw9943458991571219885 := ()
def tw7932278773687241696 := ()
def tw2834499074153823538 := ()
def tw8760796257845954993 := ()
def tw8722462194010048953 := ()
def tw2771753123284698020 := ()
def tw5917020971873315833 := ()
def tw11607278354150831411 := ()
def tw16127338672519486464 := ()
def tw11779117804432424512 := ()
def tw15615725843640833796 := ()
def tw101080057431136437 := ()
def tw930412068516023083 := ()
def tw4454128409657785397 := ()
def tw13295971930556781971 := ()
def tw7064086748758142825 := ()
def tw1392473107993471792 := ()
def tw3484764149779502661 := ()
def tw12740080829181068695 := ()
def tw14912959611466583409 := ()
def tw372711166459341667 := ()
def tw1722204433730366225 := ()
def tw14737944701710079647 := ()
def tw2938135139584487504 := ()
def tw10812343055020806650 := ()
def tw1154938274787853090 := ()
def tw8079923998359344858 := ()
def tw8696817181526288121 := ()
def tw9029746379581622708 := ()
end PySem.W.Fast
open PySem PySem.W PyProof.Rows
set_option maxRecDepth 100000 in
set_option maxHeartbeats 0 in
theorem PySem.Challenge.cw_growbook_k10_changed_holds : PySem.Challenge.rw_growbook_k10_changed.Holds := by
  w_on; o_law; k_head; (case hw => w_witness2)
  k_fill
  refine' L2.walk_ofT (l := PySem.Challenge.rw_growbook_k10_changed) (n := 63) (k := 100) (x := "_law_script") (xn := "_law_numbering") (sp := My.spLaw) rfl (by decide) rfl ⟨rfl, by decide, by decide⟩ (fun w h Y => PySem.W.km_in_of Y) rfl ?ht ?hnt ?F ?S
  case ht =>
    intro w
    refine' L2.tabIn_mk ?a ?l ?c ?lc ?v
    (case a => k_is); (case l => k_is); (case c => exact rfl); (case lc => k_is); (case v => exact rfl)
  case hnt => intro w; kernel_rfl
  case F =>
    intro w mg fa h KX G hmg TB
    have F_none : L2.FunAt (L2.KOf KX) mg "none_seal" My.sNone := by
      dsimp only [L2.KOf]
      refine' L2.funAt_mk KX G ?a ?l ?c ?k
      case a | l | c | k => k_is
    have F_ind : L2.FunAt (L2.KOf KX) mg "in_depth" My.sInD := by
      dsimp only [L2.KOf]
      refine' L2.funAt_mk KX G ?a ?l ?c ?k
      case a | l | c | k => k_is
    have F_row : L2.FunAt (L2.KOf KX) mg "row_seal" My.sRow := by
      dsimp only [L2.KOf]
      refine' L2.funAt_mk KX G ?a ?l ?c ?k
      case a | l | c | k => k_is
    have F_fork : L2.FunAt (L2.KOf KX) mg "fork_seal" My.sFork := by
      dsimp only [L2.KOf]
      refine' L2.funAt_mk KX G ?a ?l ?c ?k
      case a | l | c | k => k_is
    have F_tabs : L2.FunAt (L2.KOf KX) mg "table_seal" My.sTabS := by
      dsimp only [L2.KOf]
      refine' L2.funAt_mk KX G ?a ?l ?c ?k
      case a | l | c | k => k_is
    have F_part : L2.FunAt (L2.KOf KX) mg "part_of" My.sPartOf := by
      dsimp only [L2.KOf]
      refine' L2.funAt_mk KX G ?a ?l ?c ?k
      case a | l | c | k => k_is
    have F_top : L2.FunAt (L2.KOf KX) mg "top_of_part" My.sTopPart := by
      dsimp only [L2.KOf]
      refine' L2.funAt_mk KX G ?a ?l ?c ?k
      case a | l | c | k => k_is
    have F_isk : L2.FunAt (L2.KOf KX) mg "is_key" My.sIsKey := by
      dsimp only [L2.KOf]
      refine' L2.funAt_mk KX G ?a ?l ?c ?k
      case a | l | c | k => k_is
    have F_rdk : L2.FunAt (L2.KOf KX) mg "read_key" My.sReadKey := by
      dsimp only [L2.KOf]
      refine' L2.funAt_mk KX G ?a ?l ?c ?k
      case a | l | c | k => k_is
    have F_rda : L2.FunAt (L2.KOf KX) mg "read_at" My.sReadAt := by
      dsimp only [L2.KOf]
      refine' L2.funAt_mk KX G ?a ?l ?c ?k
      case a | l | c | k => k_is
    have F_tks : L2.FunAt (L2.KOf KX) mg "take_step" My.sTakeS := by
      dsimp only [L2.KOf]
      refine' L2.funAt_mk KX G ?a ?l ?c ?k
      case a | l | c | k => k_is
    have F_chg : L2.FunAt (L2.KOf KX) mg "changed" My.sChanged := by
      dsimp only [L2.KOf]
      refine' L2.funAt_mk KX G ?a ?l ?c ?k
      case a | l | c | k => k_is
    have F_cell : L2.FunAt (L2.KOf KX) mg "_law_cell_at" My.sCell := by
      dsimp only [L2.KOf]
      refine' L2.funAt_mk KX G ?a ?l ?c ?k
      case a | l | c | k => k_is
    have F_plain : L2.FunAt (L2.KOf KX) mg "_law_plain" My.sPlain := by
      dsimp only [L2.KOf]
      refine' L2.funAt_mk KX G ?a ?l ?c ?k
      case a | l | c | k => k_is
    have F_turned : L2.FunAt (L2.KOf KX) mg "_law_turned" My.sTurned := by
      dsimp only [L2.KOf]
      refine' L2.funAt_mk KX G ?a ?l ?c ?k
      case a | l | c | k => k_is
    have F_numbering : L2.FunAt (L2.KOf KX) mg "_law_numbering" My.sNumbering := by
      dsimp only [L2.KOf]
      refine' L2.funAt_mk KX G ?a ?l ?c ?k
      case a | l | c | k => k_is
    have F_sealby : L2.FunAt (L2.KOf KX) mg "_law_seal_by" My.sSealBy := by
      dsimp only [L2.KOf]
      refine' L2.funAt_mk KX G ?a ?l ?c ?k
      case a | l | c | k => k_is
    have F_draw : L2.FunAt (L2.KOf KX) mg "_law_draw" My.sDraw := by
      dsimp only [L2.KOf]
      refine' L2.funAt_mk KX G ?a ?l ?c ?k
      case a | l | c | k => k_is
    have F_word : L2.FunAt (L2.KOf KX) mg "_law_word" My.sWord := by
      dsimp only [L2.KOf]
      refine' L2.funAt_mk KX G ?a ?l ?c ?k
      case a | l | c | k => k_is
    have F_lpart : L2.FunAt (L2.KOf KX) mg "_law_part" My.sLpart := by
      dsimp only [L2.KOf]
      refine' L2.funAt_mk KX G ?a ?l ?c ?k
      case a | l | c | k => k_is
    have F_ltab : L2.FunAt (L2.KOf KX) mg "_law_table" My.sLtab := by
      dsimp only [L2.KOf]
      refine' L2.funAt_mk KX G ?a ?l ?c ?k
      case a | l | c | k => k_is
    have F_text : L2.FunAt (L2.KOf KX) mg "_law_text" My.sLtext := by
      dsimp only [L2.KOf]
      refine' L2.funAt_mk KX G ?a ?l ?c ?k
      case a | l | c | k => k_is
    have F_behind : L2.FunAt (L2.KOf KX) mg "_law_behind" My.sBehind := by
      dsimp only [L2.KOf]
      refine' L2.funAt_mk KX G ?a ?l ?c ?k
      case a | l | c | k => k_is
    have F_spoilt : L2.FunAt (L2.KOf KX) mg "_law_spoilt" My.sSpoilt := by
      dsimp only [L2.KOf]
      refine' L2.funAt_mk KX G ?a ?l ?c ?k
      case a | l | c | k => k_is
    have F_right : L2.FunAt (L2.KOf KX) mg "_law_right" My.sRight := by
      dsimp only [L2.KOf]
      refine' L2.funAt_mk KX G ?a ?l ?c ?k
      case a | l | c | k => k_is
    have F_law : L2.FunAt (L2.KOf KX) mg "law" My.sLaw := by
      dsimp only [L2.KOf]
      refine' L2.funAt_mk KX G ?a ?l ?c ?k
      case a | l | c | k => k_is
    have z0 : mg "len" = none := by
      refine' PySem.W.mg_none_of KX G ?z; (case z => k_is)
    have z1 : mg "range" = none := by
      refine' PySem.W.mg_none_of KX G ?z; (case z => k_is)
    have z2 : mg "str" = none := by
      refine' PySem.W.mg_none_of KX G ?z; (case z => k_is)
    have z3 : mg "sorted" = none := by
      refine' PySem.W.mg_none_of KX G ?z; (case z => k_is)
    have z4 : mg "min" = none := by
      refine' PySem.W.mg_none_of KX G ?z; (case z => k_is)
    have z5 : mg "int" = none := by
      refine' PySem.W.mg_none_of KX G ?z; (case z => k_is)
    have z6 : mg "all" = none := by
      refine' PySem.W.mg_none_of KX G ?z; (case z => k_is)
    have z7 : mg "enumerate" = none := by
      refine' PySem.W.mg_none_of KX G ?z; (case z => k_is)
    obtain ⟨cR, cB, cE, BR, M_br⟩ : ∃ C cB cE, My.Ers10 (L2.KOf KX) mg C cB cE ∧ L2.MethAt (L2.KOf KX) C "__init__" "BadRow.__init__" My.mBRInit := by
      dsimp only [L2.KOf]
      refine' My.br_mk KX G ?a1 ?a2 ?a4 ?lB ?lk ?l1 ?l2 ?e1 ?e2 ?b1 ?f1 ?lf ?cf ?kc ?c1 ?c2 ?c3 ?c4 ?ga ?gn ?fo ?sp ?tk ?mo ?sa ?no ?mi ?md ?mf ?mm ?sg ?t1 ?t3 ?g2 ?g3 ?g4 ?g5 ?g6 ?lE ?l3 ?e3 ?d1 ?d2 ?d3 ?d4 ?gE ?hE ?oE ?mE ?kE ?m0
      (case a1 | a2 | a4 | lB | lk | l1 | l2 => k_is); (case e1 => rfl); (case e2 => rfl); (case b1 | f1 | lf => k_is); (case cf => rfl); (case kc | c1 | c2 | c3 | c4 | ga | gn | fo | sp | tk | mo | sa | no | mi | md | mf | mm | sg | t1 | t3 | g2 | g3 | g4 | g5 => k_is); (case g6 => kernel_rfl); (case lE | l3 => k_is); (case e3 => rfl); (case d1 | d2 | d3 | d4 | gE | hE | oE | mE | kE => k_is)
      case m0 =>
        refine' L2.methAt_mk ?a ?i ?l ?c ?k
        case a | i | l | c | k => k_is
    obtain ⟨C, TX, MK, M_init, M_check, M_put, M_cut, M_head, M_twin, M_rows⟩ : ∃ C, My.Txt (L2.KOf KX) mg C ∧ (∃ fI, L2.Mk (L2.KOf KX) C fI) ∧ L2.MethD (L2.KOf KX) C "__init__" "Table.__init__" My.mInit [8] ∧ L2.MethAt (L2.KOf KX) C "check" "Table.check" My.mCheck ∧ L2.MethAt (L2.KOf KX) C "put" "Table.put" My.mPut ∧ L2.MethAt (L2.KOf KX) C "cut" "Table.cut" My.mCut ∧ L2.MethAt (L2.KOf KX) C "head" "Table.head" My.mHead ∧ L2.MethAt (L2.KOf KX) C "twin" "Table.twin" My.mTwin ∧ L2.MethAt (L2.KOf KX) C "rows" "Table.rows" My.mRows := by
      dsimp only [L2.KOf]
      refine' My.cls_mk KX G ?aC ?pg ?hd ?po ?sa ?mk ?kc ?n0 ?n1 ?n2 ?aI ?iI ?m0 ?m1 ?m2 ?m3 ?m4 ?m5 ?m6
      (case aC => k_is); (case pg => k_is); (case hd => k_is); (case po => k_is); (case sa => k_is); (case mk => k_is); (case kc => k_is); (case n0 => k_is); (case n1 => k_is); (case n2 => k_is); (case aI => k_is); (case iI => k_is)
      case m0 =>
        refine' L2.methD_mk ?a ?i ?l ?c ?k ?t
        (case a => k_is); (case i => k_is); (case l => k_is); (case c => k_is); (case k => k_is); (case t => k_is)
      case m1 =>
        refine' L2.methAt_mk ?a ?i ?l ?c ?k
        (case a => k_is); (case i => k_is); (case l => k_is); (case c => k_is); (case k => k_is)
      case m2 =>
        refine' L2.methAt_mk ?a ?i ?l ?c ?k
        (case a => k_is); (case i => k_is); (case l => k_is); (case c => k_is); (case k => k_is)
      case m3 =>
        refine' L2.methAt_mk ?a ?i ?l ?c ?k
        (case a => k_is); (case i => k_is); (case l => k_is); (case c => k_is); (case k => k_is)
      case m4 =>
        refine' L2.methAt_mk ?a ?i ?l ?c ?k
        (case a => k_is); (case i => k_is); (case l => k_is); (case c => k_is); (case k => k_is)
      case m5 =>
        refine' L2.methAt_mk ?a ?i ?l ?c ?k
        (case a => k_is); (case i => k_is); (case l => k_is); (case c => k_is); (case k => k_is)
      case m6 =>
        refine' L2.methAt_mk ?a ?i ?l ?c ?k
        (case a => k_is); (case i => k_is); (case l => k_is); (case c => k_is); (case k => k_is)
    obtain ⟨fd, hb, hF⟩ := L2.law_fn (x := "_law_script") (ps := ["_law_script"]) hmg F_law (fun base kb nb hC hB => My.all_ok (P := PySem.Challenge.rw_growbook_k10_changed.prog) (w := w) (base := base) kb nb ⟨hC, hB, TB⟩ F_none F_ind F_row F_fork F_tabs F_part F_top F_isk F_rdk F_rda F_tks F_chg F_cell F_plain F_turned F_numbering F_sealby F_draw F_word F_lpart F_ltab F_text F_behind F_spoilt F_right F_law z0 z1 z2 z3 z4 z5 z6 z7 TX MK M_init M_check M_put M_cut M_head M_twin M_rows BR M_br)
    exact ⟨fd, hb, hF⟩
  case S =>
    intro K mg Pt H a ns hl hS hScr hP
    exact ⟨a, ns, rfl, My.sqF_of hS hScr, hl, hP, fun _ => rfl⟩
#print axioms PySem.Challenge.cw_growbook_k10_changed_holds
