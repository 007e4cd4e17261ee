import PyProof.Rows.All
import Wide.All
import OpenK.AllK
import Wide.FinOn
import Lean
import PyProof.EqAt
import PyProof.EqKinds
import PyProof.TupleCall
import PySem.Challenge.RW_growbook_k13_whole_followers
set_option Elab.async false
set_option linter.all false
set_option maxRecDepth 100000
set_option maxHeartbeats 4000000
namespace L2
open PySem PySem.Spec PyProof.Rows
abbrev Key := Sum Int Str
def keyIs : Key → Value → Bool
  | .inl k, v => Value.isInt k v
  | .inr x, v => Value.isStrOf x v
def keyH (w : World) : Key → Int
  | .inl k => hashInt k
  | .inr x => hashStr w x
theorem keyIs_shape : ∀ {k : Key} {v : Value}, keyIs k v = true → (∃ i t, k = Sum.inl i ∧ v = Value.int i t) ∨ (∃ x t, k = Sum.inr x ∧ v = Value.str x t)
  | .inl i, v, h => by
    obtain ⟨t, e⟩ := Value.isInt_shape (k := i) (v := v) h
    exact .inl ⟨i, t, rfl, e⟩
  | .inr x, v, h => by
    obtain ⟨t, e⟩ := Value.isStrOf_shape (x := x) (v := v) h
    exact .inr ⟨x, t, rfl, e⟩
theorem keyIs_int (i : Int) (t : Tok) : keyIs (.inl i) (.int i t) = true := by simp [keyIs, Value.isInt]
theorem keyIs_str (x : Str) (t : Tok) : keyIs (.inr x) (.str x t) = true := by simp [keyIs, Value.isStrOf]
theorem key_ll (a b : Int) : decide ((Sum.inl a : Key) = Sum.inl b) = (a == b) := by
  by_cases e : a = b
  · subst e; simp
  · have h : ¬ (Sum.inl a : Key) = Sum.inl b := fun q => e (Sum.inl.inj q)
    rw [decide_eq_false h]
    exact (beq_eq_false_iff_ne.mpr e).symm
theorem key_rr (a b : Str) : decide ((Sum.inr a : Key) = Sum.inr b) = decide (a = b) := by
  by_cases e : a = b
  · subst e; simp
  · have h : ¬ (Sum.inr a : Key) = Sum.inr b := fun q => e (Sum.inr.inj q)
    rw [decide_eq_false h, decide_eq_false e]
theorem key_lr (a : Int) (b : Str) : decide ((Sum.inl a : Key) = Sum.inr b) = false := decide_eq_false (fun q => nomatch q)
theorem key_rl (a : Str) (b : Int) : decide ((Sum.inr a : Key) = Sum.inl b) = false := decide_eq_false (fun q => nomatch q)
def mixKind (prog : Program) (w : World) : PySem.KeyKind prog w Key where
  is := keyIs
  hash := keyH w
  inj := fun v a b ha hb => by
    rcases keyIs_shape ha with ⟨i, t, rfl, rfl⟩ | ⟨x, t, rfl, rfl⟩
    · rcases keyIs_shape hb with ⟨j, u, rfl, e⟩ | ⟨y, u, rfl, e⟩
      · injection e with e1 _; rw [e1]
      · exact nomatch e
    · rcases keyIs_shape hb with ⟨j, u, rfl, e⟩ | ⟨y, u, rfl, e⟩
      · exact nomatch e
      · injection e with e1 _; rw [e1]
  byValue := fun k v h => by
    rcases keyIs_shape h with ⟨i, t, rfl, rfl⟩ | ⟨x, t, rfl, rfl⟩ <;> rfl
  pyHash := fun hv h => by
    rcases keyIs_shape hv with ⟨i, t, rfl, rfl⟩ | ⟨x, t, rfl, rfl⟩
    · exact wpAny_pyHash_int h
    · exact wpAny_pyHash_str h
  eqBool := fun hu hv h => by
    rcases keyIs_shape hu with ⟨i, t, rfl, rfl⟩ | ⟨x, t, rfl, rfl⟩
    · rcases keyIs_shape hv with ⟨j, u, rfl, rfl⟩ | ⟨y, u, rfl, rfl⟩
      · rw [key_ll] at h; exact wpAny_eqBool_int h
      · rw [key_lr] at h; exact SeqAt.EqAt.int_str i t y u _ _ _ _ h
    · rcases keyIs_shape hv with ⟨j, u, rfl, rfl⟩ | ⟨y, u, rfl, rfl⟩
      · rw [key_rl] at h; exact SeqAt.EqAt.str_int x t j u _ _ _ _ h
      · rw [key_rr] at h; exact wpAny_eqBool_str h
  «strs» := fun k x t v h => by
    rcases keyIs_shape h with ⟨i, u, rfl, e⟩ | ⟨y, u, rfl, e⟩
    · exact nomatch e
    · injection e with e1 _
      subst e1
      cases v <;> rfl
theorem mixKind_is (prog : Program) (w : World) (k : Key) (v : Value) : (mixKind prog w).is k v = keyIs k v := rfl
theorem mixKind_int (prog : Program) (w : World) (i : Int) (t : Tok) : (mixKind prog w).is (.inl i) (.int i t) = true := keyIs_int i t
theorem mixKind_str (prog : Program) (w : World) (x : Str) (t : Tok) : (mixKind prog w).is (.inr x) (.str x t) = true := keyIs_str x t
end L2
namespace L2
open PySem PySem.Spec PyProof.Rows
inductive V where
  | non | bl (b : Bool) | int (i : Int) | str (x : Str) | byt (b : Array UInt8) | flt (b : UInt64) | ref (a : Addr) | ty (n : String)
  deriving DecidableEq
def RelV : V → Value → Prop
  | .non, u => u = Value.none
  | .bl b, u => u = Value.bool b
  | .int i, u => ∃ t, u = Value.int i t
  | .str x, u => ∃ t, u = Value.str x t
  | .byt b, u => ∃ t, u = Value.bytes b t
  | .flt b, u => ∃ t, u = Value.float b t
  | .ref a, u => u = Value.ref a
  | .ty n, u => u = Value.type n
abbrev Vals : List V → List Value → Prop := Paired RelV
theorem Vals.length {xs : List V} {us : List Value} (r : Vals xs us) : xs.length = us.length := Paired.length r
theorem Vals.get : ∀ {xs : List V} {us : List Value} {i : Nat} {x : V}, Vals xs us → xs[i]? = some x → ∃ u, us[i]? = some u ∧ RelV x u
  | _, _, _, _, .nil, e => by simp at e
  | _, _, 0, _, .cons r _, e => by simp at e; subst e; exact ⟨_, rfl, r⟩
  | _, _, i + 1, x, .cons _ t, e => by
    obtain ⟨u, h1, h2⟩ := Vals.get (i := i) (x := x) t (by simpa using e)
    exact ⟨u, by simpa using h1, h2⟩
theorem Vals.set {x : V} {u : Value} (r : RelV x u) : ∀ {xs : List V} {us : List Value} (i : Nat), Vals xs us → Vals (xs.set i x) (us.set i u)
  | _, _, _, .nil => .nil
  | _, _, 0, .cons _ t => .cons r t
  | _, _, i + 1, .cons q t => .cons q (Vals.set r i t)
theorem Vals.append : ∀ {xs ys : List V} {us ws : List Value}, Vals xs us → Vals ys ws → Vals (xs ++ ys) (us ++ ws)
  | _, _, _, _, .nil, s => s
  | _, _, _, _, .cons r t, s => .cons r (Vals.append t s)
theorem Vals.take : ∀ {xs : List V} {us : List Value} (n : Nat), Vals xs us → Vals (xs.take n) (us.take n)
  | _, _, 0, _ => .nil
  | _, _, _ + 1, .nil => .nil
  | _, _, n + 1, .cons r t => .cons r (Vals.take n t)
theorem Vals.drop : ∀ {xs : List V} {us : List Value} (n : Nat), Vals xs us → Vals (xs.drop n) (us.drop n)
  | _, _, 0, r => r
  | _, _, _ + 1, .nil => .nil
  | _, _, n + 1, .cons _ t => Vals.drop n t
def RelO : Option V → Option Value → Prop
  | some v, some u => RelV v u
  | none, none => True
  | _, _ => False
def KV {κ : Type} : List (κ × V) → List (κ × Value) → Prop := Paired fun (p : κ × V) (q : κ × Value) => p.1 = q.1 ∧ RelV p.2 q.2
def kV : Key → V
  | .inl i => .int i
  | .inr x => .str x
inductive HO where
    | lst (xs : List V)
    | tup (xs : List V)
    | dK (kvs : List (Key × V)) | dT (kvs : List (List Key × V))
    | set (S : Int → Bool) (n : Nat)
    | ins (C dx : Addr) (fs : List (Str × V))
    | own (x : Addr)
    | xd (fs : List (Str × V))
    | met (f x : Addr)
    | rng (lo hi : Int)
    | frz (o : Obj) (u : HO)
    | tbl (ps : Array Value)
    | ext (φ : Heap → Prop)
abbrev Hp := Addr → Option HO
def upd (H : Hp) (a : Addr) (o : HO) : Hp := fun b => if b = a then some o else H b
theorem upd_same {H : Hp} {a : Addr} {o : HO} : upd H a o a = some o := by unfold upd; rw [if_pos rfl]
theorem upd_ne {H : Hp} {a b : Addr} {o : HO} (h : b ≠ a) : upd H a o b = H b := by unfold upd; rw [if_neg h]
theorem upd_upd {H : Hp} {a : Addr} {o u : HO} : upd (upd H a o) a u = upd H a u := by
  funext b; unfold upd; split <;> rfl
theorem ne_of {H : Hp} {a b : Addr} {o u : HO} (h : H a = some o) (h' : H b = some u) (d : o ≠ u) : a ≠ b := by
  intro e; subst e; rw [h] at h'; exact d (Option.some.inj h')
theorem ne_of_none {H : Hp} {a b : Addr} {o : HO} (h : H a = some o) (h' : H b = none) : a ≠ b := by
  intro e; subst e; rw [h] at h'; cases h'
section
variable (P : Program) (w : World)
def ObjOk (H : Hp) (h : Heap) (a : Addr) : HO → Prop
  | .lst xs => xs.length ≤ sizeLine ∧ ∃ (its : List Value) (n : Nat), Vals xs its ∧ h.get? a = some { cls := .type "list", data := .seq its.toArray n }
  | .tup xs => xs.length ≤ sizeLine ∧ ∃ its : List Value, Vals xs its ∧ IsTup h a its.toArray
  | .dK kvs => kvs.length ≤ sizeLine ∧ (a == sysModules) = false ∧ ∃ vs, KV kvs vs ∧ h.DictOf (mixKind P w) a vs
  | .dT kvs => kvs.length ≤ sizeLine ∧ (a == sysModules) = false ∧ ∃ xs : List (List Key × Addr × Value),
      Paired (fun (p : List Key × V) (q : List Key × Addr × Value) => p.1 = q.1 ∧ H q.2.1 = some (.tup (p.1.map kV)) ∧ RelV p.2 q.2.2) kvs xs ∧
      ∃ o es ep, h.get? a = some o ∧ o.ExactDict ∧ o.data = .dict es ep ∧ es.toList = xs.map (entryOfKey (tupleKind (mixKind P w))) ∧ (xs.map (·.1)).Nodup
  | .set S n => h.SetOf (intKind P w) a S n
  | .ins C dx fs => H dx = some (.own a) ∧ fs.length ≤ 1000 ∧ dx ≠ a ∧ h.get? a = some (PySem.W.instObj C dx) ∧
      ∃ mA, h.Ns1 dx mA ∧ (∀ f, RelO (fs.lookup f) (mA f)) ∧ PySem.Within mA (fs.map (·.1))
  | .own _ => ∃ o, h.get? a = some o
  | .xd fs => ∃ mA, h.Ns1 a mA ∧ ∀ f, RelO (fs.lookup f) (mA f)
  | .rng lo hi => ∃ t u v, h.get? a = some { cls := .type "range", data := .fields #[.int lo t, .int hi u, .int 1 v] }
  | .frz o u => h.get? a = some o ∧ ObjOk H h a u
  | .tbl ps => h.get? a = some { cls := .none, data := .fields ps }
  | .met f x => h.get? a = some (PySem.W.methodObj (.ref f) (.ref x))
  | .ext φ => φ h ∧ (∃ o, h.get? a = some o) ∧ ∀ h1 h2 : Heap, φ h1 → (∀ o, h1.get? a = some o → h2.get? a = some o) → φ h2
def HOk (H : Hp) (h : Heap) : Prop := ∀ a o, H a = some o → ObjOk P w H h a o
end
section
variable {P : Program} {w : World} {H H' : Hp} {h h' : Heap} {a : Addr} {o : HO}
theorem ObjOk.lt (x : ObjOk P w H h a o) : a < h.objs.size := by
  cases o with
  | lst xs => obtain ⟨_, _, _, _, e⟩ := x; exact Heap.lt_size e
  | tup xs => obtain ⟨_, _, _, p⟩ := x; exact p.lt
  | dK kvs => obtain ⟨_, _, _, _, o, _, _, e, _⟩ := x; exact Heap.lt_size e
  | dT kvs => obtain ⟨_, _, _, _, o, _, _, e, _⟩ := x; exact Heap.lt_size e
  | set S n => obtain ⟨o, _, _, _, e, _⟩ := x; exact Heap.lt_size e
  | ins C dx fs => obtain ⟨_, _, _, e, _⟩ := x; exact Heap.lt_size e
  | own y => obtain ⟨_, e⟩ := x; exact Heap.lt_size e
  | xd fs => obtain ⟨_, ⟨_, _, _, e, _⟩, _⟩ := x; exact Heap.lt_size e
  | rng lo hi => obtain ⟨_, _, _, e⟩ := x; exact Heap.lt_size e
  | frz ob u => obtain ⟨e, _⟩ := x; exact Heap.lt_size e
  | tbl ps => exact Heap.lt_size (show h.get? a = some _ from x)
  | met f y => exact Heap.lt_size (show h.get? a = some _ from x)
  | ext φ => obtain ⟨_, ⟨_, e⟩, _⟩ := x; exact Heap.lt_size e
theorem Paired.mapP {α β : Type} {F G : α → β → Prop} : ∀ {l₁ : List α} {l₂ : List β}, Paired F l₁ l₂ → (∀ a b, F a b → G a b) → Paired G l₁ l₂
  | _, _, .nil, _ => .nil
  | _, _, .cons r t, f => .cons (f _ _ r) (Paired.mapP t f)
theorem ObjOk.stay (x : ObjOk P w H h a o) (k : ∀ b u, (b = a ∨ H b = some (.own a)) → h.get? b = some u → h'.get? b = some u)
    (ho : ∀ b, H b = some (.own a) → H' b = some (.own a)) (ht : ∀ b xs, H b = some (.tup xs) → H' b = some (.tup xs)) : ObjOk P w H' h' a o := by
  induction o with
  | lst xs => obtain ⟨z, its, n, r, e⟩ := x; exact ⟨z, its, n, r, k _ _ (.inl rfl) e⟩
  | tup xs => obtain ⟨z, its, r, ob, e, c⟩ := x; exact ⟨z, its, r, ob, k _ _ (.inl rfl) e, c⟩
  | dK kvs => obtain ⟨z, y, vs, r, ob, es, ep, e, c⟩ := x; exact ⟨z, y, vs, r, ob, es, ep, k _ _ (.inl rfl) e, c⟩
  | dT kvs =>
    obtain ⟨z, y, xs, r, ob, es, ep, e, c⟩ := x
    exact ⟨z, y, xs, Paired.mapP r fun p q z => ⟨z.1, ht _ _ z.2.1, z.2.2⟩, ob, es, ep, k _ _ (.inl rfl) e, c⟩
  | set S n => obtain ⟨ob, es, ep, t, e, c⟩ := x; exact ⟨ob, es, ep, t, k _ _ (.inl rfl) e, c⟩
  | ins C dx fs =>
    obtain ⟨d, z, ne, e, mA, ⟨od, es, ep, e2, c⟩, r⟩ := x
    exact ⟨ho _ d, z, ne, k _ _ (.inl rfl) e, mA, ⟨od, es, ep, k _ _ (.inr d) e2, c⟩, r⟩
  | own y => obtain ⟨ob, e⟩ := x; exact ⟨ob, k _ _ (.inl rfl) e⟩
  | xd fs => obtain ⟨mA, ⟨od, es, ep, e, c⟩, r⟩ := x; exact ⟨mA, ⟨od, es, ep, k _ _ (.inl rfl) e, c⟩, r⟩
  | rng lo hi => obtain ⟨t, u, v, e⟩ := x; exact ⟨t, u, v, k _ _ (.inl rfl) e⟩
  | frz ob u ih => obtain ⟨e, q⟩ := x; exact ⟨k _ _ (.inl rfl) e, ih q⟩
  | tbl ps =>
    have e : h.get? a = some { cls := .none, data := .fields ps } := x
    show h'.get? a = some { cls := .none, data := .fields ps }
    exact k a _ (.inl rfl) e
  | met f y =>
    have e : h.get? a = some (PySem.W.methodObj (.ref f) (.ref y)) := x
    show h'.get? a = some (PySem.W.methodObj (.ref f) (.ref y))
    exact k a _ (.inl rfl) e
  | ext φ => obtain ⟨p, ⟨o, e⟩, st⟩ := x; exact ⟨st _ _ p fun o q => k _ _ (.inl rfl) q, ⟨o, k _ _ (.inl rfl) e⟩, st⟩
theorem HOk.lt (x : HOk P w H h) (e : H a = some o) : a < h.objs.size := (x a o e).lt
theorem HOk.fresh (x : HOk P w H h) (e : h.objs.size ≤ a) : H a = none := by
  cases q : H a with
  | none => rfl
  | some u => exact absurd (Nat.lt_of_lt_of_le (x.lt q) e) (Nat.lt_irrefl _)
theorem HOk.kept (x : HOk P w H h) (k : ∀ b u, h.get? b = some u → h'.get? b = some u) : HOk P w H h' := fun a o e =>
  (x a o e).stay (fun b u _ q => k b u q) (fun _ q => q) fun _ _ q => q
theorem HOk.laid (x : HOk P w H h) (k : ∀ b u, h.get? b = some u → h'.get? b = some u) (hp : h.objs.size ≤ a) (new : ObjOk P w (upd H a o) h' a o) : HOk P w (upd H a o) h' := fun b u e => by
  have hn := x.fresh hp
  by_cases hb : b = a
  · subst hb; rw [upd_same] at e; cases e; exact new
  · rw [upd_ne hb] at e
    exact (x b u e).stay (fun c v _ q => k c v q) (fun c q => by rw [upd_ne (ne_of_none q hn)]; exact q) fun c xs q => by rw [upd_ne (ne_of_none q hn)]; exact q
end
def Rd (H : Hp) (a : Addr) (u : HO) : Prop := H a = some u ∨ ∃ o, H a = some (.frz o u)
theorem Rd.ok {P : Program} {w : World} {H : Hp} {h : Heap} {a : Addr} {u : HO} (r : Rd H a u) (x : HOk P w H h) : ObjOk P w H h a u := by
  rcases r with r | ⟨o, r⟩
  · exact x a u r
  · obtain ⟨_, q⟩ := x a _ r
    exact q
def Mut : Option HO → Prop
  | some (.lst _) => True
  | some (.dK _) => True
  | some (.dT _) => True
  | some (.set _ _) => True
  | some (.ins _ _ _) => True
  | some (.ext _) => True
  | _ => False
section
variable {P : Program} {w : World} {H : Hp} {h h' : Heap} {x e : Addr} {o' : HO}
theorem HOk.write (ok : HOk P w H h) (mu : Mut (H x)) (he : e = x ∨ H e = some (.own x)) (k : ∀ b u, b ≠ e → h.get? b = some u → h'.get? b = some u) (heo : ∃ u, h'.get? e = some u)
    (new : ObjOk P w (upd H x o') h' x o') : HOk P w (upd H x o') h' := fun b u q => by
  have nown : ∀ c y, H c = some (.own y) → c ≠ x := fun c y r z => by subst z; rw [r] at mu; exact mu
  have ntup : ∀ c xs, H c = some (.tup xs) → c ≠ x := fun c xs r z => by subst z; rw [r] at mu; exact mu
  by_cases hb : b = x
  · subst hb; rw [upd_same] at q; cases q; exact new
  · rw [upd_ne hb] at q
    by_cases hbe : b = e
    · have q' : H b = some (.own x) := by
        rcases he with z | z
        · exact absurd (hbe.trans z) hb
        · rw [hbe]; exact z
      rw [q] at q'; cases q'
      obtain ⟨v, hv⟩ := heo
      exact ⟨v, by rw [hbe]; exact hv⟩
    · refine (ok b u q).stay (fun c v hc r => k c v ?_ r) (fun c r => by rw [upd_ne (nown c b r)]; exact r) fun c xs r => by rw [upd_ne (ntup c xs r)]; exact r
      rcases hc with rfl | hc
      · exact hbe
      · rintro rfl
        rcases he with z | z
        · exact nown c b hc z
        · rw [hc] at z; cases z; exact hb rfl
end
structure Un (fs ex : List Addr) (H H' : Hp) (h h' : Heap) : Prop where
  keep : ∀ b o, h.get? b = some o → H b = none → b ∉ fs → b ∉ ex → h'.get? b = some o
  slot : ∀ b o, h.get? b = some o → H b = none → b ∈ fs → b ∉ ex → ∃ sl, h'.get? b = some { o with slots := sl }
  free : ∀ b o, h.get? b = some o → H b = none → b ∉ ex → H' b = none
  there : ∀ b o, h.get? b = some o → b ∉ ex → ∃ o', h'.get? b = some o'
  tups : ∀ b xs, H b = some (.tup xs) → H' b = some (.tup xs)
  frzs : ∀ b o u, H b = some (.frz o u) → H' b = some (.frz o u)
  tbls : ∀ b ps, H b = some (.tbl ps) → ∃ more, H' b = some (.tbl (ps ++ more))
section
variable {fs fs' ex ex' : List Addr} {H H1 H2 : Hp} {h h1 h2 h' : Heap} {a x e : Addr} {o : HO}
theorem Un.any (u : Un fs ex H H1 h h1) {b : Addr} {ob : Obj} (q : h.get? b = some ob) (n : H b = none) (hx : b ∉ ex) : ∃ sl, h1.get? b = some { ob with slots := sl } := by
  by_cases hb : b ∈ fs
  · exact u.slot b ob q n hb hx
  · exact ⟨ob.slots, u.keep b ob q n hb hx⟩
theorem Un.kept (k : ∀ b u, h.get? b = some u → h'.get? b = some u) : Un fs ex H H h h' :=
  ⟨fun b ob q _ _ _ => k b ob q, fun b ob q _ _ _ => ⟨ob.slots, k b ob q⟩, fun _ _ _ n _ => n, fun b ob q _ => ⟨ob, k b ob q⟩, fun _ _ q => q, fun _ _ _ q => q, fun _ ps q => ⟨#[], by rw [q]; simp⟩⟩
theorem Un.refl : Un fs ex H H h h := Un.kept fun _ _ q => q
theorem Un.laid (k : ∀ b u, h.get? b = some u → h'.get? b = some u) (hp : h.objs.size ≤ a) (hn : H a = none) : Un fs ex H (upd H a o) h h' where
  keep := fun b u q _ _ _ => k b u q
  slot := fun b u q _ _ _ => ⟨u.slots, k b u q⟩
  free := fun b u q n _ => by rw [upd_ne (Nat.ne_of_lt (Nat.lt_of_lt_of_le (Heap.lt_size q) hp))]; exact n
  there := fun b u q _ => ⟨u, k b u q⟩
  tups := fun b xs q => by rw [upd_ne (ne_of_none q hn)]; exact q
  frzs := fun b u xs q => by rw [upd_ne (ne_of_none q hn)]; exact q
  tbls := fun b ps q => ⟨#[], by rw [upd_ne (ne_of_none q hn), q]; simp⟩
theorem Un.write (mu : Mut (H x)) (he : e = x ∨ H e = some (.own x)) (k : ∀ b u, b ≠ e → h.get? b = some u → h'.get? b = some u) (heo : ∃ u, h'.get? e = some u) : Un fs ex H (upd H x o) h h' := by
  have hx : ∀ b, H b = none → b ≠ x := fun b n z => by subst z; rw [n] at mu; exact mu
  have hb : ∀ b, H b = none → b ≠ e := fun b n z => by
    subst z
    rcases he with r | r
    · exact hx b n r
    · rw [n] at r; cases r
  have hm : ∀ b u, H b = some u → ¬ Mut (some u) → b ≠ x := fun b u q nm z => by subst z; rw [q] at mu; exact nm mu
  refine ⟨fun b u q n _ _ => k b u (hb b n) q, fun b u q n _ _ => ⟨u.slots, k b u (hb b n) q⟩, fun b u q n _ => by rw [upd_ne (hx b n)]; exact n, fun b u q _ => ?_,
    fun b xs q => by rw [upd_ne (hm b _ q fun z => z)]; exact q, fun b u xs q => by rw [upd_ne (hm b _ q fun z => z)]; exact q, fun b ps q => ⟨#[], by rw [upd_ne (hm b _ q fun z => z), q]; simp⟩⟩
  by_cases hbe : b = e
  · subst hbe; exact heo
  · exact ⟨u, k b u hbe q⟩
end
def trk (h : Heap) (H : Hp) : List Addr := (List.range h.objs.size).filter fun a => (H a).isSome
def hidT (h : Heap) (H : Hp) : Heap := PySem.W.hideAll h (trk h H)
theorem hidT_size (h : Heap) (H : Hp) : (hidT h H).objs.size = h.objs.size := PySem.W.hideAll_size _ _
theorem hidT_get {h : Heap} {H : Hp} {b : Addr} {o : Obj} (e : h.get? b = some o) (n : H b = none) : (hidT h H).get? b = some o :=
  PySem.W.hideAll_get _ e fun hm => by
    have q : (H b).isSome = true := (List.mem_filter.mp hm).2
    rw [n] at q; simp at q
theorem of_hidT {h : Heap} {H : Hp} {b : Addr} {o : Obj} (e : (hidT h H).get? b = some o) : h.get? b = some o ∧ H b = none := by
  have e' : h.get? b = some o := PySem.W.of_hideAll (trk h H) e
  refine ⟨e', ?_⟩
  cases q : H b with
  | none => rfl
  | some x =>
    have hm : b ∈ trk h H := List.mem_filter.mpr ⟨List.mem_range.mpr (Heap.lt_size e'), by simp [q]⟩
    have z : (hidT h H).get? b = none := PySem.W.hideAll_none (trk h H) hm
    rw [z] at e; cases e
def allNews (g h : Heap) (L : Addr) : List (Addr × Obj) := (List.range h.objs.size).filterMap fun a => if a = L ∨ (g.get? a).isSome = true then none else (h.get? a).map fun o => (a, o)
def rest (g h : Heap) (L d : Addr) : List (Addr × Obj) := (allNews g h L).filter fun p => decide (p.1 ≠ d)
end L2
namespace L2
open PySem PySem.Spec PyProof.Rows
structure Mod (K : PySem.W.Frag) (mg : Str → Option Value) (base : Heap) : Prop where
  kin : K.In base
  glob : base.Ns mainGlobals mg
  blt : ∃ mb, base.Ns builtinsNs mb ∧ ∀ x : Str, x ≠ "__name__" → mb x = bootBuiltins x
  nolimit : base.NoLimit
structure Cx where
  prog : Program
  w : World
  K : PySem.W.Frag
  mg : Str → Option Value
  base : Heap
  A : Around
  N : List Str
  s₀ : Shared
  H₀ : Hp
  env : Env
  outer : List Env
  stack : List Env
  ex : List Addr
  fn : Str → Bool
  calm : Bool
  pn : List (Addr × Obj)
  xe : Value → Shared → Prop
def frs (l : List Env) : List Addr := l.filterMap (·.frame)
abbrev Cx.fs (X : Cx) : List Addr := frs X.outer
def Vis (sc : Scope) (x : Str) : Prop := sc.names.lookup x = some .local ∨ sc.names.lookup x = some .cell ∨ sc.names.lookup x = some .free
def Loc (sc : Scope) (x : Str) : Prop := sc.names.lookup x = some .local ∨ sc.names.lookup x = some .cell
def Look (env : Env) (h : Heap) (m : Str → Option Value) (x : Str) (u : Value) : Prop :=
  (env.kindOf x = some .local ∧ m x = some u) ∨ ((env.kindOf x = some .cell ∨ env.kindOf x = some .free) ∧ ∃ c, env.cells.lookup x = some c ∧ h.IsCell c (some u))
structure Cx.Ok (X : Cx) : Prop where
  mod : Mod X.K X.mg X.base
  kind : X.env.scope.kind = .function
  glob : X.env.globals = mainGlobals
  blt : X.env.builtins = builtinsNs
  above : X.s₀.heap.objs.size ≤ X.env.locals
  inj : ∀ x y c, X.env.cells.lookup x = some c → X.env.cells.lookup y = some c → x = y
  has : ∀ x, (X.env.kindOf x = some .cell ∨ X.env.kindOf x = some .free) → ∃ c, X.env.cells.lookup x = some c
  cab : ∀ x c, X.fn x = true → X.env.cells.lookup x = some c → X.s₀.heap.objs.size ≤ c
  hd : X.calm = true → X.A.handled = none
  frames : X.A.frames = some X.stack
  stk : X.stack = X.outer ∨ (X.stack = X.env :: X.outer ∧ X.env.frame = some X.env.locals)
  exf : ∀ b ∈ X.ex, b ≠ X.env.locals ∧ ∀ x c, X.env.cells.lookup x = some c → c ≠ b
  bs : ∀ b o, X.base.get? b = some o → X.s₀.heap.get? b = some o ∧ X.H₀ b = none
  bsz : X.base.objs.size ≤ X.s₀.heap.objs.size
  noex : ∀ b o, X.base.get? b = some o → b ∉ X.ex
  exfs : ∀ b ∈ X.ex, b ∉ X.fs
  funs : X.s₀.heap.FunFrames X.base X.outer
  frf : ∀ b ∈ X.fs, X.H₀ b = none
structure Inv (X : Cx) (pins : List (Addr × Obj)) (σ : List (Option V)) (H : Hp) (s : Shared) : Prop where
  ok : X.Ok
  os : s.os = X.s₀.os
  bare : AllBare s.gens
  base : Un X.fs X.ex X.H₀ H X.s₀.heap s.heap
  loc : ∃ m, s.heap.Ns X.env.locals m ∧ ∀ (i : Nat) (x : Str) (v : V), X.N[i]? = some x → σ[i]? = some (some v) → Vis X.env.scope x → ∃ u, RelV v u ∧ Look X.env s.heap m x u
  cell : ∀ x c, X.env.cells.lookup x = some c → ∃ v, s.heap.IsCell c v
  free : H X.env.locals = none
  freeC : ∀ x c, X.env.cells.lookup x = some c → H c = none ∨ (X.fn x = false ∧ ∃ o, H c = some (.frz o (.own 0)))
  pin : ∀ p ∈ X.pn ++ pins, s.heap.get? p.1 = some p.2 ∧ H p.1 = none ∧ p.1 ≠ X.env.locals ∧ p.1 ∉ X.fs ∧ ∀ v, p.2.data ≠ .cell v
  hok : HOk X.prog X.w H s.heap
  len : σ.length = X.N.length
section
variable {X : Cx} {pins : List (Addr × Obj)} {σ : List (Option V)} {H H' : Hp} {s : Shared} {h' : Heap}
theorem Cx.Ok.nofr (ok : X.Ok) {b : Addr} {o : Obj} (e : X.base.get? b = some o) : b ∉ X.fs := fun hb => by
  have := (ok.funs.mem hb).1
  rw [e] at this; cases this
theorem Inv.bs (I : Inv X pins σ H s) : ∀ b o, X.base.get? b = some o → s.heap.get? b = some o ∧ H b = none := fun b o e =>
  ⟨I.base.keep b o (I.ok.bs b o e).1 (I.ok.bs b o e).2 (I.ok.nofr e) (I.ok.noex b o e), I.base.free b o (I.ok.bs b o e).1 (I.ok.bs b o e).2 (I.ok.noex b o e)⟩
theorem Inv.bk (I : Inv X pins σ H s) : ∀ b o, X.base.get? b = some o → s.heap.get? b = some o := fun b o e => (I.bs b o e).1
theorem Inv.mod (I : Inv X pins σ H s) : Mod X.K X.mg X.base := I.ok.mod
theorem Inv.kIn (I : Inv X pins σ H s) : X.K.In s.heap := I.ok.mod.kin.keeps I.bk
theorem Inv.lt (I : Inv X pins σ H s) : X.env.locals < s.heap.objs.size := let ⟨_, hn, _⟩ := I.loc; hn.lt
theorem Inv.sz (I : Inv X pins σ H s) : X.s₀.heap.objs.size ≤ s.heap.objs.size := Nat.le_trans I.ok.above (Nat.le_of_lt I.lt)
theorem Inv.nofs (I : Inv X pins σ H s) {a : Addr} (h : s.heap.objs.size ≤ a) : a ∉ X.fs := fun hb => by
  obtain ⟨_, o, ho, _⟩ := I.ok.funs.mem hb
  exact absurd (Nat.lt_of_lt_of_le (Heap.lt_size ho) (Nat.le_trans I.sz h)) (Nat.lt_irrefl _)
theorem Inv.cne (I : Inv X pins σ H s) : ∀ x c, X.env.cells.lookup x = some c → c ≠ X.env.locals := fun x c e z => by
  obtain ⟨v, o, ho, hd⟩ := I.cell x c e
  obtain ⟨m, ⟨o', es, ep, ho', hd', _⟩, _⟩ := I.loc
  rw [z, ho'] at ho; cases ho; rw [hd'] at hd; cases hd
theorem Inv.funs (I : Inv X pins σ H s) : s.heap.FunFrames X.base X.outer := by
  have all : ∀ (l : List Env), (∀ b ∈ frs l, b ∈ X.fs) → X.s₀.heap.FunFrames X.base l → s.heap.FunFrames X.base l := by
    intro l
    induction l with
    | nil => intro _ _; trivial
    | cons env r ih =>
      intro hs hl
      obtain ⟨hk, ⟨L, o, hf, hn, ho, hd⟩, hr⟩ := hl
      have hL : L ∈ X.fs := hs L (by unfold frs; rw [List.filterMap_cons, hf]; exact List.mem_cons_self)
      obtain ⟨sl, e⟩ := I.base.slot L o ho (I.ok.frf L hL) hL fun z => I.ok.exfs L z hL
      exact ⟨hk, ⟨L, _, hf, hn, e, hd⟩, ih (fun b hb => hs b (by unfold frs; rw [List.filterMap_cons, hf]; exact List.mem_cons_of_mem _ hb)) hr⟩
  exact all X.outer (fun _ hb => hb) I.ok.funs
theorem Inv.stack (I : Inv X pins σ H s) : s.heap.FunFrames X.base X.stack := by
  rcases I.ok.stk with e | ⟨e, hf⟩
  · rw [e]; exact I.funs
  · rw [e]
    obtain ⟨m, hn, _⟩ := I.loc
    refine .cons (by rw [I.ok.kind]; decide) hf hn ?_ I.funs
    exact Heap.get?_none_of_le (Nat.le_trans I.ok.bsz I.ok.above)
theorem Inv.stkSub (I : Inv X pins σ H s) : ∀ b ∈ frs X.stack, b ∈ X.env.locals :: X.fs := fun b hb => by
  rcases I.ok.stk with e | ⟨e, hf⟩
  · rw [e] at hb; exact List.mem_cons_of_mem _ hb
  · rw [e] at hb
    unfold frs at hb
    rw [List.filterMap_cons, hf] at hb
    exact hb
theorem Inv.stkFree (I : Inv X pins σ H s) : ∀ b ∈ frs X.stack, H b = none := fun b hb => by
  rcases List.mem_cons.mp (I.stkSub b hb) with e | hb
  · rw [e]; exact I.free
  · obtain ⟨_, o, ho, _⟩ := I.ok.funs.mem hb
    exact I.base.free b o ho (I.ok.frf b hb) fun z => I.ok.exfs b z hb
theorem Inv.step {g' : Array GenState} {t' : Nat} {d' : Drawn} {ch : List Addr} (I : Inv X pins σ H s)
    (hch : ∀ b ∈ ch, (b ∈ X.ex ∨ X.s₀.heap.objs.size ≤ b) ∧ b ≠ X.env.locals ∧ (∀ x c, X.env.cells.lookup x = some c → c ≠ b) ∧ ∀ p ∈ X.pn ++ pins, p.1 ≠ b)
    (keep : ∀ b o, b ≠ X.env.locals → b ∉ X.fs → b ∉ ch → s.heap.get? b = some o → H b = none → h'.get? b = some o)
    (slot : ∀ b o, b ≠ X.env.locals → b ∈ X.fs → b ∉ ch → s.heap.get? b = some o → H b = none → ∃ sl, h'.get? b = some { o with slots := sl }) (free : ∀ b o, b ∉ ch → s.heap.get? b = some o → H b = none → H' b = none)
    (there : ∀ b o, b ∉ ch → s.heap.get? b = some o → ∃ o', h'.get? b = some o')
    (tups : ∀ b xs, H b = some (.tup xs) → H' b = some (.tup xs)) (frzs : ∀ b o u, H b = some (.frz o u) → H' b = some (.frz o u)) (tbls : ∀ b ps, H b = some (.tbl ps) → ∃ more, H' b = some (.tbl (ps ++ more)))
    (ns : ∀ m, s.heap.Ns X.env.locals m → h'.Ns X.env.locals m) (hok : HOk X.prog X.w H' h') (hg : AllBare g') :
    Inv X pins σ H' { s with heap := h', gens := g', drawn := d', toks := t' } := by
  have neL : ∀ b o, X.s₀.heap.get? b = some o → b ≠ X.env.locals := fun b o e => Nat.ne_of_lt (Nat.lt_of_lt_of_le (Heap.lt_size e) I.ok.above)
  have neC : ∀ b o, X.s₀.heap.get? b = some o → b ∉ X.ex → b ∉ ch := fun b o e hx hb => by
    rcases (hch b hb).1 with z | z
    · exact hx z
    · exact absurd (Nat.lt_of_lt_of_le (Heap.lt_size e) z) (Nat.lt_irrefl _)
  have cellK : ∀ x c, X.env.cells.lookup x = some c → ∀ v, s.heap.IsCell c v → h'.IsCell c v := fun x c e v ⟨o, ho, hd⟩ => by
    have nch : c ∉ ch := fun z => (hch c z).2.2.1 x c e rfl
    rcases I.freeC x c e with fc | ⟨_, of, hf⟩
    · by_cases hc : c ∈ X.fs
      · obtain ⟨sl, q⟩ := slot c o (I.cne x c e) hc nch ho fc
        exact ⟨_, q, hd⟩
      · exact ⟨o, keep c o (I.cne x c e) hc nch ho fc, hd⟩
    · obtain ⟨e1, _⟩ := I.hok c _ hf
      obtain ⟨e2, _⟩ := hok c _ (frzs c _ _ hf)
      rw [ho] at e1; cases e1
      exact ⟨o, e2, hd⟩
  refine ⟨I.ok, I.os, hg, ⟨fun b o e n hb hx => ?_, fun b o e n hb hx => ?_, fun b o e n hx => ?_, fun b o e hx => ?_, fun b xs e => tups b xs (I.base.tups b xs e), fun b o xs e => frzs b o xs (I.base.frzs b o xs e), fun b ps e => ?_⟩, ?_, fun x c e => ?_, ?_, fun x c e => ?_, fun p hp => ?_, hok, I.len⟩
  · exact keep b o (neL b o e) hb (neC b o e hx) (I.base.keep b o e n hb hx) (I.base.free b o e n hx)
  · obtain ⟨sl, e1⟩ := I.base.slot b o e n hb hx
    obtain ⟨sl', e2⟩ := slot b _ (neL b o e) hb (neC b o e hx) e1 (I.base.free b o e n hx)
    exact ⟨sl', e2⟩
  · obtain ⟨o', e1⟩ := I.base.there b o e hx
    exact free b o' (neC b o e hx) e1 (I.base.free b o e n hx)
  · obtain ⟨o', e1⟩ := I.base.there b o e hx
    exact there b o' (neC b o e hx) e1
  · obtain ⟨m1, e1⟩ := I.base.tbls b ps e
    obtain ⟨m2, e2⟩ := tbls b _ e1
    exact ⟨m1 ++ m2, by rw [e2, Array.append_assoc]⟩
  · obtain ⟨m, hn, hl⟩ := I.loc
    refine ⟨m, ns m hn, fun i x v e1 e2 e3 => ?_⟩
    obtain ⟨u, r, l⟩ := hl i x v e1 e2 e3
    refine ⟨u, r, ?_⟩
    rcases l with l | ⟨k, c, e, z⟩
    · exact .inl l
    · exact .inr ⟨k, c, e, cellK x c e _ z⟩
  · obtain ⟨v, z⟩ := I.cell x c e
    exact ⟨v, cellK x c e v z⟩
  · obtain ⟨m, ⟨o, _, _, ho, _⟩, _⟩ := I.loc
    exact free _ o (fun z => (hch _ z).2.1 rfl) ho I.free
  · obtain ⟨v, o, ho, hd⟩ := I.cell x c e
    rcases I.freeC x c e with fc | ⟨fn0, of, hf⟩
    · exact .inl (free c o (fun z => (hch c z).2.2.1 x c e rfl) ho fc)
    · exact .inr ⟨fn0, of, frzs c _ _ hf⟩
  · obtain ⟨e, n, ne, nf, d⟩ := I.pin p hp
    have nch : p.1 ∉ ch := fun z => (hch p.1 z).2.2.2 p hp rfl
    exact ⟨keep p.1 p.2 ne nf nch e n, free p.1 p.2 nch e n, ne, nf, d⟩
theorem Inv.un {t' : Nat} (I : Inv X pins σ H s) (u : Un X.fs [] H H' s.heap h') (hok : HOk X.prog X.w H' h') : Inv X pins σ H' { s with heap := h', toks := t' } := by
  obtain ⟨m, ⟨o, es, ep, ho, r⟩, _⟩ := id I.loc
  obtain ⟨sl, hL⟩ := u.any ho I.free (by simp)
  exact I.step (g' := s.gens) (d' := s.drawn) (ch := []) (fun _ z => nomatch z) (fun b o _ hb _ e n => u.keep b o e n hb (by simp)) (fun b o _ hb _ e n => u.slot b o e n hb (by simp)) (fun b o _ e n => u.free b o e n (by simp)) (fun b o _ e => u.there b o e (by simp)) u.tups u.frzs u.tbls (fun m' hm => by
    obtain ⟨o', es', ep', ho', r'⟩ := hm
    rw [ho] at ho'; cases ho'
    exact ⟨_, es', ep', hL, r'⟩) hok I.bare
theorem Inv.call {g' : Array GenState} {t' : Nat} {d' : Drawn} {ch : List Addr} (I : Inv X pins σ H s) (u : Un (frs X.stack) ch H H' s.heap h') (hok : HOk X.prog X.w H' h') (hg : AllBare g')
    (hch : ∀ b ∈ ch, (b ∈ X.ex ∨ X.s₀.heap.objs.size ≤ b) ∧ b ≠ X.env.locals ∧ (∀ x c, X.env.cells.lookup x = some c → c ≠ b) ∧ ∀ p ∈ X.pn ++ pins, p.1 ≠ b) :
    Inv X pins σ H' { s with heap := h', gens := g', drawn := d', toks := t' } := by
  obtain ⟨m, ⟨o, es, ep, ho, r⟩, _⟩ := id I.loc
  obtain ⟨sl, hL⟩ := u.any ho I.free fun z => (hch _ z).2.1 rfl
  exact I.step (ch := ch) hch (fun b o hL hb hc e n => u.keep b o e n (fun z => (List.mem_cons.mp (I.stkSub b z)).elim hL hb) hc) (fun b o _ _ hc e n => u.any e n hc) (fun b o hc e n => u.free b o e n hc) (fun b o hc e => u.there b o e hc) u.tups u.frzs u.tbls (fun m' hm => by
    obtain ⟨o', es', ep', ho', r'⟩ := hm
    rw [ho] at ho'; cases ho'
    exact ⟨_, es', ep', hL, r'⟩) hok hg
theorem Inv.turned {t' : Nat} {it : Addr} (I : Inv X pins σ H s) (k : ∀ b o, b ≠ it → s.heap.get? b = some o → h'.get? b = some o) (hn : H it = none) (hL : it ≠ X.env.locals)
    (h1 : it ∈ X.ex ∨ X.s₀.heap.objs.size ≤ it) (h2 : ∀ x c, X.env.cells.lookup x = some c → c ≠ it) (h3 : ∀ p ∈ X.pn ++ pins, p.1 ≠ it) : Inv X pins σ H { s with heap := h', toks := t' } := by
  have nit : ∀ b u, H b = some u → b ≠ it := fun b u e z => by rw [z, hn] at e; cases e
  refine I.step (g' := s.gens) (d' := s.drawn) (ch := [it]) (fun b hb => ?_) (fun b o _ _ hc e _ => k b o (fun z => hc (by simp [z])) e) (fun b o _ _ hc e _ => ⟨o.slots, k b o (fun z => hc (by simp [z])) e⟩) (fun _ _ _ _ n => n)
    (fun b o hc e => ⟨o, k b o (fun z => hc (by simp [z])) e⟩) (fun _ _ e => e) (fun _ _ _ e => e) (fun b ps e => ⟨#[], by rw [e]; simp⟩) (fun m hm => ?_) (fun b u e => ?_) I.bare
  · have e : b = it := by simpa using hb
    subst e
    exact ⟨h1, hL, h2, h3⟩
  · obtain ⟨o, es, ep, ho, r⟩ := hm
    exact ⟨o, es, ep, k _ o (Ne.symm hL) ho, r⟩
  · refine (I.hok b u e).stay (fun c v hc q => k c v ?_ q) (fun _ q => q) fun _ _ q => q
    rcases hc with z | z
    · rw [z]; exact nit b u e
    · exact nit c _ z
theorem Inv.tok (I : Inv X pins σ H s) (t : Nat) : Inv X pins σ H { s with toks := t } := I.un (h' := s.heap) (t' := t) Un.refl I.hok
theorem Inv.kept {t' : Nat} (I : Inv X pins σ H s) (k : ∀ b u, s.heap.get? b = some u → h'.get? b = some u) : Inv X pins σ H { s with heap := h', toks := t' } := I.un (Un.kept k) (I.hok.kept k)
theorem Inv.laid {a : Addr} {o : HO} {t' : Nat} (I : Inv X pins σ H s) (k : ∀ b u, s.heap.get? b = some u → h'.get? b = some u) (hp : s.heap.objs.size ≤ a) (new : ObjOk X.prog X.w (upd H a o) h' a o) :
    Inv X pins σ (upd H a o) { s with heap := h', toks := t' } := I.un (Un.laid k hp (I.hok.fresh hp)) (I.hok.laid k hp new)
theorem Inv.write {x e : Addr} {o : HO} {t' : Nat} (I : Inv X pins σ H s) (mu : Mut (H x)) (he : e = x ∨ H e = some (.own x)) (k : ∀ b u, b ≠ e → s.heap.get? b = some u → h'.get? b = some u) (heo : ∃ u, h'.get? e = some u)
    (new : ObjOk X.prog X.w (upd H x o) h' x o) : Inv X pins σ (upd H x o) { s with heap := h', toks := t' } := I.un (Un.write mu he k heo) (I.hok.write mu he k heo new)
theorem Inv.pins_of {pins' : List (Addr × Obj)} (I : Inv X pins σ H s) (h : ∀ p ∈ pins', s.heap.get? p.1 = some p.2 ∧ H p.1 = none ∧ p.1 ≠ X.env.locals ∧ p.1 ∉ X.fs ∧ ∀ v, p.2.data ≠ .cell v) : Inv X pins' σ H s :=
  ⟨I.ok, I.os, I.bare, I.base, I.loc, I.cell, I.free, I.freeC, fun p hp => (List.mem_append.mp hp).elim (fun z => I.pin p (List.mem_append_left _ z)) (h p), I.hok, I.len⟩
theorem nodup_ix {N : List Str} (hN : N.Nodup) {i j : Nat} {x : Str} (a : N[i]? = some x) (b : N[j]? = some x) : i = j := by
  obtain ⟨h1, e1⟩ := List.getElem?_eq_some_iff.mp a
  obtain ⟨h2, e2⟩ := List.getElem?_eq_some_iff.mp b
  exact (List.getElem_inj hN).mp (e1.trans e2.symm)
theorem store_ok2 {M : Model} {A : Around} {E : Value → Shared → Prop} {i : Nat} {x : Str} {v : V} {u : Value} {Q : Unit → Shared → Prop} (I : Inv X pins σ H s) (hN : X.N.Nodup) (hi : X.N[i]? = some x) (hx : Loc X.env.scope x) (r : RelV v u)
    (h : ∀ s', Inv X pins (σ.set i (some v)) H s' → (∃ a, Heap.SameBut a s.heap s'.heap ∧ (a = X.env.locals ∨ X.env.cells.lookup x = some a)) → Q () s') (hf : X.fn x = true ∨ X.env.scope.names.lookup x = some .local := by first | exact .inl rfl | exact .inr rfl | assumption) : wpAny M A (storeName X.env x u) Q E s := by
  obtain ⟨m, hn, hl⟩ := id I.loc
  have hcls : (X.env.scope.kind == .class || (X.env.scope.kind == .module && X.env.locals != X.env.globals)) = false := by rw [I.ok.kind]; rfl
  have hiσ : i < σ.length := by rw [I.len]; exact (List.getElem?_eq_some_iff.mp hi).1
  have cne := I.cne
  have tracked : ∀ {a : Addr} {h' : Heap}, (∃ o, s.heap.get? a = some o ∧ H a = none) → Heap.SameBut a s.heap h' → HOk X.prog X.w H h' := fun {a h'} ha hs b ob e => by
    obtain ⟨_, _, hfree⟩ := ha
    refine (I.hok b ob e).stay (fun c w' hc q => (hs.2 c ?_).trans q) (fun _ q => q) fun _ _ q => q
    rintro rfl
    rcases hc with rfl | hc
    · rw [hfree] at e; cases e
    · rw [hfree] at hc; cases hc
  rcases hx with hk | hk
  · refine wpAny_storeName_local hk hn (fun h' hn' hs => ?_) hcls
    obtain ⟨oL, _, _, hoL, _⟩ := id hn
    refine h _ ⟨I.ok, I.os, I.bare, ⟨fun b o e n hb hx => ?_, fun b o e n hb hx => ?_, I.base.free, fun b o e hx => ?_, I.base.tups, I.base.frzs, I.base.tbls⟩, ⟨_, hn', fun j y v' e1 e2 e3 => ?_⟩, fun y c e => ?_, I.free, I.freeC, fun p hp => ?_, tracked ⟨oL, hoL, I.free⟩ hs, by simpa using I.len⟩ ⟨_, hs, .inl rfl⟩
    · exact (hs.2 b (Nat.ne_of_lt (Nat.lt_of_lt_of_le (Heap.lt_size e) I.ok.above))).trans (I.base.keep b o e n hb hx)
    · obtain ⟨sl, e1⟩ := I.base.slot b o e n hb hx
      exact ⟨sl, (hs.2 b (Nat.ne_of_lt (Nat.lt_of_lt_of_le (Heap.lt_size e) I.ok.above))).trans e1⟩
    · obtain ⟨o', e1⟩ := I.base.there b o e hx
      exact ⟨o', (hs.2 b (Nat.ne_of_lt (Nat.lt_of_lt_of_le (Heap.lt_size e) I.ok.above))).trans e1⟩
    · by_cases hj : j = i
      · subst hj
        rw [hi] at e1; cases e1
        rw [List.getElem?_set_self hiσ] at e2
        cases e2
        exact ⟨u, r, .inl ⟨hk, by simp⟩⟩
      · rw [List.getElem?_set_ne (Ne.symm hj)] at e2
        obtain ⟨u', r', q⟩ := hl j y v' e1 e2 e3
        refine ⟨u', r', ?_⟩
        rcases q with ⟨k, e⟩ | ⟨k, c, e, z⟩
        · refine .inl ⟨k, ?_⟩
          have : y ≠ x := fun e => hj (nodup_ix hN e1 (e ▸ hi))
          simp [this, e]
        · exact .inr ⟨k, c, e, z.sameBut hs (cne y c e)⟩
    · obtain ⟨w', z⟩ := I.cell y c e
      exact ⟨w', z.sameBut hs (cne y c e)⟩
    · obtain ⟨e, n, ne, nf, d⟩ := I.pin p hp
      exact ⟨(hs.2 p.1 ne).trans e, n, ne, nf, d⟩
  · have hfn : X.fn x = true := by
      rcases hf with z | z
      · exact z
      · rw [z] at hk; cases hk
    obtain ⟨c, hc⟩ := I.ok.has x (.inl hk)
    obtain ⟨w', z⟩ := I.cell x c hc
    refine wpAny_storeName_cell I.ok.kind hk hc z (fun h' hc' hs => ?_)
    obtain ⟨oc, hoc, hocd⟩ := id z
    refine h { s with heap := h' } ⟨I.ok, I.os, I.bare, ⟨fun b o e n hb hx => ?_, fun b o e n hb hx => ?_, I.base.free, fun b o e hx => ?_, I.base.tups, I.base.frzs, I.base.tbls⟩, ⟨m, hn.sameBut hs (Ne.symm (cne x c hc)), fun j y v' e1 e2 e3 => ?_⟩, fun y c' e => ?_, I.free, I.freeC, fun p hp => ?_, tracked ⟨oc, hoc, (I.freeC x c hc).resolve_right fun z => by rw [hfn] at z; cases z.1⟩ hs, by simpa using I.len⟩ ⟨c, hs, .inr hc⟩
    · exact (hs.2 b (Nat.ne_of_lt (Nat.lt_of_lt_of_le (Heap.lt_size e) (I.ok.cab x c hfn hc)))).trans (I.base.keep b o e n hb hx)
    · obtain ⟨sl, e1⟩ := I.base.slot b o e n hb hx
      exact ⟨sl, (hs.2 b (Nat.ne_of_lt (Nat.lt_of_lt_of_le (Heap.lt_size e) (I.ok.cab x c hfn hc)))).trans e1⟩
    · obtain ⟨o', e1⟩ := I.base.there b o e hx
      exact ⟨o', (hs.2 b (Nat.ne_of_lt (Nat.lt_of_lt_of_le (Heap.lt_size e) (I.ok.cab x c hfn hc)))).trans e1⟩
    · by_cases hj : j = i
      · subst hj
        rw [hi] at e1; cases e1
        rw [List.getElem?_set_self hiσ] at e2
        cases e2
        exact ⟨u, r, .inr ⟨.inl hk, c, hc, hc'⟩⟩
      · rw [List.getElem?_set_ne (Ne.symm hj)] at e2
        obtain ⟨u', r', q⟩ := hl j y v' e1 e2 e3
        refine ⟨u', r', ?_⟩
        rcases q with q | ⟨k, c', e, z'⟩
        · exact .inl q
        · refine .inr ⟨k, c', e, z'.sameBut hs ?_⟩
          rintro rfl
          exact hj (nodup_ix hN e1 (I.ok.inj _ _ _ e hc ▸ hi))
    · by_cases hcc : c' = c
      · subst hcc; exact ⟨_, hc'⟩
      · obtain ⟨w2, z2⟩ := I.cell y c' e
        exact ⟨w2, z2.sameBut hs hcc⟩
    · obtain ⟨e, n, ne, nf, d⟩ := I.pin p hp
      refine ⟨(hs.2 p.1 ?_).trans e, n, ne, nf, d⟩
      intro q
      rw [q, hoc] at e
      have q' : oc = p.2 := Option.some.inj e
      exact d w' (by rw [← q']; exact hocd)
theorem store_ok {M : Model} {A : Around} {E : Value → Shared → Prop} {i : Nat} {x : Str} {v : V} {u : Value} {Q : Unit → Shared → Prop} (I : Inv X pins σ H s) (hN : X.N.Nodup) (hi : X.N[i]? = some x) (hx : Loc X.env.scope x) (r : RelV v u)
    (h : ∀ s', Inv X pins (σ.set i (some v)) H s' → Q () s') (hf : X.fn x = true ∨ X.env.scope.names.lookup x = some .local := by first | exact .inl rfl | exact .inr rfl | assumption) : wpAny M A (storeName X.env x u) Q E s :=
  store_ok2 I hN hi hx r (fun s' I' _ => h s' I') hf
theorem Inv.call' {s' : Shared} {ch : List Addr} (I : Inv X pins σ H s) (ho : s'.os = s.os) (u : Un (frs X.stack) ch H H' s.heap s'.heap) (hok : HOk X.prog X.w H' s'.heap) (hg : AllBare s'.gens)
    (hch : ∀ b ∈ ch, (b ∈ X.ex ∨ X.s₀.heap.objs.size ≤ b) ∧ b ≠ X.env.locals ∧ (∀ x c, X.env.cells.lookup x = some c → c ≠ b) ∧ ∀ p ∈ X.pn ++ pins, p.1 ≠ b) : Inv X pins σ H' s' := by
  obtain ⟨h', g', d', t', o'⟩ := s'
  have e : o' = s.os := ho
  subst e
  exact I.call (g' := g') (t' := t') (d' := d') u hok hg hch
end
abbrev XK := Value → Option Addr → Hp → Prop
abbrev St := List (Option V)
abbrev VK := V → Hp → Prop
abbrev TE := St → Hp → VK → Prop
abbrev TT := St → Hp → (Bool → Hp → Prop) → Prop
abbrev TA := St → Hp → (List V → Hp → Prop) → Prop
structure Ends where
  nx : St → Hp → Prop
  rt : VK
  bk : St → Hp → Prop := fun _ _ => False
  ct : St → Hp → Prop := fun _ _ => False
abbrev TS := Ends → St → Hp → Prop
def EP (X : Cx) (pins : List (Addr × Obj)) (σ : St) (Q : VK) (u : Value) (s' : Shared) : Prop := ∃ v H', Inv X pins σ H' s' ∧ RelV v u ∧ Q v H'
def TP (X : Cx) (pins : List (Addr × Obj)) (σ : St) (Q : Bool → Hp → Prop) (b : Bool) (s' : Shared) : Prop := ∃ H', Inv X pins σ H' s' ∧ Q b H'
def AP (X : Cx) (pins : List (Addr × Obj)) (σ : St) (Q : List V → Hp → Prop) (us : List Value) (s' : Shared) : Prop := ∃ vs H', Inv X pins σ H' s' ∧ Vals vs us ∧ Q vs H'
def SP (X : Cx) (pins : List (Addr × Obj)) (D : Ends) (f : Flow) (s' : Shared) : Prop :=
  match f with
  | .next => ∃ σ' H', Inv X pins σ' H' s' ∧ D.nx σ' H'
  | .brk => ∃ σ' H', Inv X pins σ' H' s' ∧ D.bk σ' H'
  | .cont => ∃ σ' H', Inv X pins σ' H' s' ∧ D.ct σ' H'
  | .ret u => ∃ v σ' H', Inv X pins σ' H' s' ∧ RelV v u ∧ D.rt v H'
def PE (X : Cx) (e : Expr) (t : TE) : Prop :=
  ∀ (pins : List (Addr × Obj)) (s : Shared) (σ : St) (H : Hp) (Q : VK), Inv X pins σ H s → t σ H Q → wpAny (model X.prog X.w) X.A (eval e X.env) (EP X pins σ Q) X.xe s
def PT (X : Cx) (e : Expr) (t : TT) : Prop :=
  ∀ (pins : List (Addr × Obj)) (s : Shared) (σ : St) (H : Hp) (Q : Bool → Hp → Prop), Inv X pins σ H s → t σ H Q → wpAny (model X.prog X.w) X.A (isTrue e X.env (eval e X.env)) (TP X pins σ Q) X.xe s
def PW (X : Cx) (e : Expr) (t : TT) : Prop :=
  ∀ (whole : Sem Value) (pins : List (Addr × Obj)) (s : Shared) (σ : St) (H : Hp) (Q : Bool → Hp → Prop), Inv X pins σ H s → t σ H Q → wpAny (model X.prog X.w) X.A (isTrue e X.env whole) (TP X pins σ Q) X.xe s
theorem PW.pt {X : Cx} {e : Expr} {t : TT} (h : PW X e t) : PT X e t := h _
def PA (X : Cx) (es : List Expr) (t : TA) : Prop :=
  ∀ (pos : Pos) (pins : List (Addr × Obj)) (s : Shared) (σ : St) (H : Hp) (Q : List V → Hp → Prop), Inv X pins σ H s → t σ H Q → wpAny (model X.prog X.w) X.A (spliced (backTo pos (starEach es X.env))) (AP X pins σ Q) X.xe s
def PS (X : Cx) (st : Stmt) (t : TS) : Prop :=
  ∀ (pins : List (Addr × Obj)) (s : Shared) (σ : St) (H : Hp) (D : Ends), Inv X pins σ H s → t D σ H → wpAny (model X.prog X.w) X.A (exec st X.env) (SP X pins D) X.xe s
def PSs (X : Cx) (st : List Stmt) (t : TS) : Prop :=
  ∀ (pins : List (Addr × Obj)) (s : Shared) (σ : St) (H : Hp) (D : Ends), Inv X pins σ H s → t D σ H → wpAny (model X.prog X.w) X.A (execs st X.env) (SP X pins D) X.xe s
theorem thn {α : Type} {t : Sem α} {Q Q' : α → Shared → Prop} {M : Model} {A : Around} {E : Value → Shared → Prop} {s : Shared} (h : wpAny M A t Q E s) (hQ : ∀ a s, Q a s → Q' a s) : wpAny M A t Q' E s := wpAny_mono h hQ fun _ _ x => x
end L2
namespace L2
open PySem PySem.Spec PyProof.Rows
section
variable {X : Cx}
def tVar (i : Nat) : TE := fun σ H Q => ∃ v, σ[i]? = some (some v) ∧ Q v H
def tC (v : V) : TE := fun _ H Q => Q v H
theorem pe_var {i : Nat} {x : Str} {pos : Pos} (hN : X.N[i]? = some x) (hv : Vis X.env.scope x) (hd : (x == ("__debug__" : Str)) = false := by decide) (hcd : (x == ("__classdict__" : Str)) = false := by decide) : PE X (.Name x pos) (tVar i) := by
  intro pins s σ H Q I h
  obtain ⟨v, e, h⟩ := h
  obtain ⟨m, hn, hl⟩ := I.loc
  obtain ⟨u, r, l⟩ := hl i x v hN e hv
  have fin : EP X pins σ Q u s := ⟨v, H, I, r, h⟩
  rcases l with ⟨hk, hm⟩ | ⟨hk, c, hc, hcell⟩
  · exact wpAny_Name (wpAny_loadName_local I.ok.kind hk hn hm fin) hd
  · rcases hk with hk | hk
    · exact wpAny_Name (wpAny_loadName_cell I.ok.kind hk hc hcell fin) hd
    · exact wpAny_Name (wpAny_loadName_free I.ok.kind hk hc hcell fin hcd) hd
theorem pe_int {i j pos} : PE X (.Constant (.int i) j pos) (tC (.int i)) := fun _ _ _ H _ I h => wpAny_Constant_int ⟨.int i, H, I.tok _, ⟨_, rfl⟩, h⟩
theorem pe_bl {b j pos} : PE X (.Constant (.bool b) j pos) (tC (.bl b)) := fun _ _ _ H _ I h => Constant_bool ⟨.bl b, H, I, rfl, h⟩
theorem pe_non {j pos} : PE X (.Constant .none j pos) (tC .non) := fun _ _ _ H _ I h => Constant_none ⟨.non, H, I, rfl, h⟩
theorem pe_str {x j pos} : PE X (.Constant (.str x) j pos) (tC (.str x)) := fun _ _ _ H _ I h => Calls.Constant_str ⟨.str x, H, I.tok _, ⟨_, rfl⟩, h⟩
def Gl (X : Cx) (x : Str) : Prop := X.env.kindOf x = some .globalImplicit
theorem ld_glob {E : Value → Shared → Prop} {pins : List (Addr × Obj)} {s : Shared} {σ : St} {H : Hp} {x : Str} {u : Value} {pos : Pos} {Q : Value → Shared → Prop} (I : Inv X pins σ H s) (hg : Gl X x) (hm : X.mg x = some u) (h : Q u s)
    (hd : (x == ("__debug__" : Str)) = false := by decide) : wpAny (model X.prog X.w) X.A (eval (.Name x pos) X.env) Q E s :=
  Calls.Name_function_global I.ok.kind hg (Calls.loadGlobal_global (by rw [I.ok.glob]; exact I.mod.glob.keeps I.bk) hm h) hd
theorem ld_blt {E : Value → Shared → Prop} {pins : List (Addr × Obj)} {s : Shared} {σ : St} {H : Hp} {x : Str} {u : Value} {pos : Pos} {Q : Value → Shared → Prop} (I : Inv X pins σ H s) (hg : Gl X x) (hm : X.mg x = none) (hv : bootBuiltins x = some u) (h : Q u s)
    (hn : x ≠ "__name__" := by decide) (hd : (x == ("__debug__" : Str)) = false := by decide) : wpAny (model X.prog X.w) X.A (eval (.Name x pos) X.env) Q E s := by
  obtain ⟨mb, h1, h2⟩ := I.mod.blt
  exact Calls.Name_function_global I.ok.kind hg (Calls.loadGlobal_builtin (by rw [I.ok.glob]; exact I.mod.glob.keeps I.bk) hm (by rw [I.ok.blt]; exact h1.keeps I.bk) ((h2 x hn).trans hv) h) hd
theorem pe_glob {x : Str} {v : V} {u : Value} {pos : Pos} (hg : Gl X x) (hm : X.mg x = some u) (r : RelV v u) (hd : (x == ("__debug__" : Str)) = false := by decide) : PE X (.Name x pos) (tC v) :=
  fun _ _ _ H _ I h => ld_glob I hg hm ⟨v, H, I, r, h⟩ hd
theorem pe_bltn {x : Str} {v : V} {u : Value} {pos : Pos} (hg : Gl X x) (hm : X.mg x = none) (hv : bootBuiltins x = some u) (r : RelV v u) (hn : x ≠ "__name__" := by decide) (hd : (x == ("__debug__" : Str)) = false := by decide) : PE X (.Name x pos) (tC v) :=
  fun _ _ _ H _ I h => ld_blt I hg hm hv ⟨v, H, I, r, h⟩ hn hd
variable {a b : Expr} {ta tb : TE} {pos : Pos}
def PC (X : Cx) (op : CmpOp) (a b : Expr) (t : TE) : Prop :=
  ∀ (pins : List (Addr × Obj)) (s : Shared) (σ : St) (H : Hp) (Q : VK), Inv X pins σ H s → t σ H Q →
    wpAny (model X.prog X.w) X.A (eval a X.env) (fun v s₁ => wpAny (model X.prog X.w) X.A (eval b X.env) (fun u s₂ => wpAny (model X.prog X.w) X.A (compareOp op v u) (EP X pins σ Q) X.xe s₂) X.xe s₁) X.xe s
def tB (t : TE) : TT := fun σ H Q => t σ H fun x H1 => ∃ c, x = .bl c ∧ Q c H1
theorem pt_cmp {op : CmpOp} {t : TE} (h : PC X op a b t) (h1 : behindInMarks op b = false := by first | exact nobehind _ (by decide) (by decide) | rfl) : PT X (.Compare a [op] [b] pos) (tB t) := by
  intro pins s σ H Q I hw
  refine wpAny_isTrue_Compare1 (thn (h pins s σ H _ I hw) fun v s1 h1 => thn h1 fun u s2 h2 => thn h2 fun c s3 ⟨x, H1, I1, r1, q1⟩ => ?_) h1
  obtain ⟨d, rfl, q⟩ := q1
  cases r1
  exact wpAny_truthy_bool ⟨H1, I1, q⟩
theorem pt_val {e : Expr} {t : TE} (h : PE X e t) (he : ∀ whole, isTrue e X.env whole = (do let v ← whole; standAt e.pos; holding [v] (truthy v)) := by intro _; rfl) : PT X e (tB t) := by
  intro pins s σ H Q I hw
  refine isTrue_plain (thn (h pins s σ H _ I hw) fun v s1 ⟨x, H1, I1, r1, q1⟩ => ?_) (he _)
  obtain ⟨d, rfl, q⟩ := q1
  cases r1
  exact wpAny_truthy_bool ⟨H1, I1, q⟩
variable {tA tB' : TT} {rest : List Expr}
def tAnd (t u : TT) : TT := fun σ H Q => t σ H fun c H1 => if c = true then u σ H1 Q else Q false H1
def tOr (t u : TT) : TT := fun σ H Q => t σ H fun c H1 => if c = true then Q true H1 else u σ H1 Q
def tNot (t : TT) : TT := fun σ H Q => t σ H fun c H1 => Q (!c) H1
theorem pw_and1 (ha : PT X a tA) : PW X (.BoolOp .And [a] pos) tA := by
  intro wh pins s σ H Q I h
  refine isTrue_and (thn (ha pins s σ H Q I h) fun c s1 e => ?_)
  cases c with
  | true => exact isTrue_and_nil e
  | false => exact e
theorem pw_or1 (ha : PT X a tA) : PW X (.BoolOp .Or [a] pos) tA := by
  intro wh pins s σ H Q I h
  refine isTrue_or (thn (ha pins s σ H Q I h) fun c s1 e => ?_)
  cases c with
  | false => exact isTrue_or_nil e
  | true => exact e
theorem pw_and (ha : PT X a tA) (hb : PW X (.BoolOp .And (b :: rest) pos) tB') : PW X (.BoolOp .And (a :: b :: rest) pos) (tAnd tA tB') := by
  intro wh pins s σ H Q I h
  refine isTrue_and (thn (ha pins s σ H _ I h) fun c s1 ⟨H1, I1, q1⟩ => ?_)
  cases c with
  | true => exact hb wh pins s1 σ H1 Q I1 q1
  | false => exact ⟨H1, I1, q1⟩
theorem pw_or (ha : PT X a tA) (hb : PW X (.BoolOp .Or (b :: rest) pos) tB') : PW X (.BoolOp .Or (a :: b :: rest) pos) (tOr tA tB') := by
  intro wh pins s σ H Q I h
  refine isTrue_or (thn (ha pins s σ H _ I h) fun c s1 ⟨H1, I1, q1⟩ => ?_)
  cases c with
  | true => exact ⟨H1, I1, q1⟩
  | false => exact hb wh pins s1 σ H1 Q I1 q1
theorem pt_not (ha : PT X a tA) : PT X (.UnaryOp .Not a pos) (tNot tA) := by
  intro pins s σ H Q I h
  exact isTrue_not (ha pins s σ H (fun c H1 => Q (!c) H1) I h)
def tAndV (ta tb : TE) : TE := fun σ H Q => ta σ H fun x H1 => ∃ c, x = .bl c ∧ if c = true then tb σ H1 Q else Q (.bl false) H1
theorem pe_one {op} {t : TE} (h : PE X a t) : PE X (.BoolOp op [a] pos) t := fun pins s σ H Q I hw => BoolOp_one (h pins s σ H Q I hw)
theorem pe_and (ha : PE X a ta) (hb : PE X (.BoolOp .And (b :: rest) pos) tb) : PE X (.BoolOp .And (a :: b :: rest) pos) (tAndV ta tb) := by
  intro pins s σ H Q I h
  refine BoolOp_and (thn (ha pins s σ H _ I h) fun v s1 ⟨x, H1, I1, r1, q1⟩ => ?_)
  obtain ⟨c, rfl, q1⟩ := q1
  cases r1
  refine wpAny_truthy_bool ?_
  cases c with
  | true => exact hb pins s1 σ H1 Q I1 q1
  | false => exact ⟨.bl false, H1, I1, rfl, q1⟩
def tIf (t : TT) (ta tb : TE) : TE := fun σ H Q => t σ H fun c H1 => if c = true then ta σ H1 Q else tb σ H1 Q
theorem pe_ifExp {c : Expr} (hc : PT X c tA) (ha : PE X a ta) (hb : PE X b tb) : PE X (.IfExp c a b pos) (tIf tA ta tb) := by
  intro pins s σ H Q I h
  refine wpAny_IfExp (thn (hc pins s σ H _ I h) fun d s1 ⟨H1, I1, q1⟩ => ?_)
  cases d with
  | true => exact ha pins s1 σ H1 Q I1 q1
  | false => exact hb pins s1 σ H1 Q I1 q1
end
end L2
namespace L2
open PySem PySem.Spec PyProof.Rows
def SqL (K : PySem.W.Frag) (H : Hp) (a : Addr) (xs : List V) : Prop :=
  Rd H a (.lst xs) ∨
    ∃ (o : Obj) (its : Array Value) (n : Nat), K.lookup a = some o ∧ o.cls = .type "list" ∧ o.dict = none ∧ o.data = .seq its n ∧ its.size ≤ sizeLine ∧ Vals xs its.toList
def SqT (K : PySem.W.Frag) (H : Hp) (a : Addr) (xs : List V) : Prop :=
  Rd H a (.tup xs) ∨
    ∃ (o : Obj) (its : Array Value) (n : Nat), K.lookup a = some o ∧ o.cls = .type "tuple" ∧ o.data = .seq its n ∧ its.size ≤ sizeLine ∧ Vals xs its.toList
def absV : Value → Option V
  | .none => some .non
  | .bool b => some (.bl b)
  | .int i _ => some (.int i)
  | .str x _ => some (.str x)
  | .bytes b _ => some (.byt b)
  | .float b _ => some (.flt b)
  | .ref a => some (.ref a)
  | .type n => some (.ty n)
  | _ => none
theorem RelV.abs {x : V} {u : Value} (r : RelV x u) : absV u = some x := by
  cases x with
  | non => cases r; rfl
  | bl _ => cases r; rfl
  | int _ => obtain ⟨t, rfl⟩ := r; rfl
  | str _ => obtain ⟨t, rfl⟩ := r; rfl
  | byt _ => obtain ⟨t, rfl⟩ := r; rfl
  | flt _ => obtain ⟨t, rfl⟩ := r; rfl
  | ref _ => cases r; rfl
  | ty _ => cases r; rfl
theorem RelV.inj {x y : V} {u : Value} (r : RelV x u) (q : RelV y u) : x = y := Option.some.inj (r.abs.symm.trans q.abs)
theorem Vals.inj : ∀ {xs ys : List V} {us : List Value}, Vals xs us → Vals ys us → xs = ys
  | _, _, _, .nil, .nil => rfl
  | _, _, _, .cons r t, .cons r' t' => by rw [r.inj r', Vals.inj t t']
section
variable {X : Cx} {pins : List (Addr × Obj)} {σ : St} {H : Hp} {s : Shared} {a : Addr} {xs ys : List V}
theorem SqL.of {K : PySem.W.Frag} (h : H a = some (.lst xs)) : SqL K H a xs := .inl (.inl h)
theorem Inv.list (I : Inv X pins σ H s) (h : SqL X.K H a xs) : ∃ its : List Value, Vals xs its ∧ PlainL s.heap a its.toArray ∧ xs.length ≤ sizeLine := by
  rcases h with h | ⟨o, its, n, hk, hc, hd, hs, hz, r⟩
  · obtain ⟨z, its, n, r, e⟩ := h.ok I.hok
    exact ⟨its, r, ⟨_, n, e, rfl, rfl, rfl⟩, z⟩
  · refine ⟨its.toList, r, ⟨o, n, I.kIn a o hk, hc, hd, by simpa using hs⟩, ?_⟩
    have e := r.length
    simp only [Array.length_toList] at e
    omega
theorem Inv.tuple (I : Inv X pins σ H s) (h : SqT X.K H a xs) : ∃ its : List Value, Vals xs its ∧ IsTup s.heap a its.toArray ∧ xs.length ≤ sizeLine := by
  rcases h with h | ⟨o, its, n, hk, hc, hs, hz, r⟩
  · obtain ⟨z, its, r, p⟩ := h.ok I.hok
    exact ⟨its, r, p, z⟩
  · refine ⟨its.toList, r, ⟨o, I.kIn a o hk, hc, n, by simpa using hs⟩, ?_⟩
    have e := r.length
    simp only [Array.length_toList] at e
    omega
theorem Inv.list_inj (I : Inv X pins σ H s) (h : SqL X.K H a xs) (h' : SqL X.K H a ys) : xs = ys := by
  obtain ⟨its, r, ⟨o, n, e, _, _, d⟩, _⟩ := I.list h
  obtain ⟨its', r', ⟨o', n', e', _, _, d'⟩, _⟩ := I.list h'
  rw [e] at e'; cases e'
  rw [d] at d'
  injection d' with d1 _
  have : its = its' := by simpa using congrArg Array.toList d1
  subst this
  exact r.inj r'
end
abbrev Cx.wish (X : Cx) (E : Value → Shared → Prop) : Cx := { X with xe := E }
abbrev Cx.nox (X : Cx) : Cx := X.wish fun _ _ => False
theorem Cx.Ok.wish {X : Cx} (ok : X.Ok) (E : Value → Shared → Prop) : (X.wish E).Ok :=
  ⟨ok.mod, ok.kind, ok.glob, ok.blt, ok.above, ok.inj, ok.has, ok.cab, ok.hd, ok.frames, ok.stk, ok.exf, ok.bs, ok.bsz, ok.noex, ok.exfs, ok.funs, ok.frf⟩
theorem Cx.Ok.unwish {X : Cx} {E : Value → Shared → Prop} (ok : (X.wish E).Ok) : X.Ok :=
  ⟨ok.mod, ok.kind, ok.glob, ok.blt, ok.above, ok.inj, ok.has, ok.cab, ok.hd, ok.frames, ok.stk, ok.exf, ok.bs, ok.bsz, ok.noex, ok.exfs, ok.funs, ok.frf⟩
section
variable {X : Cx} {pins : List (Addr × Obj)} {σ : St} {H : Hp} {s : Shared} {E : Value → Shared → Prop}
theorem Inv.wish (I : Inv X pins σ H s) (E : Value → Shared → Prop) : Inv (X.wish E) pins σ H s := ⟨I.ok.wish E, I.os, I.bare, I.base, I.loc, I.cell, I.free, I.freeC, I.pin, I.hok, I.len⟩
theorem Inv.unwish (I : Inv (X.wish E) pins σ H s) : Inv X pins σ H s := ⟨I.ok.unwish, I.os, I.bare, I.base, I.loc, I.cell, I.free, I.freeC, I.pin, I.hok, I.len⟩
theorem SP.unwish {D : Ends} {f : Flow} {s' : Shared} (h : SP (X.wish E) pins D f s') : SP X pins D f s' := by
  cases f with
  | next => obtain ⟨σ', H', I, q⟩ := h; exact ⟨σ', H', I.unwish, q⟩
  | brk => obtain ⟨σ', H', I, q⟩ := h; exact ⟨σ', H', I.unwish, q⟩
  | cont => obtain ⟨σ', H', I, q⟩ := h; exact ⟨σ', H', I.unwish, q⟩
  | ret u => obtain ⟨v, σ', H', I, r, q⟩ := h; exact ⟨v, σ', H', I.unwish, r, q⟩
theorem PSs.nox {st : List Stmt} {t : TS} (h : PSs X.nox st t) : PSs X st t := fun pins s σ H D I hw =>
  wpAny_mono (h pins s σ H D (I.wish _) hw) (fun _ _ q => q.unwish) fun _ _ z => False.elim z
end
section
variable {X : Cx} {st : Stmt} {rest : List Stmt} {t u : TS} {e : Expr} {te : TE} {pos : Pos}
def tNext : TS := fun D σ H => D.nx σ H
def tSeq (t u : TS) : TS := fun D σ H => t { D with nx := u D } σ H
theorem pss_nil : PSs X [] tNext := fun _ _ σ H _ I h => wpAny_execs_nil ⟨σ, H, I, h⟩
theorem pss_cons (h1 : PS X st t) (h2 : PSs X rest u) : PSs X (st :: rest) (tSeq t u) := by
  intro pins s σ H D I h
  refine wpAny_execs_cons (thn (h1 pins s σ H { D with nx := u D } I h) fun f s1 q => ?_)
  cases f with
  | next =>
    obtain ⟨σ', H', I', q⟩ := q
    exact h2 pins s1 σ' H' D I' q
  | ret v => exact q
  | brk => exact q
  | cont => exact q
theorem pss_one (h1 : PS X st t) : PSs X [st] t := by
  intro pins s σ H D I h
  refine wpAny_execs_cons (thn (h1 pins s σ H D I h) fun f s1 q => ?_)
  cases f with
  | next => exact wpAny_execs_nil q
  | ret v => exact q
  | brk => exact q
  | cont => exact q
theorem Inv.quiet {pins : List (Addr × Obj)} {σ : St} {H : Hp} {s : Shared} (I : Inv X pins σ H s) : interactive X.env = false := by simp [interactive, I.ok.kind]
def tDrop (te : TE) : TS := fun D σ H => te σ H fun _ H1 => D.nx σ H1
theorem ps_expr (he : PE X e te) (hs : swapsWith e none pos.line X.env = pure false := by rfl) : PS X (.Expr e pos) (tDrop te) := by
  intro pins s σ H D I h
  exact wpAny_Expr_any (thn (he pins s σ H _ I h) fun v s1 ⟨x, H1, I1, r1, q1⟩ => ⟨σ, H1, I1, q1⟩) I.quiet hs
def tRet (te : TE) : TS := fun D σ H => te σ H D.rt
theorem ps_ret (he : PE X e te) : PS X (.Return (some e) pos) (tRet te) := by
  intro pins s σ H D I h
  exact wpAny_Return_some (thn (he pins s σ H _ I h) fun v s1 ⟨x, H1, I1, r1, q1⟩ => ⟨x, σ, H1, I1, r1, q1⟩)
def tIfS (c : TT) (t u : TS) : TS := fun D σ H => c σ H fun b H1 => if b = true then t D σ H1 else u D σ H1
theorem ps_if {c : Expr} {a b : List Stmt} {tc : TT} (hc : PT X c tc) (ha : PSs X a t) (hb : PSs X b u) : PS X (.If c a b pos) (tIfS tc t u) := by
  intro pins s σ H D I h
  refine wpAny_If (thn (hc pins s σ H _ I h) fun d s1 ⟨H1, I1, q1⟩ => ?_)
  cases d with
  | true => exact ha pins s1 σ H1 D I1 q1
  | false => exact hb pins s1 σ H1 D I1 q1
def tNever : TS := fun _ _ _ => False
theorem pss_never {sts : List Stmt} : PSs X sts tNever := fun _ _ _ _ _ _ h => h.elim
end
abbrev TG := V → St → Hp → (St → Hp → Prop) → Prop
abbrev TGs := List V → St → Hp → (St → Hp → Prop) → Prop
def PG (X : Cx) (target : Expr) (t : TG) : Prop :=
  ∀ (pins : List (Addr × Obj)) (s : Shared) (σ : St) (H : Hp) (v : V) (u : Value) (Q : St → Hp → Prop), Inv X pins σ H s → RelV v u → t v σ H Q →
    wpAny (model X.prog X.w) X.A (assign target X.env u) (fun _ s' => ∃ σ' H', Inv X pins σ' H' s' ∧ Q σ' H') X.xe s
def PGs (X : Cx) (ts : List Expr) (t : TGs) : Prop :=
  ∀ (pins : List (Addr × Obj)) (s : Shared) (σ : St) (H : Hp) (vs : List V) (us : List Value) (Q : St → Hp → Prop), Inv X pins σ H s → Vals vs us → t vs σ H Q →
    wpAny (model X.prog X.w) X.A (assignInOrder ((assignEach ts X.env).map (·.2)) us) (fun _ s' => ∃ σ' H', Inv X pins σ' H' s' ∧ Q σ' H') X.xe s
abbrev TSet := V → V → V → Hp → (Hp → Prop) → Prop
def PSet (X : Cx) (t : TSet) : Prop :=
  ∀ (pins : List (Addr × Obj)) (s : Shared) (σ : St) (H : Hp) (o i v : V) (ov iv u : Value) (Q : Hp → Prop), Inv X pins σ H s → RelV o ov → RelV i iv → RelV v u → t o i v H Q →
    wpAny (model X.prog X.w) X.A (setItem ov iv u) (fun _ s' => ∃ H', Inv X pins σ H' s' ∧ Q H') X.xe s
section
variable {X : Cx} {pos : Pos}
def gName (i : Nat) : TG := fun v σ H Q => Q (σ.set i (some v)) H
theorem pg_name {i : Nat} {x : Str} (hN : X.N.Nodup) (hi : X.N[i]? = some x) (hx : Loc X.env.scope x) (hf : X.fn x = true ∨ X.env.scope.names.lookup x = some .local := by first | exact .inl rfl | exact .inr rfl | assumption) : PG X (.Name x pos) (gName i) := by
  intro pins s σ H v u Q I r h
  exact wpAny_assign_Name (store_ok I hN hi hx r (fun s' I' => ⟨_, H, I', h⟩) hf)
def gNil : TGs := fun vs σ H Q => vs = [] ∧ Q σ H
def gCons (t : TG) (u : TGs) : TGs := fun vs σ H Q => ∃ v r, vs = v :: r ∧ t v σ H fun σ' H' => u r σ' H' Q
theorem pgs_nil : PGs X [] gNil := by
  intro pins s σ H vs us Q I r h
  obtain ⟨e, h⟩ := h
  subst e
  cases r
  exact assignInOrder_nil ⟨σ, H, I, h⟩
theorem pgs_cons {e : Expr} {es : List Expr} {t : TG} {u : TGs} (h1 : PG X e t) (h2 : PGs X es u)
    (hs : (assignEach (e :: es) X.env).map (·.2) = assign e X.env :: (assignEach es X.env).map (·.2) := by rfl) : PGs X (e :: es) (gCons t u) := by
  intro pins s σ H vs us Q I r h
  obtain ⟨v, vr, e1, h⟩ := h
  subst e1
  cases r with
  | cons r rr =>
    rw [hs]
    refine assignInOrder_cons (thn (h1 pins s σ H _ _ _ I r h) fun _ s1 ⟨σ1, H1, I1, q1⟩ => ?_)
    exact h2 pins s1 σ1 H1 _ _ Q I1 rr q1
def gTup (K : PySem.W.Frag) (n : Nat) (t : TGs) : TG := fun v σ H Q => ∃ a xs, v = .ref a ∧ SqT K H a xs ∧ xs.length = n ∧ t xs σ H Q
theorem pg_tup {es : List Expr} {k : Nat} {t : TGs} {n : Nat} (hc : X.calm = true) (h : PGs X es t)
    (hn : (assignEach es X.env).length = n := by rfl) (hst : (assignEach es X.env).findIdx? (·.1) = none := by rfl) : PG X (.Tuple es k pos) (gTup X.K n t) := by
  intro pins s σ H v u Q I r hw
  obtain ⟨a, xs, e1, hq, hl, hw⟩ := hw
  subst e1
  cases r
  obtain ⟨its, rv, ht, hz⟩ := I.tuple hq
  refine assign_Tuple_tuple (I.ok.hd hc) ht (by simp [hn, ← hl, rv.length]) hst fun h' hx => ?_
  have I1 : Inv X pins σ H { s with heap := h' } := I.kept (t' := s.toks) fun b o e => hx b o (Nat.ne_of_lt (Heap.lt_size e)) e
  exact h pins _ σ H xs _ Q I1 (by simpa using rv) hw
def gSub (to ti : TE) (t : TSet) : TG := fun v σ H Q => to σ H fun o H1 => ti σ H1 fun i H2 => t o i v H2 fun H3 => Q σ H3
theorem pg_sub {o i : Expr} {to ti : TE} {t : TSet} (ho : PE X o to) (hi : PE X i ti) (hs : PSet X t)
    (ha : ∀ v, assign (.Subscript o i pos) X.env v = (do
      let ov ← holding [v] (eval o X.env)
      let iv ← holding [v, ov] (eval i X.env)
      standAt pos
      holding [v, ov, iv] (setItem ov iv v)
      release [v, ov, iv] []) := by intro _; rfl) : PG X (.Subscript o i pos) (gSub to ti t) := by
  intro pins s σ H v u Q I r h
  rw [ha]
  refine wpAny_bind (wpAny_holding (thn (ho pins s σ H _ I h) fun ov s1 ⟨x, H1, I1, r1, q1⟩ => ?_))
  refine wpAny_bind (wpAny_holding (thn (hi pins s1 σ H1 _ I1 q1) fun iv s2 ⟨y, H2, I2, r2, q2⟩ => ?_))
  refine wpAny_bind (wpAny_standAt (wpAny_bind (wpAny_holding (thn (hs pins s2 σ H2 x y v ov iv u _ I2 r1 r2 r q2) fun _ s3 ⟨H3, I3, q3⟩ => ?_))))
  exact wpAny_release ⟨σ, H3, I3, q3⟩
def tAsg (te : TE) (g : TG) : TS := fun D σ H => te σ H fun x H1 => g x σ H1 D.nx
theorem ps_asg {tg e : Expr} {te : TE} {g : TG} (he : PE X e te) (hg : PG X tg g) (hs : swapsWithSole [tg] e pos.line X.env = pure false := by rfl) (hw : swappedStores [tg] e X.env = pure none := by rfl)
    (h1 : (assignEach [tg] X.env).map (·.2) = [assign tg X.env] := by rfl) : PS X (.Assign [tg] e pos) (tAsg te g) := by
  intro pins s σ H D I h
  refine wpAny_Assign_stores (thn (he pins s σ H _ I h) fun v s1 ⟨x, H1, I1, r1, q1⟩ => ?_) hs hw
  rw [h1]
  exact thn (hg pins s1 σ H1 x v _ I1 r1 q1) fun _ s2 q => q
theorem ps_set {i : Nat} {x : Str} {e : Expr} {te : TE} {pos' : Pos} (hN : X.N.Nodup) (hi : X.N[i]? = some x) (hx : Loc X.env.scope x) (he : PE X e te) (hs : swapsWith e (some (.Name x pos')) pos.line X.env = pure false := by rfl) (hf : X.fn x = true ∨ X.env.scope.names.lookup x = some .local := by first | exact .inl rfl | exact .inr rfl | assumption) :
    PS X (.Assign [.Name x pos'] e pos) (tAsg te (gName i)) := by
  intro pins s σ H D I h
  refine wpAny_Assign_Name (thn (he pins s σ H _ I h) fun v s1 ⟨y, H1, I1, r1, q1⟩ => ?_) hs
  exact store_ok I1 hN hi hx r1 (fun s2 I2 => ⟨_, H1, I2, q1⟩) hf
end
section
variable {X : Cx} {pos : Pos}
def tWhile (c : TT) (tb : TS) : TS := fun D σ H => ∃ W : Nat → St → Hp → Prop, (∃ m, W m σ H) ∧ ∀ m σ H, W m σ H →
  c σ H fun b H1 => if b = true then ∃ N : St → Hp → Prop, (∀ σ' H', N σ' H' → ∃ m', m' < m ∧ W m' σ' H') ∧ tb { D with nx := N, ct := N, bk := D.nx } σ H1 else D.nx σ H1
theorem ps_while {c : Expr} {body : List Stmt} {tc : TT} {tb : TS} (hp : PassesOwn (model X.prog X.w) X.A X.env X.xe) (hc : PT X c tc) (hb : PSs X body tb) : PS X (.While c body [] pos) (tWhile tc tb) := by
  intro pins s σ H D I h
  obtain ⟨W, ⟨m0, w0⟩, turn⟩ := h
  refine wpAny_While (codeAny_whileLoop (fun n s' => ∃ σ' H', Inv X pins σ' H' s' ∧ W n σ' H') ?_ m0 ⟨σ, H, I, w0⟩)
  rintro n s1 ⟨σ1, H1, I1, w1⟩
  refine wpAny_passesOwn hp (thn (hc pins s1 σ1 H1 _ I1 (turn n σ1 H1 w1)) fun b s2 ⟨H2, I2, q2⟩ => ?_)
  cases b with
  | true =>
    obtain ⟨N, hN, q2⟩ := q2
    rw [if_pos rfl]
    refine wpAny_passesOwn hp (thn (hb pins s2 σ1 H2 _ I2 q2) fun f s3 q3 => ?_)
    cases f with
    | next =>
      obtain ⟨σ3, H3, I3, n3⟩ := q3
      obtain ⟨m', hm, w3⟩ := hN σ3 H3 n3
      exact ⟨m', hm, σ3, H3, I3, w3⟩
    | cont =>
      obtain ⟨σ3, H3, I3, n3⟩ := q3
      obtain ⟨m', hm, w3⟩ := hN σ3 H3 n3
      exact ⟨m', hm, σ3, H3, I3, w3⟩
    | brk => exact q3
    | ret v => exact q3
  | false =>
    rw [if_neg Bool.false_ne_true]
    exact wpAny_execs_nil ⟨σ1, H2, I2, q2⟩
end
structure It where
  go : Nat → Hp → Prop
  yld : Nat → Hp → V → Hp → Prop
  stop : Nat → Hp → Prop
def FpOk (X : Cx) (pins : List (Addr × Obj)) (H : Hp) (b : Addr) : Prop :=
  H b = none ∧ b ≠ X.env.locals ∧ b ∉ X.fs ∧ (b ∈ X.ex ∨ X.s₀.heap.objs.size ≤ b) ∧ (∀ x c, X.env.cells.lookup x = some c → c ≠ b) ∧ ∀ p ∈ X.pn ++ pins, p.1 ≠ b
theorem Inv.fpOk {X : Cx} {pins : List (Addr × Obj)} {σ : St} {H H' : Hp} {s : Shared} {b : Addr} (I : Inv X pins σ H s) (hb : s.heap.objs.size ≤ b) (hn : H' b = none) : FpOk X pins H' b := by
  refine ⟨hn, Nat.ne_of_gt (Nat.lt_of_lt_of_le I.lt hb), I.nofs hb, .inr (Nat.le_trans I.sz hb), fun x c e z => ?_, fun p hp z => ?_⟩
  · obtain ⟨v, q⟩ := I.cell x c e
    exact absurd (Nat.lt_of_lt_of_le q.lt (by rw [z]; exact hb)) (Nat.lt_irrefl _)
  · exact absurd (Nat.lt_of_lt_of_le (Heap.lt_size (I.pin p hp).1) (by rw [z]; exact hb)) (Nat.lt_irrefl _)
structure Turn (P : Program) (w : World) (K : PySem.W.Frag) (tg : Expr) (J : It) (fp : List Addr) (it : Addr) (tn : Nat → Heap → Prop) : Prop where
  mem : it ∈ fp
  obj : ∀ i h, tn i h → ∀ b ∈ fp, ∃ o, h.get? b = some o ∧ ∀ v, o.data ≠ .cell v
  keep : ∀ i h h', tn i h → (∀ b ∈ fp, ∀ o, h.get? b = some o → h'.get? b = some o) → tn i h'
  item : ∀ (X : Cx), X.prog = P → X.w = w → X.K = K → X.calm = true → ∀ (i : Nat) (pins : List (Addr × Obj)) (s : Shared) (σ : St) (H : Hp) (E : Value → Shared → Prop), Inv X pins σ H s → (∀ b ∈ fp, FpOk X pins H b) → tn i s.heap → J.go i H →
    wpAny (model P w) X.A (pyNext (.ref it)) (fun r s1 => ∃ u, r = some u ∧
      wpAny (model P w) X.A (letOwnedTupleGo tg (.ref it) u) (fun _ s2 => ∃ x H', Inv X pins σ H' s2 ∧ RelV x u ∧ J.yld i H x H' ∧ tn (i + 1) s2.heap ∧ ∀ b ∈ fp, H' b = none) E s1) E s
  done : ∀ (X : Cx), X.prog = P → X.w = w → X.K = K → X.calm = true → ∀ (i : Nat) (pins : List (Addr × Obj)) (s : Shared) (σ : St) (H : Hp) (E : Value → Shared → Prop), Inv X pins σ H s → (∀ b ∈ fp, FpOk X pins H b) → tn i s.heap → J.stop i H →
    wpAny (model P w) X.A (pyNext (.ref it)) (fun r s1 => r = none ∧ Inv X pins σ H s1) E s
  self : ∀ (A : Around) (i : Nat) (s : Shared) (Q : Value → Shared → Prop) (E : Value → Shared → Prop), tn i s.heap → Q (.ref it) s → wpAny (model P w) A (pyIter (.ref it)) Q E s
abbrev TI := St → Hp → (It → Hp → Prop) → Prop
def PIE (X : Cx) (pins : List (Addr × Obj)) (σ : St) (tg : Expr) (R : It → Hp → Prop) (itv : Value) (s2 : Shared) : Prop :=
  ∃ (it : Addr) (fp : List Addr) (tn : Nat → Heap → Prop) (J : It) (H' : Hp), itv = .ref it ∧ Inv X pins σ H' s2 ∧ Turn X.prog X.w X.K tg J fp it tn ∧ tn 0 s2.heap ∧ (∀ b ∈ fp, FpOk X pins H' b) ∧ R J H'
def PI (X : Cx) (tg iter : Expr) (wi : TI) : Prop :=
  ∀ (pins : List (Addr × Obj)) (s : Shared) (σ : St) (H : Hp) (R : It → Hp → Prop), Inv X pins σ H s → wi σ H R →
    wpAny (model X.prog X.w) X.A (eval iter X.env) (fun v s1 => wpAny (model X.prog X.w) X.A (pyIter v) (PIE X pins σ tg R) X.xe s1) X.xe s
theorem go_of {M : Model} {A : Around} {E : Value → Shared → Prop} {s : Shared} {tg : Expr} {it : Addr} {u : Value} {o : Obj} {n : String} {vs : Array Value} {Q : Unit → Shared → Prop} (ho : s.heap.get? it = some o) (hc : o.cls = .type n) (hd : o.data = .fields vs)
    (hn : ["enumerate", "zip", "dict_itemiterator", "dict_reverseitemiterator", "odict_iterator", "itertools.zip_longest", "itertools.pairwise"].contains n = false) (hQ : Q () s) : wpAny M A (letOwnedTupleGo tg (.ref it) u) Q E s := by
  unfold letOwnedTupleGo
  cases tg <;> first
    | exact wpAny_pure hQ
    | (cases u <;> first
        | exact wpAny_pure hQ
        | (refine wpAny_bind (wpAny_load ho ?_)
           rw [hc, hd]
           show wpAny M A (if (["enumerate", "zip", "dict_itemiterator", "dict_reverseitemiterator", "odict_iterator", "itertools.zip_longest", "itertools.pairwise"].contains n && vs[0]? == some (rawInt _)) = true then _ else _) Q E s
           rw [if_neg (by intro h; rw [hn, Bool.false_and] at h; cases h)]
           exact wpAny_pure hQ))
def Itl (K : PySem.W.Frag) (a : Addr) : It :=
  ⟨fun i H => ∃ xs x, SqL K H a xs ∧ xs[i]? = some x, fun i H x H' => H' = H ∧ ∀ xs, SqL K H a xs → xs[i]? = some x, fun i H => ∃ xs, SqL K H a xs ∧ xs.length ≤ i⟩
def Itr (lo : Int) (n : Nat) : It := ⟨fun i _ => i < n, fun i H x H' => H' = H ∧ x = .int (lo + i), fun i _ => n ≤ i⟩
theorem turn_list {P : Program} {w : World} {K : PySem.W.Frag} {tg : Expr} (a it : Addr) : Turn P w K tg (Itl K a) [it] it (fun i h => h.IsListIter it a i) where
  mem := by simp
  obj := fun i h st b hb => by
    have e : b = it := by simpa using hb
    subst e
    obtain ⟨o, e, c, d⟩ := st
    exact ⟨o, e, fun v z => by rw [d] at z; cases z⟩
  keep := fun i h h' st k => st.at fun o e => k it (by simp) o e
  item := by
    intro X hP hw hK hc i pins s σ H E I hf st hg
    subst hP hw hK
    obtain ⟨xs, x, hq, hx⟩ := hg
    obtain ⟨its, rv, p, hz⟩ := I.list hq
    obtain ⟨u, hu, ru⟩ := rv.get hx
    obtain ⟨f0, f1, f2, f3, f4, f5⟩ := hf it (by simp)
    refine wpAny_pyNext_list_item st p.isList (x := u) (by simpa using hu) fun h' st' sb => ?_
    have I1 : Inv X pins σ H { s with heap := h' } := I.turned (t' := s.toks) (fun b o hb e => (sb.2 b hb).trans e) f0 f1 f3 f4 f5
    obtain ⟨o, e, c, d⟩ := id st'
    exact ⟨u, rfl, go_of (s := { s with heap := h' }) e c d (by decide) ⟨x, H, I1, ru, ⟨rfl, fun ys hy => by rw [I.list_inj hy hq]; exact hx⟩, st', fun b hb => (hf b hb).1⟩⟩
  done := by
    intro X hP hw hK hc i pins s σ H E I hf st hg
    subst hP hw hK
    obtain ⟨xs, hq, hx⟩ := hg
    obtain ⟨its, rv, p, hz⟩ := I.list hq
    obtain ⟨f0, f1, f2, f3, f4, f5⟩ := hf it (by simp)
    have hl := rv.length
    exact wpAny_pyNext_list_end (I.ok.hd hc) st p.isList (by simp; omega) fun h' eb => ⟨rfl, I.turned (t' := s.toks) (fun b o hb e => eb b o hb e) f0 f1 f3 f4 f5⟩
  self := fun _ _ _ _ _ st h => wpAny_pyIter_listiter st h
theorem turn_range {P : Program} {w : World} {K : PySem.W.Frag} {tg : Expr} (it : Addr) (lo : Int) (n : Nat) : Turn P w K tg (Itr lo n) [it] it (fun i h => IsRangeIter h it (lo + (i : Nat) * 1) ((n : Int) - (i : Nat)) 1) where
  mem := by simp
  obj := fun i h st b hb => by
    have e : b = it := by simpa using hb
    subst e
    exact ⟨_, st, fun v z => by
      have z' : Data.fields _ = Data.cell v := z
      cases z'⟩
  keep := fun i h h' st k => k it (by simp) _ st
  item := by
    intro X hP hw hK hc i pins s σ H E I hf st hg
    subst hP hw hK
    obtain ⟨f0, f1, f2, f3, f4, f5⟩ := hf it (by simp)
    have W := Walks.range (prog := X.prog) (w := X.w) (I.ok.hd hc) it lo 1 n
    refine W.item i s _ _ hg st fun v h' tk hv st' kk => ?_
    obtain ⟨t, rfl⟩ := hv
    have I1 : Inv X pins σ H { s with heap := h', toks := tk } := I.turned (fun b o hb e => kk b o (by simpa using hb) e) f0 f1 f3 f4 f5
    refine ⟨_, rfl, go_of (s := { s with heap := h', toks := tk }) (n := "range_iterator") st' rfl rfl (by decide) ⟨.int (lo + i), H, I1, ⟨t, ?_⟩, ⟨rfl, rfl⟩, st', fun b hb => (hf b hb).1⟩⟩
    rw [Int.mul_one]
  done := by
    intro X hP hw hK hc i pins s σ H E I hf st hg
    subst hP hw hK
    obtain ⟨f0, f1, f2, f3, f4, f5⟩ := hf it (by simp)
    exact wpAny_pyNext_range_end (I.ok.hd hc) st (by have : n ≤ i := hg; omega) fun h' eb => ⟨rfl, I.turned (t' := s.toks) (fun b o hb e => eb b o hb e) f0 f1 f3 f4 f5⟩
  self := fun _ _ _ _ _ st h => wpAny_pyIter_rangeiter st h
end L2
namespace L2
open PySem PySem.Spec PyProof.Rows
section
variable {X : Cx} {tg : Expr}
def iList (K : PySem.W.Frag) (tl : TE) : TI := fun σ H R => tl σ H fun x H1 => ∃ a, x = .ref a ∧ (∃ xs, SqL K H1 a xs) ∧ R (Itl K a) H1
theorem pi_list {l : Expr} {tl : TE} (hl : PE X l tl) : PI X tg l (iList X.K tl) := by
  intro pins s σ H R I h
  refine thn (hl pins s σ H _ I h) fun v s1 ⟨x, H1, I1, r1, q1⟩ => ?_
  obtain ⟨a, e, ⟨xs, hq⟩, q⟩ := q1
  subst e
  cases r1
  obtain ⟨its, rv, p, hz⟩ := I1.list hq
  refine wpAny_pyIter_list p.isList ?_
  refine ⟨s1.heap.objs.size, [s1.heap.objs.size], _, _, H1, rfl, I1.kept (t' := s1.toks) fun b o e => Heap.get?_push_of_some _ e, turn_list a _, ⟨_, Heap.get?_push_size _ rfl, rfl, rfl⟩, fun b hb => ?_, q⟩
  have e : b = s1.heap.objs.size := by simpa using hb
  subst e
  exact I1.fpOk (Nat.le_refl _) (I1.hok.fresh (Nat.le_refl _))
theorem range_it {pins : List (Addr × Obj)} {σ : St} {H : Hp} {s : Shared} {R : It → Hp → Prop} {E : Value → Shared → Prop} {lo hi : Int} {t u v : Tok} {tk : Nat} (I : Inv X pins σ H s) (h1 : -(2 ^ 62) ≤ lo) (h2 : lo < 2 ^ 62) (h3 : -(2 ^ 62) ≤ hi) (h4 : hi < 2 ^ 62)
    (q : R (Itr lo (hi - lo).toNat) H) : wpAny (model X.prog X.w) X.A (pyIter (.ref s.heap.objs.size)) (PIE X pins σ tg R) E { s with heap := s.heap.push { cls := .type "range", data := .fields #[.int lo t, .int hi u, .int 1 v] }, toks := tk } := by
  refine wpAny_pyIter_range (IsRange.new ..) (small_one h1 h2 h3 h4) ?_
  have I1 : Inv X pins σ H { s with heap := s.heap.push { cls := .type "range", data := .fields #[.int lo t, .int hi u, .int 1 v] }, toks := tk } := I.kept fun b o e => Heap.get?_push_of_some _ e
  refine ⟨(s.heap.push { cls := .type "range", data := .fields #[.int lo t, .int hi u, .int 1 v] }).objs.size, [(s.heap.push { cls := .type "range", data := .fields #[.int lo t, .int hi u, .int 1 v] }).objs.size], _, _, H, rfl,
    I1.kept (t' := tk) fun b o e => Heap.get?_push_of_some _ e, turn_range _ lo (hi - lo).toNat, ?_, fun b hb => ?_, q⟩
  · have e1 : lo + ((0 : Nat) : Int) * 1 = lo := by simp
    have e2 : (((hi - lo).toNat : Nat) : Int) - ((0 : Nat) : Int) = Builtin.Range.rangeSize lo hi 1 := by rw [rangeSize_one]; split <;> omega
    show IsRangeIter _ _ (lo + ((0 : Nat) : Int) * 1) ((((hi - lo).toNat : Nat) : Int) - ((0 : Nat) : Int)) 1
    rw [e1, e2]
    exact Heap.get?_push_size _ rfl
  · have e : b = (s.heap.push { cls := .type "range", data := .fields #[.int lo t, .int hi u, .int 1 v] }).objs.size := by simpa using hb
    subst e
    exact I1.fpOk (Nat.le_refl _) (I1.hok.fresh (Nat.le_refl _))
def iRng1 (ta : TA) : TI := fun σ H R => ta σ H fun vs H1 => ∃ j : Int, vs = [.int j] ∧ -(2 ^ 62) ≤ j ∧ j < 2 ^ 62 ∧ R (Itr 0 j.toNat) H1
theorem pi_range1 {a : Expr} {ta : TA} {p pos : Pos} (hg : Gl X "range") (hm : X.mg "range" = none) (ha : PA X [a] ta) (hs : starEach [a] X.env = [(false, eval a X.env)] := by rfl) : PI X tg (.Call (.Name "range" p) [a] [] pos) (iRng1 ta) := by
  intro pins s σ H R I h
  refine Call_ (ld_blt I hg hm boot_range (PyProof.Rows.callWith_type1 (thn (ha pos pins s σ H _ I h) fun us s1 ⟨vs, H1, I1, r1, q1⟩ => ?_) hs rfl))
  obtain ⟨j, e, q1, q2, q⟩ := q1
  subst e
  cases r1 with
  | cons r rr =>
    cases rr
    obtain ⟨t, rfl⟩ := r
    exact call_range_1 (range_it I1 (by omega) (by omega) q1 q2 (by simpa using q))
def tFor (wi : TI) (g : TG) (tb : TS) : TS := fun D σ H => wi σ H fun J H1 => ∃ W : Nat → Nat → St → Hp → Prop, (∃ m, W 0 m σ H1) ∧ ∀ i m σ H, W i m σ H →
  (J.stop i H ∧ D.nx σ H) ∨ (J.go i H ∧ ∃ N : St → Hp → Prop, (∀ σ' H', N σ' H' → ∃ m', m' < m ∧ W (i + 1) m' σ' H') ∧ ∀ x H', J.yld i H x H' → g x σ H' fun σ2 H2 => tb { D with nx := N, ct := N, bk := D.nx } σ2 H2)
def pinsAt (fp : List Addr) (h : Heap) : List (Addr × Obj) := fp.filterMap fun b => (h.get? b).map fun o => (b, o)
theorem mem_pinsAt {fp : List Addr} {h : Heap} {b : Addr} {o : Obj} (hb : b ∈ fp) (e : h.get? b = some o) : (b, o) ∈ pinsAt fp h := List.mem_filterMap.mpr ⟨b, hb, by rw [e]; rfl⟩
theorem of_pinsAt {fp : List Addr} {h : Heap} {p : Addr × Obj} (hp : p ∈ pinsAt fp h) : p.1 ∈ fp ∧ h.get? p.1 = some p.2 := by
  obtain ⟨b, hb, e⟩ := List.mem_filterMap.mp hp
  cases q : h.get? b with
  | none => rw [q] at e; cases e
  | some o =>
    rw [q] at e
    have e' : (b, o) = p := Option.some.inj e
    subst e'
    exact ⟨hb, q⟩
theorem Inv.pinned {pins : List (Addr × Obj)} {σ : St} {H : Hp} {s : Shared} {fp : List Addr} (I : Inv X pins σ H s) (hf : ∀ b ∈ fp, FpOk X pins H b) (ho : ∀ b ∈ fp, ∃ o, s.heap.get? b = some o ∧ ∀ v, o.data ≠ .cell v) : Inv X (pins ++ pinsAt fp s.heap) σ H s :=
  I.pins_of fun p hp => (List.mem_append.mp hp).elim (fun z => I.pin p (List.mem_append_right _ z)) fun z => by
    obtain ⟨hb, e⟩ := of_pinsAt z
    obtain ⟨f0, f1, f2, _⟩ := hf p.1 hb
    obtain ⟨o, e', d⟩ := ho p.1 hb
    rw [e] at e'; cases e'
    exact ⟨e, f0, f1, f2, d⟩
theorem Inv.unpinned {pins pl : List (Addr × Obj)} {σ : St} {H : Hp} {s : Shared} (I : Inv X (pins ++ pl) σ H s) : Inv X pins σ H s := I.pins_of fun p hp => I.pin p (List.mem_append_right _ (List.mem_append_left _ hp))
theorem ps_for {iter : Expr} {body : List Stmt} {wi : TI} {g : TG} {tb : TS} {pos : Pos} (hp : PassesOwn (model X.prog X.w) X.A X.env X.xe) (hc : X.calm = true) (hi : PI X tg iter wi) (hg : PG X tg g) (hb : PSs X body tb)
    (hs : ∀ x, foldedSetIterable iter X.env x = pure x := by intro _; rfl) : PS X (.For tg iter body [] pos) (tFor wi g tb) := by
  intro pins s σ H D I h
  refine wpAny_For (thn (hi pins s σ H _ I h) fun v s1 h1 => thn h1 fun itv s2 h2 => ?_) hs
  obtain ⟨it, fp, tn, J, H2, e, I2, T, st2, f2, W, ⟨m0, w0⟩, turn⟩ := h2
  subst e
  -- what stays true of the iterator's objects through the loop
  have stat : ∀ {H' : Hp}, (∀ b ∈ fp, H' b = none) → ∀ b ∈ fp, FpOk X pins H' b := fun hn b hb => ⟨hn b hb, (f2 b hb).2⟩
  refine codeAny_forLoop_any (fun n s' => ∃ i σ' H', Inv X pins σ' H' s' ∧ tn i s'.heap ∧ (∀ b ∈ fp, H' b = none) ∧ W i n σ' H') ?_ m0 ⟨0, σ, H2, I2, st2, fun b hb => (f2 b hb).1, w0⟩
  rintro n s3 ⟨i, σ3, H3, I3, st3, fr3, w3⟩
  rcases turn i n σ3 H3 w3 with ⟨stop, qn⟩ | ⟨go, N, hN, step⟩
  · refine wpAny_passesOwn hp (thn (T.done X rfl rfl rfl hc i pins s3 σ3 H3 X.xe I3 (stat fr3) st3 stop) fun r s4 ⟨hr, I4⟩ => ?_)
    subst hr
    exact wpAny_execs_nil ⟨σ3, H3, I4, qn⟩
  · refine wpAny_passesOwn hp (thn (T.item X rfl rfl rfl hc i pins s3 σ3 H3 X.xe I3 (stat fr3) st3 go) fun r s4 ⟨u, hr, h4⟩ => ?_)
    subst hr
    refine wpAny_passesOwn hp (thn h4 fun _ s5 ⟨x, H5, I5, r5, y5, st5, fr5⟩ => ?_)
    have I5' := I5.pinned (stat fr5) (T.obj _ _ st5)
    refine wpAny_passesOwn hp (thn (hg _ s5 σ3 H5 x u _ I5' r5 (step x H5 y5)) fun _ s6 ⟨σ6, H6, I6, q6⟩ => ?_)
    refine wpAny_passesOwn hp (thn (hb _ s6 σ6 H6 _ I6 q6) fun f s7 q7 => ?_)
    have again : ∀ {σ7 : St} {H7 : Hp}, Inv X (pins ++ pinsAt fp s5.heap) σ7 H7 s7 → N σ7 H7 → ∃ m, m < n ∧ ∃ i σ' H', Inv X pins σ' H' s7 ∧ tn i s7.heap ∧ (∀ b ∈ fp, H' b = none) ∧ W i m σ' H' := fun {σ7 H7} I7 n7 => by
      obtain ⟨m', hm, w7⟩ := hN σ7 H7 n7
      refine ⟨m', hm, i + 1, σ7, H7, I7.unpinned, T.keep _ _ _ st5 fun b hb o e => (I7.pin (b, o) (List.mem_append_right _ (List.mem_append_right _ (mem_pinsAt hb e)))).1, fun b hb => ?_, w7⟩
      obtain ⟨o, e, d⟩ := T.obj _ _ st5 b hb
      exact (I7.pin (b, o) (List.mem_append_right _ (List.mem_append_right _ (mem_pinsAt hb e)))).2.1
    cases f with
    | next => obtain ⟨σ7, H7, I7, n7⟩ := q7; exact again I7 n7
    | cont => obtain ⟨σ7, H7, I7, n7⟩ := q7; exact again I7 n7
    | brk => obtain ⟨σ7, H7, I7, q7⟩ := q7; exact ⟨σ7, H7, I7.unpinned, q7⟩
    | ret v => obtain ⟨x7, σ7, H7, I7, r7, q7⟩ := q7; exact ⟨x7, σ7, H7, I7.unpinned, r7, q7⟩
end
theorem for_list {K : PySem.W.Frag} {a : Addr} {xs : List V} {g : TG} {tb : TS} {D : Ends} {σ : St} {H : Hp} (Pv : Nat → St → Hp → Prop) (h0 : Pv 0 σ H) (hl : ∀ i σ H, i ≤ xs.length → Pv i σ H → SqL K H a xs)
    (hs : ∀ i x σ H, xs[i]? = some x → Pv i σ H → g x σ H fun σ2 H2 => tb { D with nx := Pv (i + 1), ct := Pv (i + 1), bk := D.nx } σ2 H2) (hd : ∀ σ H, Pv xs.length σ H → D.nx σ H) :
    ∃ W : Nat → Nat → St → Hp → Prop, (∃ m, W 0 m σ H) ∧ ∀ i m σ H, W i m σ H →
      ((Itl K a).stop i H ∧ D.nx σ H) ∨ ((Itl K a).go i H ∧ ∃ N : St → Hp → Prop, (∀ σ' H', N σ' H' → ∃ m', m' < m ∧ W (i + 1) m' σ' H') ∧ ∀ x H', (Itl K a).yld i H x H' → g x σ H' fun σ2 H2 => tb { D with nx := N, ct := N, bk := D.nx } σ2 H2) := by
  refine ⟨fun i m σ H => m = xs.length - i ∧ i ≤ xs.length ∧ Pv i σ H, ⟨xs.length, by simp, Nat.zero_le _, h0⟩, ?_⟩
  rintro i m σ H ⟨rfl, hi, p⟩
  have q := hl i σ H hi p
  by_cases hlt : i < xs.length
  · refine .inr ⟨⟨xs, xs[i], q, by simp [hlt]⟩, Pv (i + 1), fun σ' H' p' => ⟨xs.length - (i + 1), by omega, rfl, hlt, p'⟩, fun x H' y => ?_⟩
    obtain ⟨e, y⟩ := y
    subst e
    exact hs i x σ _ (y xs q) p
  · have e : i = xs.length := by omega
    subst e
    exact .inl ⟨⟨xs, q, Nat.le_refl _⟩, hd σ H p⟩
theorem for_range {lo : Int} {n : Nat} {g : TG} {tb : TS} {D : Ends} {σ : St} {H : Hp} (Pv : Nat → St → Hp → Prop) (h0 : Pv 0 σ H)
    (hs : ∀ i σ H, i < n → Pv i σ H → g (.int (lo + i)) σ H fun σ2 H2 => tb { D with nx := Pv (i + 1), ct := Pv (i + 1), bk := D.nx } σ2 H2) (hd : ∀ σ H, Pv n σ H → D.nx σ H) :
    ∃ W : Nat → Nat → St → Hp → Prop, (∃ m, W 0 m σ H) ∧ ∀ i m σ H, W i m σ H →
      ((Itr lo n).stop i H ∧ D.nx σ H) ∨ ((Itr lo n).go i H ∧ ∃ N : St → Hp → Prop, (∀ σ' H', N σ' H' → ∃ m', m' < m ∧ W (i + 1) m' σ' H') ∧ ∀ x H', (Itr lo n).yld i H x H' → g x σ H' fun σ2 H2 => tb { D with nx := N, ct := N, bk := D.nx } σ2 H2) := by
  refine ⟨fun i m σ H => m = n - i ∧ i ≤ n ∧ Pv i σ H, ⟨n, by simp, Nat.zero_le _, h0⟩, ?_⟩
  rintro i m σ H ⟨rfl, hi, p⟩
  by_cases hlt : i < n
  · refine .inr ⟨hlt, Pv (i + 1), fun σ' H' p' => ⟨n - (i + 1), by omega, rfl, hlt, p'⟩, fun x H' y => ?_⟩
    obtain ⟨e, y⟩ := y
    subst e y
    exact hs i σ _ hlt p
  · have e : i = n := by omega
    subst e
    exact .inl ⟨Nat.le_refl _, hd σ H p⟩
theorem while_by {c : TT} {tb : TS} {D : Ends} {σ : St} {H : Hp} (Pv : St → Hp → Prop) (μ : St → Hp → Nat) (h0 : Pv σ H)
    (hs : ∀ σ H, Pv σ H → c σ H fun b H1 => if b = true then tb { D with nx := fun σ' H' => Pv σ' H' ∧ μ σ' H' < μ σ H, ct := fun σ' H' => Pv σ' H' ∧ μ σ' H' < μ σ H, bk := D.nx } σ H1 else D.nx σ H1)
    (mono : ∀ σ H Q Q', (∀ b H1, Q b H1 → Q' b H1) → c σ H Q → c σ H Q') : tWhile c tb D σ H := by
  refine ⟨fun m σ H => m = μ σ H ∧ Pv σ H, ⟨_, rfl, h0⟩, ?_⟩
  rintro m σ H ⟨rfl, p⟩
  refine mono σ H _ _ (fun b H1 q => ?_) (hs σ H p)
  cases b with
  | true => exact ⟨_, fun σ' H' ⟨p', l⟩ => ⟨_, l, rfl, p'⟩, q⟩
  | false => exact q
end L2
namespace L2
open PySem PySem.Spec PyProof.Rows
abbrev R2 := V → V → Hp → VK → Prop
def OpR (X : Cx) (f : Value → Value → Sem Value) (r : R2) : Prop :=
  ∀ (pins : List (Addr × Obj)) (s : Shared) (σ : St) (H : Hp) (x y : V) (v u : Value) (Q : VK), Inv X pins σ H s → RelV x v → RelV y u → r x y H Q →
    wpAny (model X.prog X.w) X.A (f v u) (EP X pins σ Q) X.xe s
def UnR (X : Cx) (f : Value → Sem Value) (r : V → Hp → VK → Prop) : Prop :=
  ∀ (pins : List (Addr × Obj)) (s : Shared) (σ : St) (H : Hp) (x : V) (v : Value) (Q : VK), Inv X pins σ H s → RelV x v → r x H Q →
    wpAny (model X.prog X.w) X.A (f v) (EP X pins σ Q) X.xe s
def CallR (X : Cx) (f : Value) (r : List V → Hp → VK → Prop) : Prop :=
  ∀ (pins : List (Addr × Obj)) (s : Shared) (σ : St) (H : Hp) (xs : List V) (us : List Value) (Q : VK), Inv X pins σ H s → Vals xs us → r xs H Q →
    wpAny (model X.prog X.w) X.A (call f us) (EP X pins σ Q) X.xe s
def tOp (r : R2) (ta tb : TE) : TE := fun σ H Q => ta σ H fun x H1 => tb σ H1 fun y H2 => r x y H2 Q
def tUn (r : V → Hp → VK → Prop) (ta : TE) : TE := fun σ H Q => ta σ H fun x H1 => r x H1 Q
def rI (C : Int → Int → Prop) (g : Int → Int → V) : R2 := fun x y H Q => ∃ i j, x = .int i ∧ y = .int j ∧ C i j ∧ Q (g i j) H
def rI0 (g : Int → Int → V) : R2 := fun x y H Q => ∃ i j, x = .int i ∧ y = .int j ∧ Q (g i j) H
def rU (g : Int → V) : V → Hp → VK → Prop := fun x H Q => ∃ i, x = .int i ∧ Q (g i) H
section
variable {X : Cx} {a b c : Expr} {ta tb tc : TE} {pos : Pos}
theorem binT (ha : PE X a ta) (hb : PE X b tb) {pins : List (Addr × Obj)} {s : Shared} {σ : St} {H : Hp} {R : V → V → Hp → Prop} (I : Inv X pins σ H s)
    (h : ta σ H fun x H1 => tb σ H1 fun y H2 => R x y H2) {Q : Value → Shared → Prop} {f : Value → Value → Sem Value}
    (hf : ∀ v u s2 x y H2, Inv X pins σ H2 s2 → RelV x v → RelV y u → R x y H2 → wpAny (model X.prog X.w) X.A (f v u) Q X.xe s2) :
    wpAny (model X.prog X.w) X.A (eval a X.env) (fun v s₁ => wpAny (model X.prog X.w) X.A (eval b X.env) (fun u s₂ => wpAny (model X.prog X.w) X.A (f v u) Q X.xe s₂) X.xe s₁) X.xe s := by
  refine thn (ha pins s σ H _ I h) fun v s1 ⟨x, H1, I1, r1, q1⟩ => ?_
  refine thn (hb pins s1 σ H1 _ I1 q1) fun u s2 ⟨y, H2, I2, r2, q2⟩ => ?_
  exact hf v u s2 x y H2 I2 r1 r2 q2
theorem pe_op {op : Operator} {r : R2} (ho : OpR X (binaryOp op) r) (ha : PE X a ta) (hb : PE X b tb) : PE X (.BinOp a op b pos) (tOp r ta tb) := by
  intro pins s σ H Q I h
  exact wpAny_BinOp (binT ha hb I h fun v u s2 x y H2 I2 rx ry q => ho pins s2 σ H2 x y v u Q I2 rx ry q)
theorem pe_un {op : UnaryOp} {r : V → Hp → VK → Prop} (ho : UnR X (unaryOp op) r) (ha : PE X a ta) : PE X (.UnaryOp op a pos) (tUn r ta) := by
  intro pins s σ H Q I h
  exact UnaryOp_ (thn (ha pins s σ H _ I h) fun v s1 ⟨x, H1, I1, r1, q1⟩ => ho pins s1 σ H1 x v Q I1 r1 q1)
theorem opI {f : Value → Value → Sem Value} {C : Int → Int → Prop} {g : Int → Int → Int}
    (rule : ∀ (i j : Int) (t u : Tok) (s : Shared) (Q : Value → Shared → Prop) (E : Value → Shared → Prop), C i j → Q (.int (g i j) s.toks) { s with toks := s.toks + 1 } → wpAny (model X.prog X.w) X.A (f (.int i t) (.int j u)) Q E s) :
    OpR X f (rI C fun i j => .int (g i j)) := by
  intro pins s σ H x y v u Q I rx ry h
  obtain ⟨i, j, rfl, rfl, hc, q⟩ := h
  obtain ⟨t, rfl⟩ := rx
  obtain ⟨t', rfl⟩ := ry
  exact rule i j t t' s _ _ hc ⟨.int (g i j), H, I.tok _, ⟨_, rfl⟩, q⟩
theorem opI0 {f : Value → Value → Sem Value} {g : Int → Int → Int}
    (rule : ∀ (i j : Int) (t u : Tok) (s : Shared) (Q : Value → Shared → Prop) (E : Value → Shared → Prop), Q (.int (g i j) s.toks) { s with toks := s.toks + 1 } → wpAny (model X.prog X.w) X.A (f (.int i t) (.int j u)) Q E s) :
    OpR X f (rI0 fun i j => .int (g i j)) := by
  intro pins s σ H x y v u Q I rx ry h
  obtain ⟨i, j, rfl, rfl, q⟩ := h
  obtain ⟨t, rfl⟩ := rx
  obtain ⟨t', rfl⟩ := ry
  exact rule i j t t' s _ _ ⟨.int (g i j), H, I.tok _, ⟨_, rfl⟩, q⟩
theorem opB0 {f : Value → Value → Sem Value} {g : Int → Int → Bool}
    (rule : ∀ (i j : Int) (t u : Tok) (s : Shared) (Q : Value → Shared → Prop) (E : Value → Shared → Prop), Q (.bool (g i j)) s → wpAny (model X.prog X.w) X.A (f (.int i t) (.int j u)) Q E s) :
    OpR X f (rI0 fun i j => .bl (g i j)) := by
  intro pins s σ H x y v u Q I rx ry h
  obtain ⟨i, j, rfl, rfl, q⟩ := h
  obtain ⟨t, rfl⟩ := rx
  obtain ⟨t', rfl⟩ := ry
  exact rule i j t t' s _ _ ⟨.bl (g i j), H, I, rfl, q⟩
def CDiv (i j : Int) : Prop := 0 < j ∧ j < 1073741824
def CPow (i j : Int) : Prop := 0 ≤ j ∧ j ≤ 1000000 ∧ i.natAbs < 2 ^ 64
def CMul (i j : Int) : Prop := (-(2 ^ 64) < i ∧ i < 2 ^ 64) ∨ (-(2 ^ 64) < j ∧ j < 2 ^ 64)
theorem CMul.ok {i j : Int} (h : CMul i j) : IntMulOk i j := by
  rcases h with ⟨h1, h2⟩ | ⟨h1, h2⟩
  · exact .of_left (intBits_le_64 h1 h2)
  · exact .of_right (intBits_le_64 h1 h2)
theorem two_pow_nn (k : Nat) : (0 : Int) ≤ 2 ^ k := by
  rw [two_pow_cast]
  exact Int.natCast_nonneg _
theorem op_add : OpR X (binaryOp .Add) (rI0 fun i j => .int (i + j)) := opI0 fun _ _ _ _ _ _ _ q => add_int q
theorem op_sub : OpR X (binaryOp .Sub) (rI0 fun i j => .int (i - j)) := opI0 fun _ _ _ _ _ _ _ q => sub_int q
theorem op_mul : OpR X (binaryOp .Mult) (rI CMul fun i j => .int (i * j)) := opI fun _ _ _ _ _ _ _ hc q => mul_int q hc.ok
theorem op_fdiv : OpR X (binaryOp .FloorDiv) (rI CDiv fun i j => .int (i / j)) := opI fun i j _ _ _ _ _ hc q => by
  have h1 : (0 : Int) < j := hc.1
  have h2 : j < 1073741824 := hc.2
  exact floordiv_int (by omega) (by rw [Int.fdiv_eq_ediv_of_nonneg i (by omega)]; exact q) (.inl (PyProof.noPylong_small (by omega)))
theorem op_mod : OpR X (binaryOp .Mod) (rI (fun _ j => 0 < j) fun i j => .int (i % j)) := opI fun i j _ _ _ _ _ hc q => by
  have h1 : (0 : Int) < j := hc
  exact mod_int' (by omega) (by rw [Int.fmod_eq_emod_of_nonneg i (by omega)]; exact q)
theorem op_shl : OpR X (binaryOp .LShift) (rI CPow fun i j => .int (i * 2 ^ j.toNat)) := opI fun _ _ _ _ _ _ _ hc q => lshift_int_small hc.1 hc.2.1 hc.2.2 q
theorem op_shr : OpR X (binaryOp .RShift) (rI (fun _ j => 0 ≤ j) fun i j => .int (i / 2 ^ j.toNat)) := opI fun i j _ _ _ _ _ hc q =>
  rshift_int hc (by rw [Int.fdiv_eq_ediv_of_nonneg i (two_pow_nn _)]; exact q)
theorem op_and : OpR X (binaryOp .BitAnd) (rI0 fun i j => .int (Builtin.bitAnd i j)) := opI0 fun _ _ _ _ _ _ _ q => and_int q
theorem unI {f : Value → Sem Value} {g : Int → Int}
    (rule : ∀ (i : Int) (t : Tok) (s : Shared) (Q : Value → Shared → Prop) (E : Value → Shared → Prop), Q (.int (g i) s.toks) { s with toks := s.toks + 1 } → wpAny (model X.prog X.w) X.A (f (.int i t)) Q E s) :
    UnR X f (rU fun i => .int (g i)) := by
  intro pins s σ H x v Q I rx h
  obtain ⟨i, rfl, q⟩ := h
  obtain ⟨t, rfl⟩ := rx
  exact rule i t s _ _ ⟨.int (g i), H, I.tok _, ⟨_, rfl⟩, q⟩
theorem un_neg : UnR X (unaryOp .USub) (rU fun i => .int (-i)) := unI fun _ _ _ _ _ q => neg_int q
end
def scal : V → V → Bool
  | .non, .non => true | .non, .int _ => true | .int _, .non => true | .non, .bl _ => true | .bl _, .non => true | .non, .str _ => true | .str _, .non => true
  | .int _, .int _ => true | .bl _, .bl _ => true | .str _, .str _ => true | .byt _, .byt _ => true
  | .int _, .str _ => true | .str _, .int _ => true | .bl _, .str _ => true | .str _, .bl _ => true
  | _, _ => false
def rEq : R2 := fun x y H Q => scal x y = true ∧ Q (.bl (decide (x = y))) H
def rNe : R2 := fun x y H Q => scal x y = true ∧ Q (.bl (!decide (x = y))) H
theorem dec_int {i j : Int} : decide (V.int i = V.int j) = (i == j) := by
  rw [Bool.eq_iff_iff]
  simp
theorem dec_bl {i j : Bool} : decide (V.bl i = V.bl j) = (i == j) := by
  rw [Bool.eq_iff_iff]
  simp
theorem dec_str {i j : Str} : decide (V.str i = V.str j) = (i == j) := by
  rw [Bool.eq_iff_iff]
  simp
theorem dec_byt {i j : Array UInt8} : decide (V.byt i = V.byt j) = (i.toList == j.toList) := by
  rw [Bool.eq_iff_iff]
  cases i
  cases j
  simp
section
variable {X : Cx} {a b c : Expr} {ta tb tc : TE} {pos : Pos}
theorem fin_bl {pins : List (Addr × Obj)} {σ : St} {H : Hp} {s : Shared} {Q : VK} {k k' : Bool} (I : Inv X pins σ H s) (q : Q (.bl k) H) (e : k = k') : EP X pins σ Q (.bool k') s := by
  subst e
  exact ⟨.bl k, H, I, rfl, q⟩
theorem op_eq : OpR X (compareOp .Eq) rEq := by
  intro pins s σ H x y v u Q I rx ry h
  obtain ⟨hs, q⟩ := h
  cases x with
  | non =>
    cases rx
    cases y with
    | non => cases ry; exact PySem.EqNone.eq_none_none (fin_bl I q (by simp))
    | bl j => cases ry; exact PySem.EqNone.eq_none_bool (fin_bl I q (by simp))
    | int j => obtain ⟨t', rfl⟩ := ry; exact PySem.EqNone.eq_none_int (fin_bl I q (by simp))
    | str j => obtain ⟨t', rfl⟩ := ry; exact PySem.EqNone.eq_none_str (fin_bl I q (by simp))
    | _ => exact absurd (show false = true from hs) Bool.false_ne_true
  | bl i =>
    cases rx
    cases y with
    | non => cases ry; exact PySem.EqNone.eq_bool_none (fin_bl I q (by simp))
    | bl j => cases ry; exact eq_bool (fin_bl I q dec_bl)
    | str j => obtain ⟨t', rfl⟩ := ry; exact PySem.EqMixed.eq_bool_str (fin_bl I q (by simp))
    | _ => exact absurd (show false = true from hs) Bool.false_ne_true
  | int i =>
    obtain ⟨t, rfl⟩ := rx
    cases y with
    | non => cases ry; exact PySem.EqNone.eq_int_none (fin_bl I q (by simp))
    | int j => obtain ⟨t', rfl⟩ := ry; exact eq_int (fin_bl I q dec_int)
    | str j => obtain ⟨t', rfl⟩ := ry; exact PySem.EqMixed.eq_int_str (fin_bl I q (by simp))
    | _ => exact absurd (show false = true from hs) Bool.false_ne_true
  | str i =>
    obtain ⟨t, rfl⟩ := rx
    cases y with
    | non => cases ry; exact PySem.EqNone.eq_str_none (fin_bl I q (by simp))
    | bl j => cases ry; exact PySem.EqMixed.eq_str_bool (fin_bl I q (by simp))
    | int j => obtain ⟨t', rfl⟩ := ry; exact PySem.EqMixed.eq_str_int (fin_bl I q (by simp))
    | str j => obtain ⟨t', rfl⟩ := ry; exact eq_str (fin_bl I q dec_str)
    | _ => exact absurd (show false = true from hs) Bool.false_ne_true
  | byt i =>
    obtain ⟨t, rfl⟩ := rx
    cases y with
    | byt j => obtain ⟨t', rfl⟩ := ry; exact PySem.W.eq_bytes (fin_bl I q dec_byt)
    | _ => exact absurd (show false = true from hs) Bool.false_ne_true
  | _ => cases y <;> exact absurd (show false = true from hs) Bool.false_ne_true
theorem op_ne : OpR X (compareOp .NotEq) rNe := by
  intro pins s σ H x y v u Q I rx ry h
  obtain ⟨hs, q⟩ := h
  cases x with
  | non =>
    cases rx
    cases y with
    | non => cases ry; exact PySem.EqNone.ne_none_none (fin_bl I q (by simp))
    | bl j => cases ry; exact PySem.EqNone.ne_none_bool (fin_bl I q (by simp))
    | int j => obtain ⟨t', rfl⟩ := ry; exact PySem.EqNone.ne_none_int (fin_bl I q (by simp))
    | str j => obtain ⟨t', rfl⟩ := ry; exact PySem.EqNone.ne_none_str (fin_bl I q (by simp))
    | _ => exact absurd (show false = true from hs) Bool.false_ne_true
  | bl i =>
    cases rx
    cases y with
    | non => cases ry; exact PySem.EqNone.ne_bool_none (fin_bl I q (by simp))
    | bl j => cases ry; exact ne_bool (fin_bl I q (congrArg not dec_bl))
    | str j => obtain ⟨t', rfl⟩ := ry; exact PySem.EqMixed.ne_bool_str (fin_bl I q (by simp))
    | _ => exact absurd (show false = true from hs) Bool.false_ne_true
  | int i =>
    obtain ⟨t, rfl⟩ := rx
    cases y with
    | non => cases ry; exact PySem.EqNone.ne_int_none (fin_bl I q (by simp))
    | int j => obtain ⟨t', rfl⟩ := ry; exact ne_int (fin_bl I q (congrArg not dec_int))
    | str j => obtain ⟨t', rfl⟩ := ry; exact PySem.EqMixed.ne_int_str (fin_bl I q (by simp))
    | _ => exact absurd (show false = true from hs) Bool.false_ne_true
  | str i =>
    obtain ⟨t, rfl⟩ := rx
    cases y with
    | non => cases ry; exact PySem.EqNone.ne_str_none (fin_bl I q (by simp))
    | bl j => cases ry; exact PySem.EqMixed.ne_str_bool (fin_bl I q (by simp))
    | int j => obtain ⟨t', rfl⟩ := ry; exact PySem.EqMixed.ne_str_int (fin_bl I q (by simp))
    | str j => obtain ⟨t', rfl⟩ := ry; exact ne_str (fin_bl I q (congrArg not dec_str))
    | _ => exact absurd (show false = true from hs) Bool.false_ne_true
  | byt i =>
    obtain ⟨t, rfl⟩ := rx
    cases y with
    | byt j => obtain ⟨t', rfl⟩ := ry; exact PySem.W.ne_bytes (fin_bl I q (congrArg not dec_byt))
    | _ => exact absurd (show false = true from hs) Bool.false_ne_true
  | _ => cases y <;> exact absurd (show false = true from hs) Bool.false_ne_true
theorem op_lt : OpR X (compareOp .Lt) (rI0 fun i j => .bl (decide (i < j))) := opB0 fun _ _ _ _ _ _ _ q => lt_int q
theorem op_le : OpR X (compareOp .LtE) (rI0 fun i j => .bl (decide (i ≤ j))) := opB0 fun _ _ _ _ _ _ _ q => le_int q
theorem op_gt : OpR X (compareOp .Gt) (rI0 fun i j => .bl (decide (j < i))) := opB0 fun _ _ _ _ _ _ _ q => gt_int q
theorem op_ge : OpR X (compareOp .GtE) (rI0 fun i j => .bl (decide (j ≤ i))) := opB0 fun _ _ _ _ _ _ _ q => ge_int q
theorem op_isN : OpR X (compareOp .Is) (fun x y H Q => y = .non ∧ Q (.bl (decide (x = .non))) H) := by
  intro pins s σ H x y v u Q I rx ry h
  obtain ⟨rfl, q⟩ := h
  cases ry
  refine is_none_gen (fin_bl I q ?_)
  cases x <;> first
    | (cases rx; rfl)
    | (obtain ⟨t, rfl⟩ := rx; rfl)
theorem op_notN : OpR X (compareOp .IsNot) (fun x y H Q => y = .non ∧ Q (.bl (!decide (x = .non))) H) := by
  intro pins s σ H x y v u Q I rx ry h
  obtain ⟨rfl, q⟩ := h
  cases ry
  refine isnot_none_gen (fin_bl I q ?_)
  cases x <;> first
    | (cases rx; rfl)
    | (obtain ⟨t, rfl⟩ := rx; rfl)
theorem nomark (b : Expr) {op : CmpOp} (h : op ≠ .In := by decide) (h2 : op ≠ .NotIn := by decide) : behindInMarks op b = false := by
  have e1 : (op == CmpOp.In) = false := by cases op <;> first | rfl | exact absurd rfl h
  have e2 : (op == CmpOp.NotIn) = false := by cases op <;> first | rfl | exact absurd rfl h2
  cases b <;> simp [behindInMarks, e1, e2]
theorem pe_cmpR {op : CmpOp} {r : R2} (ho : OpR X (compareOp op) r) (ha : PE X a ta) (hb : PE X b tb) (hm : behindInMarks op b = false) : PE X (.Compare a [op] [b] pos) (tOp r ta tb) := by
  intro pins s σ H Q I h
  exact wpAny_Compare1 (binT ha hb I h fun v u s2 x y H2 I2 rx ry q => ho pins s2 σ H2 x y v u Q I2 rx ry q) hm
def tTest (t : TE) : TT := fun σ H Q => t σ H fun x H' => ∃ k, x = .bl k ∧ Q k H'
theorem pt_cmpR {op : CmpOp} {r : R2} (ho : OpR X (compareOp op) r) (ha : PE X a ta) (hb : PE X b tb) (hm : behindInMarks op b = false) : PT X (.Compare a [op] [b] pos) (tTest (tOp r ta tb)) := by
  intro pins s σ H Q I h
  refine wpAny_isTrue_Compare1 (thn (ha pins s σ H _ I h) fun v s1 ⟨x, H1, I1, r1, q1⟩ => thn (hb pins s1 σ H1 _ I1 q1) fun u s2 ⟨y, H2, I2, r2, q2⟩ =>
    thn (ho pins s2 σ H2 x y v u _ I2 r1 r2 q2) fun c s3 ⟨z, H3, I3, r3, k, e, q3⟩ => ?_) hm
  subst e
  cases r3
  exact wpAny_truthy_bool ⟨H3, I3, q3⟩
theorem line63 : (sizeLine : Nat) < 2 ^ 63 := by rw [sizeLine_eq]; decide
theorem op_add_str : OpR X (binaryOp .Add) (fun x y H Q => ∃ i j, x = .str i ∧ y = .str j ∧ i.length + j.length ≤ sizeLine ∧ Q (.str (i ++ j)) H) := by
  intro pins s σ H x y v u Q I rx ry h
  obtain ⟨i, j, rfl, rfl, hz, q⟩ := h
  obtain ⟨t, rfl⟩ := rx
  obtain ⟨t', rfl⟩ := ry
  exact add_str (fun t' tk => ⟨.str (i ++ j), H, I.tok _, ⟨_, rfl⟩, q⟩) hz
theorem vals1 {x : V} {us : List Value} (r : Vals [x] us) : ∃ u, us = [u] ∧ RelV x u := by
  cases r with
  | cons r1 r2 => cases r2; exact ⟨_, rfl, r1⟩
theorem vals2 {x y : V} {us : List Value} (r : Vals [x, y] us) : ∃ u w', us = [u, w'] ∧ RelV x u ∧ RelV y w' := by
  cases r with
  | cons r1 r2 =>
    cases r2 with
    | cons r3 r4 => cases r4; exact ⟨_, _, rfl, r1, r3⟩
theorem call_min2 (hc : X.calm = true) : CallR X (.builtin "min") (fun xs H Q => ∃ i j, xs = [.int i, .int j] ∧ Q (.int (if j < i then j else i)) H) := by
  intro pins s σ H xs us Q I r h
  obtain ⟨i, j, rfl, q⟩ := h
  obtain ⟨u, w', rfl, ⟨t, rfl⟩, ⟨t', rfl⟩⟩ := vals2 r
  refine min_two_ints (I.ok.hd hc) fun h' tk k => ⟨_, H, I.kept k, ?_, q⟩
  by_cases hj : j < i
  · rw [if_pos hj, if_pos hj]; exact ⟨_, rfl⟩
  · rw [if_neg hj, if_neg hj]; exact ⟨_, rfl⟩
theorem call_bool1 : CallR X (.type "bool") (fun xs H Q => (∃ i, xs = [.int i] ∧ Q (.bl (i != 0)) H) ∨ ∃ k, xs = [.bl k] ∧ Q (.bl k) H) := by
  intro pins s σ H xs us Q I r h
  rcases h with ⟨i, rfl, q⟩ | ⟨k, rfl, q⟩
  · obtain ⟨u, rfl, t, rfl⟩ := vals1 r
    exact call_bool_int ⟨.bl (i != 0), H, I, rfl, q⟩
  · obtain ⟨u, rfl, r1⟩ := vals1 r
    cases r1
    exact call_bool_bool ⟨.bl k, H, I, rfl, q⟩
end
end L2
namespace L2
open PySem PySem.Spec PyProof.Rows
structure ObjM (h : Heap) (x dx C : Addr) (mA : Str → Option Value) : Prop where
  obj : h.get? x = some (PySem.W.instObj C dx)
  ns : h.Ns1 dx mA
  ne : dx ≠ x
theorem lookIn_ns {h : Heap} {dx : Addr} {mA : Str → Option Value} (n : h.Ns1 dx mA) : ∃ od, h.get? dx = some od ∧ ∀ name, PySem.W.lookIn name od = some (mA name) := by
  obtain ⟨o, es, ep, ho, hd, hk, _, hm⟩ := n
  refine ⟨o, ho, fun name => ?_⟩
  have e := hm name
  unfold nsFind findBy at e
  rw [← Array.find?_toList] at e
  unfold PySem.W.lookIn
  rw [hd]
  dsimp only
  split
  · rename_i y q
    rw [q] at e
    exact congrArg some e
  · rename_i q
    rw [q] at e
    have a : es.toList.any (·.refKey) = false := by
      rw [List.any_eq_false]
      intro y hy
      obtain ⟨z, t, hkey⟩ := hk y (Array.mem_toList_iff.mp hy)
      simp [DictEntry.refKey, hkey]
    have a' : ¬ es.toList.any (·.refKey) = true := by rw [a]; exact Bool.false_ne_true
    rw [if_neg a']
    exact congrArg some e
theorem ObjM.look {h : Heap} {x dx C : Addr} {mA : Str → Option Value} (I : ObjM h x dx C mA) : ∃ od, PySem.W.InstAt h x (PySem.W.instObj C dx) C (some od) ∧ ∀ name, PySem.W.lookIn name od = some (mA name) :=
  let ⟨od, ho, hl⟩ := lookIn_ns I.ns
  ⟨od, ⟨I.obj, rfl, rfl, ho⟩, hl⟩
section
variable {prog : Program} {w : World} {A : Around} {E : Value → Shared → Prop} {s : Shared} {K : PySem.W.Frag} {x dx C f : Addr} {mA : Str → Option Value} {name : Str} {v : Value}
theorem get_map {expr : Bool} {Q : Value → Shared → Prop} (X : K.In s.heap) (I : ObjM s.heap x dx C mA) (hg : PySem.W.plainGet K C name = true) (hh : PySem.W.hasDictIn K C = true)
    (ha : PySem.W.findIn K (.ref C) name = some none) (hv : mA name = some v) (hv' : PySem.W.handedIn v = true) (h : Q v { s with toks := s.toks + 1 }) :
    wpAny (model prog w) A (getAttr (.ref x) name expr) Q E s := by
  obtain ⟨od, J, hl⟩ := I.look
  exact PySem.W.get_value X J (PySem.W.plainGet_of hg).1 (PySem.W.findObj_own hh ha rfl (by rw [hl, hv])) hv' h
theorem get_meth {pl : Sem Bool} {Q : Value × List Value → Shared → Prop} (X : K.In s.heap) (I : ObjM s.heap x dx C mA) (hg : PySem.W.plainGet K C name = true)
    (hf : PySem.W.findIn K (.ref C) name = some (some (.ref f))) (ht : PySem.W.isFn K (.ref f) = true) (hv : mA name = none) (h : Q (.ref f, [.ref x]) s) :
    wpAny (model prog w) A (getMethod (.ref x) name pl) Q E s := by
  obtain ⟨od, J, hl⟩ := I.look
  exact PySem.W.method_fn X J (PySem.W.plainGet_of hg).1 (PySem.W.plainGet_of hg).2 hf (beq_iff_eq.mp ht) (by show (PySem.W.lookIn name od).map (·.isSome) = some false; rw [hl, hv]; rfl) h
theorem set_map {ns : List Str} {Q : Unit → Shared → Prop} (X : K.In s.heap) (I : ObjM s.heap x dx C mA)
    (hs : PySem.W.findIn K (.ref C) "__setattr__" = some (some (.builtin "object.__setattr__"))) (hp : PySem.W.plainOver K C = true) (ht : PySem.W.takerIn K C name = some none) (hh : PySem.W.hasDictIn K C = true)
    (hw : PySem.Within mA ns) (hsz : ns.length ≤ sizeLine)
    (h : ∀ h', ObjM h' x dx C (fun y => if y = name then some v else mA y) → Heap.SameBut dx s.heap h' → Q () { s with heap := h', toks := s.toks + 2 }) :
    wpAny (model prog w) A (setAttr (.ref x) name v) Q E s := by
  obtain ⟨od, J, hl⟩ := I.look
  refine PySem.W.set_plain X J hs (PySem.W.osa_open (s := { s with toks := s.toks + 1 }) (r := none) X J hp ht fun b => ?_)
  obtain ⟨cd, hc, hd'⟩ := PySem.W.any_some hh
  have hx : s.heap.get? x = some ⟨.ref C, some dx, .plain, #[]⟩ := I.obj
  refine wpAny_bind (wpAny_pure (wpAny_bind (wpAny_bind (wpAny_loadPart hx (wpAny_bind (PySem.W.Looks.here (s := { s with toks := s.toks + 1 }) (PySem.W.looks_clsIn X hc) ?_))))))
  rw [hd']
  refine wpAny_pure (a := some dx) (wpAny_bind (wpAny_pure (wpAny_bind ?_)))
  refine wpAny_nsSet1 (s := { s with toks := s.toks + 1 }) I.ns fun h' hn2 hs2 => ?_
  obtain ⟨oD, esD, epD, hoD, hdD, hcD⟩ := hn2.count (PySem.Within.cons name v hw)
  refine wpAny_bind (wpAny_lookBehind hoD (by rw [hdD]; exact pastItsLine_dict (Nat.le_trans hcD (by rw [List.length_cons]; omega))) ?_)
  exact wpAny_pure (h _ ⟨(hs2.2 _ (Ne.symm I.ne)).trans I.obj, hn2, I.ne⟩ hs2)
theorem make_map {R : Result → Shared → Prop} {vs : List Value} {kw : List (Str × Value)} (X : K.In s.heap) (hm : PySem.W.makesIn K C = true)
    (hi : PySem.W.findIn K (.ref C) "__init__" = some (some (.ref f))) (hf : PySem.W.typeIn K (.ref f) = some (.type "function"))
    (h : codeAny (model prog w) (A.under (.builtin "type.__call__" ⟨.ref C :: vs, kw⟩)) (.call (.ref f) ⟨.ref (s.heap.objs.size + 1) :: vs, kw⟩) (PySem.W.InitBack (s.heap.objs.size + 1) R)
      { s with heap := (s.heap.push PySem.W.emptyDict).push (PySem.W.instObj C s.heap.objs.size) }) :
    codeAny (model prog w) A (.call (.ref C) ⟨vs, kw⟩) R s := by
  obtain ⟨hh, g, d, t, os⟩ := s
  exact PySem.W.make_core (PySem.W.makes_of X hm) (PySem.W.looks_findIn X hi) (fun self => PySem.W.bind_fn X self hf) (.inl rfl) h
end
def putF (f : Str) (v : V) : List (Str × V) → List (Str × V)
  | [] => [(f, v)]
  | (g, x) :: r => if g = f then (g, v) :: r else (g, x) :: putF f v r
theorem lookup_putF (f g : Str) (v : V) : ∀ fs : List (Str × V), (putF f v fs).lookup g = if g = f then some v else fs.lookup g
  | [] => by
    show List.lookup g [(f, v)] = _
    by_cases h : g = f
    · have hb : (g == f) = true := beq_iff_eq.mpr h
      simp only [List.lookup, hb, if_pos h]
    · have hb : (g == f) = false := beq_eq_false_iff_ne.mpr h
      simp only [List.lookup, hb, if_neg h]
  | (k, x) :: r => by
    have ih := lookup_putF f g v r
    rw [show putF f v ((k, x) :: r) = (if k = f then (k, v) :: r else (k, x) :: putF f v r) from rfl]
    by_cases hk : k = f
    · rw [if_pos hk]
      by_cases h : g = k
      · have hb : (g == k) = true := beq_iff_eq.mpr h
        simp only [List.lookup, hb, if_pos (h.trans hk)]
      · have hb : (g == k) = false := beq_eq_false_iff_ne.mpr h
        simp only [List.lookup, hb, if_neg (fun e : g = f => h (e.trans hk.symm))]
    · rw [if_neg hk]
      by_cases h : g = k
      · have hb : (g == k) = true := beq_iff_eq.mpr h
        simp only [List.lookup, hb, if_neg (fun e : g = f => hk (h.symm.trans e))]
      · have hb : (g == k) = false := beq_eq_false_iff_ne.mpr h
        simp only [List.lookup, hb]
        exact ih
theorem keys_putF (f : Str) (v : V) : ∀ fs : List (Str × V), f ∈ (putF f v fs).map (·.1) ∧ ∀ g, g ∈ fs.map (·.1) → g ∈ (putF f v fs).map (·.1)
  | [] => ⟨by simp [putF], fun g h => by simp at h⟩
  | (k, x) :: r => by
    obtain ⟨i1, i2⟩ := keys_putF f v r
    rw [show putF f v ((k, x) :: r) = (if k = f then (k, v) :: r else (k, x) :: putF f v r) from rfl]
    by_cases hk : k = f
    · rw [if_pos hk]
      subst hk
      exact ⟨by simp, fun g h => by simpa using h⟩
    · rw [if_neg hk]
      refine ⟨?_, fun g h => ?_⟩
      · rw [List.map_cons]
        exact List.mem_cons_of_mem _ i1
      · rw [List.map_cons] at h ⊢
        rcases List.mem_cons.mp h with e | e
        · exact List.mem_cons.mpr (.inl e)
        · exact List.mem_cons_of_mem _ (i2 g e)
theorem length_putF (f : Str) (v : V) : ∀ fs : List (Str × V), (putF f v fs).length ≤ fs.length + 1
  | [] => by simp [putF]
  | (k, x) :: r => by
    have ih := length_putF f v r
    rw [show putF f v ((k, x) :: r) = (if k = f then (k, v) :: r else (k, x) :: putF f v r) from rfl]
    by_cases hk : k = f
    · rw [if_pos hk, List.length_cons, List.length_cons]; omega
    · rw [if_neg hk, List.length_cons, List.length_cons]; omega
theorem RelO.some_of {v : V} {o : Option Value} (r : RelO (some v) o) : ∃ u, o = some u ∧ RelV v u := by
  cases o with
  | none => exact (show False from r).elim
  | some u => exact ⟨u, rfl, r⟩
theorem RelO.none_of {o : Option Value} (r : RelO none o) : o = none := by
  cases o with
  | none => rfl
  | some u => exact (show False from r).elim
theorem handed_of {v : V} {u : Value} (r : RelV v u) : PySem.W.handedIn u = true := by
  cases v with
  | non => cases (show u = Value.none from r); rfl
  | bl b => cases (show u = Value.bool b from r); rfl
  | int i => obtain ⟨t, e⟩ := (show ∃ t, u = Value.int i t from r); cases e; rfl
  | str x => obtain ⟨t, e⟩ := (show ∃ t, u = Value.str x t from r); cases e; rfl
  | byt b => obtain ⟨t, e⟩ := (show ∃ t, u = Value.bytes b t from r); cases e; rfl
  | flt b => obtain ⟨t, e⟩ := (show ∃ t, u = Value.float b t from r); cases e; rfl
  | ref a => cases (show u = Value.ref a from r); rfl
  | ty n => cases (show u = Value.type n from r); rfl
section
variable {P : Program} {w : World} {H H' : Hp} {h h' : Heap} {a C dx : Addr} {fs fs' : List (Str × V)}
theorem ins_get (hok : HOk P w H h) (e : H a = some (.ins C dx fs)) : ∃ mA, ObjM h a dx C mA ∧ (∀ f, RelO (fs.lookup f) (mA f)) ∧ PySem.Within mA (fs.map (·.1)) ∧ fs.length ≤ 1000 ∧ H dx = some (.own a) := by
  obtain ⟨d, z, ne, ob, mA, n, r, q⟩ := (show ObjOk P w H h a (.ins C dx fs) from hok a _ e)
  exact ⟨mA, ⟨ob, n, ne⟩, r, q, z, d⟩
end
structure Cls (K : PySem.W.Frag) (C : Addr) : Prop where
  pg : PySem.W.plainGet K C Str.empty = true
  hd : PySem.W.hasDictIn K C = true
  po : PySem.W.plainOver K C = true
  sa : PySem.W.findIn K (.ref C) "__setattr__" = some (some (.builtin "object.__setattr__"))
theorem Cls.get {K : PySem.W.Frag} {C : Addr} (c : Cls K C) (f : Str) : PySem.W.plainGet K C f = true := c.pg
def NoAttr (K : PySem.W.Frag) (C : Addr) (f : Str) : Prop := PySem.W.findIn K (.ref C) f = some none
theorem NoAttr.taker {K : PySem.W.Frag} {C : Addr} {f : Str} (n : NoAttr K C f) : PySem.W.takerIn K C f = some none := by
  unfold PySem.W.takerIn
  rw [show PySem.W.findIn K (.ref C) f = some none from n]
  rfl
structure Meth (K : PySem.W.Frag) (C : Addr) (m : Str) (f : Addr) : Prop where
  at_ : PySem.W.findIn K (.ref C) m = some (some (.ref f))
  fn : PySem.W.isFn K (.ref f) = true
  kp : PySem.W.keepIn K (.ref f) = true
section
variable {X : Cx} {pins : List (Addr × Obj)} {σ : St} {H : Hp} {s : Shared} {a C dx : Addr} {fs : List (Str × V)} {f : Str} {v : V} {A : Around} {E : Value → Shared → Prop}
theorem getattr_ok {b : Bool} {Q : Value → Shared → Prop} (I : Inv X pins σ H s) (e : H a = some (.ins C dx fs)) (c : Cls X.K C) (n : NoAttr X.K C f) (l : fs.lookup f = some v)
    (h : ∀ u s', Inv X pins σ H s' → RelV v u → Q u s') : wpAny (model X.prog X.w) A (getAttr (.ref a) f b) Q E s := by
  obtain ⟨mA, O, r, _, _, _⟩ := ins_get I.hok e
  obtain ⟨u, hu, ru⟩ := RelO.some_of (v := v) (o := mA f) (by rw [← l]; exact r f)
  exact get_map I.kIn O (c.get f) c.hd n hu (handed_of ru) (h u _ (I.tok _) ru)
theorem getmeth_ok {m : Str} {g : Addr} {pl : Sem Bool} {Q : Value × List Value → Shared → Prop} (I : Inv X pins σ H s) (e : H a = some (.ins C dx fs)) (c : Cls X.K C) (k : Meth X.K C m g) (l : fs.lookup m = none)
    (h : Q (.ref g, [.ref a]) s) : wpAny (model X.prog X.w) A (getMethod (.ref a) m pl) Q E s := by
  obtain ⟨mA, O, r, _, _, _⟩ := ins_get I.hok e
  have hn : mA m = none := RelO.none_of (by rw [← l]; exact r m)
  exact get_meth I.kIn O (c.get m) k.at_ k.fn hn h
theorem setattr_ok {y : V} {u : Value} {Q : Unit → Shared → Prop} (I : Inv X pins σ H s) (e : H a = some (.ins C dx fs)) (c : Cls X.K C) (n : NoAttr X.K C f) (hl : fs.length < 1000) (ry : RelV y u)
    (h : ∀ s', Inv X pins σ (upd H a (.ins C dx (putF f y fs))) s' → Q () s') : wpAny (model X.prog X.w) A (setAttr (.ref a) f u) Q E s := by
  obtain ⟨mA, O, r, wi, _, ho⟩ := ins_get I.hok e
  have hz : (fs.map (·.1)).length ≤ sizeLine := by rw [List.length_map, sizeLine_eq]; omega
  refine set_map I.kIn O c.sa c.po n.taker c.hd wi hz fun h' O' sb => h _ ?_
  have hd : ∃ o, h'.get? dx = some o := let ⟨o, _, _, e', _⟩ := O'.ns; ⟨o, e'⟩
  refine I.write (x := a) (e := dx) (by rw [e]; exact True.intro) (.inr ho) (fun b q hb z => (sb.2 b hb).trans z) hd ?_
  refine ⟨by rw [upd_ne O.ne]; exact ho, ?_, O.ne, O'.obj, _, O'.ns, fun g => ?_, fun g hg => ?_⟩
  · have := length_putF f y fs; omega
  · show RelO ((putF f y fs).lookup g) (if g = f then some u else mA g)
    rw [lookup_putF]
    by_cases q : g = f
    · rw [if_pos q, if_pos q]; exact ry
    · rw [if_neg q, if_neg q]; exact r g
  · by_cases q : g = f
    · rw [q]; exact (keys_putF f y fs).1
    · refine (keys_putF f y fs).2 g (wi g fun z => hg ?_)
      show (if g = f then some u else mA g) = none
      rw [if_neg q]; exact z
theorem Inv.made (I : Inv X pins σ H s) : Inv X pins σ (upd (upd H s.heap.objs.size (.own (s.heap.objs.size + 1))) (s.heap.objs.size + 1) (.ins C s.heap.objs.size []))
    { s with heap := (s.heap.push PySem.W.emptyDict).push (PySem.W.instObj C s.heap.objs.size) } := by
  have e1 : (s.heap.push PySem.W.emptyDict).get? s.heap.objs.size = some PySem.W.emptyDict := Heap.get?_push_size s.heap rfl
  have e2 : ((s.heap.push PySem.W.emptyDict).push (PySem.W.instObj C s.heap.objs.size)).get? (s.heap.objs.size + 1) = some (PySem.W.instObj C s.heap.objs.size) := by
    have := Heap.get?_push_size (s.heap.push PySem.W.emptyDict) (o := PySem.W.instObj C s.heap.objs.size) rfl
    rwa [Heap.size_push] at this
  have e3 : (s.heap.push PySem.W.emptyDict).Ns s.heap.objs.size (fun _ => none) := ⟨PySem.W.emptyDict, #[], _, e1, rfl, (fun e he => absurd he (by simp)), fun _ => rfl⟩
  have I1 := I.laid (a := s.heap.objs.size) (o := .own (s.heap.objs.size + 1)) (h' := s.heap.push PySem.W.emptyDict) (t' := s.toks) (fun b u q => Heap.get?_push_of_some _ q) (Nat.le_refl _) ⟨_, e1⟩
  refine I1.laid (a := s.heap.objs.size + 1) (o := .ins C s.heap.objs.size []) (t' := s.toks) (fun b u q => Heap.get?_push_of_some _ q) (Nat.le_of_eq (Heap.size_push _ _)) ?_
  have ne : s.heap.objs.size ≠ s.heap.objs.size + 1 := Nat.ne_of_lt (Nat.lt_succ_self _)
  refine ⟨by rw [upd_ne ne, upd_same], Nat.zero_le _, ne, e2, fun _ => none, (Heap.Ns1.of_empty e3).at fun o q => Heap.get?_push_of_some _ q, fun _ => True.intro, fun y hy => absurd rfl hy⟩
theorem attr_of {prog : Program} {w : World} {env : Env} {e : Expr} {f : Str} {pos : Pos} {s : Shared} {Q : Value → Shared → Prop} (hb : attributeBase e f env (eval e env) = eval e env)
    (h : wpAny (model prog w) A (eval e env) (fun o s₁ => wpAny (model prog w) A (getAttr o f true) Q E s₁) E s) : wpAny (model prog w) A (eval (.Attribute e f pos) env) Q E s :=
  Attribute_any_ h (by rw [arm_eval_Attribute, hb])
end
def tFld (K : PySem.W.Frag) (ta : TE) (f : Str) : TE := fun σ H Q => ta σ H fun x H1 => ∃ a C dx fs v, x = .ref a ∧ H1 a = some (.ins C dx fs) ∧ Cls K C ∧ NoAttr K C f ∧ fs.lookup f = some v ∧ Q v H1
def sFld (K : PySem.W.Frag) (ta tv : TE) (f : Str) : TS := fun D σ H => tv σ H fun y H1 => ta σ H1 fun x H2 => ∃ a C dx fs, x = .ref a ∧ H2 a = some (.ins C dx fs) ∧ Cls K C ∧ NoAttr K C f ∧ fs.length < 1000 ∧
  D.nx σ (upd H2 a (.ins C dx (putF f y fs)))
section
variable {X : Cx} {o e value : Expr} {f : Str} {pos pos' tpos : Pos} {ta tv : TE}
theorem pe_fld (he : PE X e ta) (hb : attributeBase e f X.env (eval e X.env) = eval e X.env) : PE X (.Attribute e f pos) (tFld X.K ta f) := by
  intro pins s σ H Q I h
  refine attr_of hb (thn (he pins s σ H _ I h) fun u s1 ⟨x, H1, I1, rx, a, C, dx, fs, v, ex, ea, c, n, l, q⟩ => ?_)
  subst ex
  obtain rfl : u = Value.ref a := rx
  exact getattr_ok I1 ea c n l fun u' s2 I2 ru => ⟨v, H1, I2, ru, q⟩
theorem ps_fld (ha : PE X o ta) (hv : PE X value tv) (hs : swapsWith value (some (.Attribute o f pos')) pos.line X.env = pure false) : PS X (.Assign [.Attribute o f pos'] value pos) (sFld X.K ta tv f) := by
  intro pins s σ H D I h
  refine plainObj_wpAny_Assign_Attribute (thn (hv pins s σ H _ I h) fun u s1 ⟨y, H1, I1, ry, q⟩ => thn (ha pins s1 σ H1 _ I1 q) fun ov s2 ⟨x, H2, I2, rx, a, C, dx, fs, ex, ea, c, n, l, q2⟩ => ?_) hs
  subst ex
  obtain rfl : ov = Value.ref a := rx
  exact setattr_ok I2 ea c n l ry fun s3 I3 => ⟨σ, _, I3, q2⟩
end
section
variable {X : Cx} {pins : List (Addr × Obj)} {σ : St} {H : Hp} {s : Shared} {A : Around} {E : Value → Shared → Prop} {Q : Value → Shared → Prop} {c : Value} {b : Bool}
inductive TyOf (K : PySem.W.Frag) (H : Hp) : V → Value → Prop where
  | non : TyOf K H .non (.type "NoneType")
  | bl (x : Bool) : TyOf K H (.bl x) (.type "bool")
  | int (i : Int) : TyOf K H (.int i) (.type "int")
  | str (x : Str) : TyOf K H (.str x) (.type "str")
  | flt (x : UInt64) : TyOf K H (.flt x) (.type "float")
  | lst {a : Addr} {xs : List V} (e : H a = some (.lst xs)) : TyOf K H (.ref a) (.type "list")
  | frz {a : Addr} {o : Obj} {xs : List V} (e : H a = some (.frz o (.lst xs))) : TyOf K H (.ref a) (.type "list")
  | tup {a : Addr} {xs : List V} (e : H a = some (.tup xs)) : TyOf K H (.ref a) (.type "tuple")
  | dK {a : Addr} {kvs : List (Key × V)} (e : H a = some (.dK kvs)) : TyOf K H (.ref a) (.type "dict")
  | dT {a : Addr} {kvs : List (List Key × V)} (e : H a = some (.dT kvs)) : TyOf K H (.ref a) (.type "dict")
  | ins {a C dx : Addr} {fs : List (Str × V)} (e : H a = some (.ins C dx fs)) (cl : Cls K C) (ha : PySem.W.findIn K (.ref C) "__class__" = some (some (.builtin "object.__class__")))
      (hn : PySem.W.specialIn K (.builtin "object.__class__") "__get__" = some (some (.builtin "getset_descriptor.__get__"))) (htk : PySem.W.takesIn K (.builtin "object.__class__") = some true)
      (hm : PySem.W.mroIn K C (.type "object") = some true) : TyOf K H (.ref a) (.ref C)
theorem isinst_ok {x : V} {u t : Value} (I : Inv X pins σ H s) (rx : RelV x u) (ty : TyOf X.K H x t) (e : PySem.W.kitOne X.K t c = some b) (h : ∀ tk, Q (.bool b) { s with toks := tk }) :
    wpAny (model X.prog X.w) A (call (.builtin "isinstance") [u, c]) Q E s := by
  cases ty with
  | non => cases (show u = Value.none from rx); exact PySem.W.kia_one PySem.W.kitx_none I.kIn True.intro e (fun z => nomatch z) h
  | bl y => cases (show u = Value.bool y from rx); exact PySem.W.kia_one PySem.W.kitx_bool I.kIn True.intro e (fun z => nomatch z) h
  | int i => obtain ⟨t, q⟩ := (show ∃ t, u = Value.int i t from rx); cases q; exact PySem.W.kia_one PySem.W.kitx_int I.kIn True.intro e (fun z => nomatch z) h
  | str y => obtain ⟨t, q⟩ := (show ∃ t, u = Value.str y t from rx); cases q; exact PySem.W.kia_one PySem.W.kitx_str I.kIn True.intro e (fun z => nomatch z) h
  | flt y => obtain ⟨t, q⟩ := (show ∃ t, u = Value.float y t from rx); cases q; exact PySem.W.kia_one PySem.W.kitx_float I.kIn True.intro e (fun z => nomatch z) h
  | @lst a xs ea =>
    cases (show u = Value.ref a from rx)
    obtain ⟨_, _, n, _, h1⟩ := (show ObjOk X.prog X.w H s.heap a (.lst xs) from I.hok a _ ea)
    exact PySem.W.kia_one PySem.W.kitx_list I.kIn ⟨_, h1, rfl⟩ e (fun z => nomatch z) h
  | @frz a ob xs ea =>
    cases (show u = Value.ref a from rx)
    obtain ⟨_, _, _, n, _, h1⟩ := (show ObjOk X.prog X.w H s.heap a (.frz ob (.lst xs)) from I.hok a _ ea)
    exact PySem.W.kia_one PySem.W.kitx_list I.kIn ⟨_, h1, rfl⟩ e (fun z => nomatch z) h
  | @tup a xs ea =>
    cases (show u = Value.ref a from rx)
    obtain ⟨_, _, _, p⟩ := (show ObjOk X.prog X.w H s.heap a (.tup xs) from I.hok a _ ea)
    obtain ⟨o, h1, h2, _⟩ := p
    exact PySem.W.kia_one PySem.W.kitx_tuple I.kIn ⟨o, h1, h2⟩ e (fun z => nomatch z) h
  | @dK a kvs ea =>
    cases (show u = Value.ref a from rx)
    obtain ⟨_, _, vs, _, p⟩ := (show ObjOk X.prog X.w H s.heap a (.dK kvs) from I.hok a _ ea)
    obtain ⟨o, es, ep, h1, h2, _⟩ := p
    exact PySem.W.kia_one PySem.W.kitx_dict I.kIn ⟨o, h1, h2.1⟩ e (fun z => nomatch z) h
  | @dT a kvs ea =>
    cases (show u = Value.ref a from rx)
    obtain ⟨_, _, xs, _, o, es, ep, h1, h2, _⟩ := (show ObjOk X.prog X.w H s.heap a (.dT kvs) from I.hok a _ ea)
    exact PySem.W.kia_one PySem.W.kitx_dict I.kIn ⟨o, h1, h2.1⟩ e (fun z => nomatch z) h
  | @ins a C dx fs ea cl ha hn htk hm =>
    cases (show u = Value.ref a from rx)
    obtain ⟨mA, O, _⟩ := ins_get I.hok ea
    obtain ⟨od, J, _⟩ := O.look
    exact PySem.W.kia_one (PySem.W.kitx_own (cl.get _) cl.hd ha hn htk hm) I.kIn J e (fun z => nomatch z) h
end
end L2
namespace L2
open PySem PySem.Spec PyProof.Rows
structure Room (k : Nat) (A : Around) : Prop where
  hd : A.handled = none
  dp : A.depth + 3 * k + 5 < recursionLimit
  un : A.units + 16 * k + 200 < cLine
theorem Room.mono {j k : Nat} {A : Around} (r : Room k A) (h : j ≤ k) : Room j A := ⟨r.hd, by have := r.dp; omega, by have := r.un; omega⟩
theorem Room.deeper {k : Nat} {A : Around} (r : Room (k + 1) A) (env : Env) : Room k (A.deeper env) :=
  ⟨r.hd, by have := r.dp; show A.depth + 1 + 3 * k + 5 < _; omega, by have := r.un; show A.units + 3 + 16 * k + 200 < _; omega⟩
theorem make_depth {A : Around} {C : Addr} {us : List Value} {kw : List (Str × Value)} : (A.under (.builtin "type.__call__" ⟨.ref C :: us, kw⟩)).depth = A.depth + 1 := by
  first | rfl | simp [Around.under, Code.weight, Code.isCreation, Code.isGuard, Code.isCaller, Code.frames, Code.isFrame, guardIds]
theorem make_units {A : Around} {C : Addr} {us : List Value} {kw : List (Str × Value)} : (A.under (.builtin "type.__call__" ⟨.ref C :: us, kw⟩)).units = A.units + 1 := by
  first | rfl | simp [Around.under, Code.cUnits, Code.frames, Code.isFrame]
theorem Room.make {k : Nat} {A : Around} (r : Room (k + 1) A) (C : Addr) (us : List Value) (kw : List (Str × Value)) : Room k (A.under (.builtin "type.__call__" ⟨.ref C :: us, kw⟩)) :=
  ⟨r.hd, by have := r.dp; rw [make_depth]; omega, by have := r.un; rw [make_units]; omega⟩
theorem Room.depth {k : Nat} {A : Around} (r : Room k A) : A.depth < recursionLimit := by have := r.dp; omega
theorem Room.units {k : Nat} {A : Around} (r : Room k A) : A.units + 64 < cLine := by have := r.un; omega
def tNil : TA := fun _ H Q => Q [] H
def tCons (ta : TE) (tr : TA) : TA := fun σ H Q => ta σ H fun x H1 => tr σ H1 fun xs H2 => Q (x :: xs) H2
section
variable {X : Cx} {e : Expr} {es : List Expr} {te : TE} {t : TA} {pos : Pos}
theorem pa_nil : PA X [] tNil := fun _ _ _ _ H Q I h => Calls.spliced_nil ⟨[], H, I, .nil, h⟩
theorem pa_cons (ha : PE X e te) (hr : PA X es t) (hs : starEach (e :: es) X.env = (false, eval e X.env) :: starEach es X.env := by rfl) : PA X (e :: es) (tCons te t) := by
  intro pos pins s σ H Q I h
  rw [hs]
  show wpAny _ _ (spliced ((false, eval e X.env) :: backTo pos (starEach es X.env))) _ _ s
  refine Calls.spliced_cons (thn (ha pins s σ H _ I h) fun u s1 ⟨x, H1, I1, r1, q1⟩ => ?_)
  exact thn (hr pos pins s1 σ H1 _ I1 q1) fun us s2 ⟨xs, H2, I2, r2, q2⟩ => ⟨x :: xs, H2, I2, .cons r1 r2, q2⟩
def tTup (t : TA) : TE := fun σ H Q => t σ H fun xs H1 => xs.length ≤ sizeLine ∧ ∀ p, H1 p = none → Q (.ref p) (upd H1 p (.tup xs))
def tLst (t : TA) : TE := fun σ H Q => t σ H fun xs H1 => xs.length ≤ sizeLine ∧ ∀ p, H1 p = none → Q (.ref p) (upd H1 p (.lst xs))
theorem pe_tup {x1} (h : PA X es t) : PE X (.Tuple es x1 pos) (tTup t) := by
  intro pins s σ H Q I hq
  refine wpAny_Tuple_spliced (thn (h pos pins s σ H _ I hq) fun us s1 ⟨xs, H1, I1, r, z, q⟩ => ⟨by rw [← r.length]; exact z, ?_⟩)
  have hf : H1 s1.heap.objs.size = none := I1.hok.fresh (Nat.le_refl _)
  refine ⟨.ref s1.heap.objs.size, upd H1 s1.heap.objs.size (.tup xs), I1.laid (t' := s1.toks) (fun b u e => Heap.get?_push_of_some _ e) (Nat.le_refl _) ?_, rfl, q _ hf⟩
  exact ⟨z, us, r, ⟨_, Heap.get?_push_size _ rfl, rfl, _, rfl⟩⟩
theorem pe_lst (h : PA X es t) : PE X (.List es pos) (tLst t) := by
  intro pins s σ H Q I hq
  refine wpAny_List_spliced (thn (h pos pins s σ H _ I hq) fun us s1 ⟨xs, H1, I1, r, z, q⟩ => ⟨by rw [← r.length]; exact z, ?_⟩)
  have hf : H1 s1.heap.objs.size = none := I1.hok.fresh (Nat.le_refl _)
  refine ⟨.ref s1.heap.objs.size, upd H1 s1.heap.objs.size (.lst xs), I1.laid (t' := s1.toks) (fun b u e => Heap.get?_push_of_some _ e) (Nat.le_refl _) ?_, rfl, q _ hf⟩
  exact ⟨z, us, 0, r, Heap.get?_push_size _ rfl⟩
end
abbrev Sp := List V → Hp → VK → XK → Prop
abbrev CXT := List Env → Hp → Shared → XK → Value → Shared → Prop
structure Env0 (P : Program) (w : World) (K : PySem.W.Frag) (mg : Str → Option Value) (base : Heap) (A : Around) (outer : List Env) (s : Shared) (H : Hp) : Prop where
  frames : A.frames = some outer
  mod : Mod K mg base
  bs : ∀ b o, base.get? b = some o → s.heap.get? b = some o ∧ H b = none
  bsz : base.objs.size ≤ s.heap.objs.size
  funs : s.heap.FunFrames base outer
  frf : ∀ b ∈ frs outer, H b = none
  hok : HOk P w H s.heap
  bare : AllBare s.gens
def CE (outer : List Env) (P : Program) (w : World) (H : Hp) (s : Shared) (Q : VK) (u : Value) (s' : Shared) : Prop :=
  ∃ v H', s'.os = s.os ∧ AllBare s'.gens ∧ Un (frs outer) [] H H' s.heap s'.heap ∧ HOk P w H' s'.heap ∧ RelV v u ∧ Q v H'
def CR (CX : CXT) (outer : List Env) (P : Program) (w : World) (H : Hp) (s : Shared) (Q : VK) (E : XK) (r : Result) (s' : Shared) : Prop :=
  match r with
  | .ok (.ret u) => CE outer P w H s Q u s'
  | .ok _ => False
  | .error e => CX outer H s E e s'
structure FnOk (P : Program) (w : World) (K : PySem.W.Frag) (mg : Str → Option Value) (base : Heap) (CX : CXT) (k : Nat) (f : Addr) (fd : FuncData) (ps : List Str) (sp : Sp) : Prop where
  len : ∀ vs H Q E, sp vs H Q E → vs.length = ps.length
  run : ∀ (A : Around) (outer : List Env) (s : Shared) (H : Hp) (args : Args) (us : List Value) (vs : List V) (Q : VK) (E : XK), Room k A → Env0 P w K mg base A outer s H → BindsTo s fd args (ps.zip us) → Vals vs us → sp vs H Q E →
    codeAny (model P w) A (.call (.ref f) args) (CR CX outer P w H s Q E) s
theorem FnOk.mono {P : Program} {w : World} {K : PySem.W.Frag} {mg : Str → Option Value} {base : Heap} {CX : CXT} {j k : Nat} {f : Addr} {fd : FuncData} {ps : List Str} {sp : Sp} (F : FnOk P w K mg base CX j f fd ps sp) (h : j ≤ k) :
    FnOk P w K mg base CX k f fd ps sp := ⟨F.len, fun A outer s H args us vs Q E hr => F.run A outer s H args us vs Q E (hr.mono h)⟩
theorem Env0.make {P : Program} {w : World} {K : PySem.W.Frag} {mg : Str → Option Value} {base : Heap} {A : Around} {outer : List Env} {s : Shared} {H : Hp} (e : Env0 P w K mg base A outer s H) (C : Addr) (us : List Value) (kw : List (Str × Value)) :
    Env0 P w K mg base (A.under (.builtin "type.__call__" ⟨.ref C :: us, kw⟩)) outer s H := ⟨by first | exact e.frames | (simpa [Around.under, Code.envs, Code.isFrame, pushEnvs] using e.frames), e.mod, e.bs, e.bsz, e.funs, e.frf, e.hok, e.bare⟩
section
variable {X : Cx} {pins : List (Addr × Obj)} {σ : St} {H : Hp} {s s' : Shared}
theorem Inv.env0 (I : Inv X pins σ H s) : Env0 X.prog X.w X.K X.mg X.base X.A X.stack s H :=
  ⟨I.ok.frames, I.ok.mod, I.bs, Nat.le_trans I.ok.bsz I.sz, I.stack, I.stkFree, I.hok, I.bare⟩
theorem Inv.after {Q : VK} {u : Value} (I : Inv X pins σ H s) (h : CE X.stack X.prog X.w H s Q u s') : EP X pins σ Q u s' := by
  obtain ⟨v, H', os, bare, un, hok, r, q⟩ := h
  obtain ⟨hh, g, d, t, os'⟩ := s'
  obtain rfl : os' = s.os := os
  exact ⟨v, H', I.call (h' := hh) (g' := g) (d' := d) (t' := t) (ch := []) un hok bare (fun b z => absurd z (by simp)), r, q⟩
end
def tCall (sp : Sp) (dvs : List V) (E : XK) (t : TA) : TE := fun σ H Q => t σ H fun vs H1 => sp (vs ++ dvs) H1 Q E
def tMeth (C : Addr) (m : Str) (sp : Sp) (dvs : List V) (E : XK) (ta : TE) (t : TA) : TE := fun σ H Q => ta σ H fun x H1 => ∃ a dx fs, x = .ref a ∧ H1 a = some (.ins C dx fs) ∧ fs.lookup m = none ∧
  t σ H1 fun vs H2 => sp (x :: (vs ++ dvs)) H2 Q E
def tMake (C : Addr) (sp : Sp) (dvs : List V) (E : XK) (t : TA) : TE := fun σ H Q => t σ H fun vs H1 => ∀ x dx, H1 x = none → H1 dx = none → dx ≠ x →
  sp (.ref x :: (vs ++ dvs)) (upd (upd H1 dx (.own x)) x (.ins C dx [])) (fun v H2 => v = .non ∧ Q (.ref x) H2) E
def Binds (K : PySem.W.Frag) (fd : FuncData) (ps : List Str) (ds : List Value) : Prop :=
  ∀ (s : Shared) (us : List Value), K.In s.heap → (us ++ ds).length = ps.length → BindsTo s fd ⟨us, []⟩ (ps.zip (us ++ ds))
theorem Binds.all {K : PySem.W.Frag} {fd : FuncData} {ps : List Str} (h : ∀ us : List Value, us.length = ps.length → bindArgs fd ⟨us, []⟩ = pure (ps.zip us)) : Binds K fd ps [] := fun s us _ hl => by
  rw [List.append_nil] at hl ⊢
  exact .of_eq (h us hl)
def Passes (CX : CXT) (X : Cx) (E : XK) : Prop := ∀ (pins : List (Addr × Obj)) (σ : St) (H : Hp) (s : Shared) (e : Value) (s' : Shared), Inv X pins σ H s → CX X.stack H s E e s' → X.xe e s'
section
variable {X : Cx} {CX : CXT} {k : Nat} {f C : Addr} {fd : FuncData} {ps : List Str} {sp : Sp} {dvs : List V} {ds : List Value} {E : XK} {x m : Str} {p pos apos : Pos} {e o : Expr} {es : List Expr} {ta : TE} {t : TA}
theorem run_fn {pins : List (Addr × Obj)} {σ : St} {H : Hp} {s : Shared} {Q : VK} {us : List Value} {vs : List V} (F : FnOk X.prog X.w X.K X.mg X.base CX k f fd ps sp) (hr : Room k X.A) (hb : Binds X.K fd ps ds) (hd : Vals dvs ds) (hx : Passes CX X E)
    (I : Inv X pins σ H s) (r : Vals vs us) (h : sp (vs ++ dvs) H Q E) : wpAny (model X.prog X.w) X.A (call (.ref f) us) (EP X pins σ Q) X.xe s := by
  have r2 : Vals (vs ++ dvs) (us ++ ds) := r.append hd
  have hl : (us ++ ds).length = ps.length := by rw [← r2.length]; exact F.len _ _ _ _ h
  refine wpAny_call (codeAny_mono (F.run X.A X.stack s H ⟨us, []⟩ (us ++ ds) (vs ++ dvs) Q E hr I.env0 (hb s us I.kIn hl) r2 h) fun r s' hq => ?_)
  cases r with
  | error e => exact hx pins σ H s e s' I hq
  | ok fl =>
    cases fl with
    | ret u => exact I.after hq
    | next => exact False.elim hq
    | brk => exact False.elim hq
    | cont => exact False.elim hq
theorem pe_call (F : FnOk X.prog X.w X.K X.mg X.base CX k f fd ps sp) (hr : Room k X.A) (hg : Gl X x) (hm : X.mg x = some (.ref f)) (hk : PySem.W.keepIn X.K (.ref f) = true) (hb : Binds X.K fd ps ds) (hd : Vals dvs ds) (hx : Passes CX X E)
    (ha : PA X (e :: es) t) (hdb : (x == ("__debug__" : Str)) = false := by decide) (he : starEach (e :: es) X.env = (false, eval e X.env) :: starEach es X.env := by rfl) (hpl : (backTo pos (starEach es X.env)).any (·.1) = false := by rfl) :
    PE X (.Call (.Name x p) (e :: es) [] pos) (tCall sp dvs E t) := by
  intro pins s σ H Q I h
  refine wpAny_Call_Name_kw (ld_glob I hg hm ?_ hdb)
  refine PySem.W.callWith_K (h₀ := X.base) I.ok.mod.kin hk (thn (ha pos pins s σ H _ I h) fun us s1 ⟨vs, H1, I1, r, q⟩ => ⟨I1.kIn, ?_⟩) he hpl
  exact run_fn F hr hb hd hx I1 r q
theorem pe_call0 (F : FnOk X.prog X.w X.K X.mg X.base CX k f fd ps sp) (hr : Room k X.A) (hg : Gl X x) (hm : X.mg x = some (.ref f)) (hk : PySem.W.keepIn X.K (.ref f) = true) (hb : Binds X.K fd ps ds) (hd : Vals dvs ds) (hx : Passes CX X E)
    (hdb : (x == ("__debug__" : Str)) = false := by decide) : PE X (.Call (.Name x p) [] [] pos) (tCall sp dvs E tNil) := by
  intro pins s σ H Q I h
  refine wpAny_Call_Name_kw (ld_glob I hg hm ?_ hdb)
  exact PySem.W.callWith_K0 I.kIn hk (run_fn (us := []) F hr hb hd hx I .nil h)
theorem pe_meth {pl : Sem Bool} (he : PE X o ta) (c : Cls X.K C) (hm : Meth X.K C m f) (F : FnOk X.prog X.w X.K X.mg X.base CX k f fd ps sp) (hr : Room k X.A) (hb : Binds X.K fd ps ds) (hd : Vals dvs ds) (hx : Passes CX X E) (ha : PA X (e :: es) t)
    (hst : starEach (e :: es) X.env = (false, eval e X.env) :: starEach es X.env := by rfl) (hpl : (backTo pos (starEach es X.env)).any (·.1) = false := by rfl)
    (ht : eval (.Call (.Attribute o m apos) (e :: es) [] pos) X.env = (do
      let ov ← eval o X.env
      standAt apos.atName
      let (f, first) ← holding [ov] (getMethod ov m pl)
      callWith pos f first (backTo pos (starEach (e :: es) X.env)) (backToKw pos (keywordEach [] X.env))) := by rfl) :
    PE X (.Call (.Attribute o m apos) (e :: es) [] pos) (tMeth C m sp dvs E ta t) := by
  intro pins s σ H Q I h
  refine PySem.W.methodCall_KW (pl := pl) (thn (he pins s σ H _ I h) fun u s1 ⟨x, H1, I1, rx, a, dx, fs, ex, ea, l, q⟩ => ?_) ht
  subst ex
  obtain rfl : u = Value.ref a := rx
  refine getmeth_ok I1 ea c hm l ?_
  refine PySem.W.callWith_K (first := [.ref a]) (h₀ := X.base) I.ok.mod.kin hm.kp (thn (ha pos pins s1 σ H1 _ I1 q) fun us s2 ⟨vs, H2, I2, r, q2⟩ => ⟨I2.kIn, ?_⟩) hst hpl
  exact run_fn (us := .ref a :: us) (vs := .ref a :: vs) F hr hb hd hx I2 (.cons rfl r) q2
theorem pe_meth0 {pl : Sem Bool} (he : PE X o ta) (c : Cls X.K C) (hm : Meth X.K C m f) (F : FnOk X.prog X.w X.K X.mg X.base CX k f fd ps sp) (hr : Room k X.A) (hb : Binds X.K fd ps ds) (hd : Vals dvs ds) (hx : Passes CX X E)
    (ht : eval (.Call (.Attribute o m apos) [] [] pos) X.env = (do
      let ov ← eval o X.env
      standAt apos.atName
      let (f, first) ← holding [ov] (getMethod ov m pl)
      callWith pos f first (backTo pos (starEach [] X.env)) (backToKw pos (keywordEach [] X.env))) := by rfl) :
    PE X (.Call (.Attribute o m apos) [] [] pos) (tMeth C m sp dvs E ta tNil) := by
  intro pins s σ H Q I h
  refine PySem.W.methodCall_KW (pl := pl) (thn (he pins s σ H _ I h) fun u s1 ⟨x, H1, I1, rx, a, dx, fs, ex, ea, l, q⟩ => ?_) ht
  subst ex
  obtain rfl : u = Value.ref a := rx
  refine getmeth_ok I1 ea c hm l ?_
  exact PySem.W.callWith_K0 (first := [.ref a]) I1.kIn hm.kp (run_fn (us := [.ref a]) (vs := [.ref a]) F hr hb hd hx I1 (.cons rfl .nil) q)
structure Mk (K : PySem.W.Frag) (C f : Addr) : Prop where
  makes : PySem.W.makesIn K C = true
  init : PySem.W.findIn K (.ref C) "__init__" = some (some (.ref f))
  fn : PySem.W.isFn K (.ref f) = true
  kp : PySem.W.keepIn K (.ref C) = true
theorem run_make {pins : List (Addr × Obj)} {σ : St} {H : Hp} {s : Shared} {Q : VK} {us : List Value} {vs : List V} (M : Mk X.K C f) (F : FnOk X.prog X.w X.K X.mg X.base CX k f fd ps sp) (hr : Room (k + 1) X.A) (hb : Binds X.K fd ps ds) (hd : Vals dvs ds)
    (hx : Passes CX X E) (I : Inv X pins σ H s) (r : Vals vs us)
    (h : ∀ x dx, H x = none → H dx = none → dx ≠ x → sp (.ref x :: (vs ++ dvs)) (upd (upd H dx (.own x)) x (.ins C dx [])) (fun v H2 => v = .non ∧ Q (.ref x) H2) E) :
    wpAny (model X.prog X.w) X.A (call (.ref C) us) (EP X pins σ Q) X.xe s := by
  have hq := h (s.heap.objs.size + 1) s.heap.objs.size (I.hok.fresh (Nat.le_succ _)) (I.hok.fresh (Nat.le_refl _)) (Nat.ne_of_lt (Nat.lt_succ_self _))
  have I2 := Inv.made (C := C) I
  have r2 : Vals (V.ref (s.heap.objs.size + 1) :: (vs ++ dvs)) (Value.ref (s.heap.objs.size + 1) :: (us ++ ds)) := .cons rfl (r.append hd)
  have hl : (Value.ref (s.heap.objs.size + 1) :: us ++ ds).length = ps.length := by
    have e := r2.length
    rw [F.len _ _ _ _ hq] at e
    exact e.symm
  refine wpAny_call (make_map (f := f) I.kIn M.makes M.init (beq_iff_eq.mp M.fn) (codeAny_mono (F.run _ X.stack _ _ ⟨Value.ref (s.heap.objs.size + 1) :: us, []⟩ (Value.ref (s.heap.objs.size + 1) :: (us ++ ds)) _ _ E (hr.make C us [])
    (I2.env0.make C us []) (hb _ (Value.ref (s.heap.objs.size + 1) :: us) I2.kIn hl) r2 hq) fun r s' hq' => ?_))
  cases r with
  | error e => exact hx pins σ _ _ e s' I2 hq'
  | ok fl =>
    cases fl with
    | ret u =>
      obtain ⟨v, H', I3, rv, ev, q3⟩ := I2.after hq'
      subst ev
      exact ⟨rv, ⟨V.ref (s.heap.objs.size + 1), H', I3, rfl, q3⟩⟩
    | next => exact False.elim hq'
    | brk => exact False.elim hq'
    | cont => exact False.elim hq'
theorem pe_make (M : Mk X.K C f) (F : FnOk X.prog X.w X.K X.mg X.base CX k f fd ps sp) (hr : Room (k + 1) X.A) (hg : Gl X x) (hm : X.mg x = some (.ref C)) (hb : Binds X.K fd ps ds) (hd : Vals dvs ds) (hx : Passes CX X E)
    (ha : PA X (e :: es) t) (hdb : (x == ("__debug__" : Str)) = false := by decide) (he : starEach (e :: es) X.env = (false, eval e X.env) :: starEach es X.env := by rfl) (hpl : (backTo pos (starEach es X.env)).any (·.1) = false := by rfl) :
    PE X (.Call (.Name x p) (e :: es) [] pos) (tMake C sp dvs E t) := by
  intro pins s σ H Q I h
  refine wpAny_Call_Name_kw (ld_glob I hg hm ?_ hdb)
  refine PySem.W.callWith_K (h₀ := X.base) I.ok.mod.kin M.kp (thn (ha pos pins s σ H _ I h) fun us s1 ⟨vs, H1, I1, r, q⟩ => ⟨I1.kIn, ?_⟩) he hpl
  exact run_make M F hr hb hd hx I1 r q
end
section
variable {X : Cx} {CX : CXT} {k : Nat} {f C : Addr} {fd : FuncData} {ps ks : List Str} {sp : Sp} {E : XK} {x m : Str} {p pos apos kpos : Pos} {e o : Expr} {es : List Expr} {kws : List Keyword} {te ta : TE} {t tk : TA} {nm : Option Str}
variable {g : List Value → List Value → List Value} {gV : List V → List V → List V}
end
structure FnScope (N P : List Str) (sc : Scope) : Prop where
  kind : sc.kind = .function
  co : sc.isCoroutine = false
  gen : sc.isGenerator = false
  nd : N.Nodup
  pre : N.take P.length = P
  par : ∀ x ∈ P, sc.names.lookup x = some .local ∨ sc.names.lookup x = some .cell
  nofree : ∀ y ∈ sc.names, y.2 ≠ .free
theorem bindL_out {kindOf : Str → Option NameKind} {x : Str} : ∀ {binds : List (Str × Value)} {m : Str → Option Value}, (∀ v, (x, v) ∉ binds) → bindL kindOf binds m x = m x
  | [], _, _ => rfl
  | (n, v) :: r, m, h => by
    unfold bindL
    rw [bindL_out fun w hw => h w (List.mem_cons_of_mem _ hw)]
    split
    · have : x ≠ n := by rintro rfl; exact h v List.mem_cons_self
      simp [this]
    · rfl
theorem bindC_out {kindOf : Str → Option NameKind} {x : Str} : ∀ {binds : List (Str × Value)} {m : Str → Option Value}, (∀ v, (x, v) ∉ binds) → bindC kindOf binds m x = m x
  | [], _, _ => rfl
  | (n, v) :: r, m, h => by
    unfold bindC
    rw [bindC_out fun w hw => h w (List.mem_cons_of_mem _ hw)]
    split
    · rfl
    · have : x ≠ n := by rintro rfl; exact h v List.mem_cons_self
      simp [this]
theorem bindL_get {kindOf : Str → Option NameKind} {x : Str} {v : Value} : ∀ {P : List Str} {vs : List Value} {i : Nat} {m : Str → Option Value}, P.Nodup → P[i]? = some x → vs[i]? = some v → kindOf x = some .local →
    bindL kindOf (P.zip vs) m x = some v
  | [], _, _, _, _, h, _, _ => by simp at h
  | _ :: _, [], _, _, _, _, h, _ => by simp at h
  | p :: P, w :: vs, 0, m, nd, h1, h2, hk => by
    simp at h1 h2; subst h1; subst h2
    show bindL kindOf ((p, w) :: P.zip vs) m p = _
    unfold bindL
    rw [bindL_out fun v hv => (List.nodup_cons.mp nd).1 (List.of_mem_zip hv).1, if_pos hk]
    simp
  | p :: P, w :: vs, i + 1, m, nd, h1, h2, hk => by
    show bindL kindOf ((p, w) :: P.zip vs) m x = _
    unfold bindL
    exact bindL_get (i := i) (List.nodup_cons.mp nd).2 (by simpa using h1) (by simpa using h2) hk
theorem bindC_get {kindOf : Str → Option NameKind} {x : Str} {v : Value} : ∀ {P : List Str} {vs : List Value} {i : Nat} {m : Str → Option Value}, P.Nodup → P[i]? = some x → vs[i]? = some v → kindOf x ≠ some .local →
    bindC kindOf (P.zip vs) m x = some v
  | [], _, _, _, _, h, _, _ => by simp at h
  | _ :: _, [], _, _, _, _, h, _ => by simp at h
  | p :: P, w :: vs, 0, m, nd, h1, h2, hk => by
    simp at h1 h2; subst h1; subst h2
    show bindC kindOf ((p, w) :: P.zip vs) m p = _
    unfold bindC
    rw [bindC_out fun v hv => (List.nodup_cons.mp nd).1 (List.of_mem_zip hv).1, if_neg hk]
    simp
  | p :: P, w :: vs, i + 1, m, nd, h1, h2, hk => by
    show bindC kindOf ((p, w) :: P.zip vs) m x = _
    unfold bindC
    exact bindC_get (i := i) (List.nodup_cons.mp nd).2 (by simpa using h1) (by simpa using h2) hk
def start (N : List Str) (vs : List V) : St := vs.map some ++ List.replicate (N.length - vs.length) none
def cxOf (CX : CXT) (P : Program) (w : World) (K : PySem.W.Frag) (mg : Str → Option Value) (base : Heap) (N : List Str) (qual : Str) (scope : Scope) (f : Addr) (cd : Value) (A : Around) (outer : List Env) (s : Shared) (H : Hp) (E : XK) : Cx where
  prog := P
  w := w
  K := K
  mg := mg
  base := base
  A := A.deeper (envOfC qual scope s.heap.objs.size f cd)
  N := N
  s₀ := s
  H₀ := H
  env := envOfC qual scope s.heap.objs.size f cd
  outer := outer
  stack := envOfC qual scope s.heap.objs.size f cd :: outer
  ex := []
  calm := true
  fn := fun _ => true
  pn := []
  xe := fun e s' => wpAny (model P w) (A.deeper (envOfC qual scope s.heap.objs.size f cd)) (leaving (envOfC qual scope s.heap.objs.size f cd) e) (fun _ s'' => CX outer H s E e s'') (fun e' s'' => CX outer H s E e' s'') s'
theorem cell_has {sc : Scope} {n : Nat} {x : Str} (h : sc.names.lookup x = some .cell) : ∃ c, (cellsFrom n sc.names []).lookup x = some c := by
  have q := PySem.W.cellsFrom_some sc.names n [] (.inl h)
  exact Option.isSome_iff_exists.mp q
theorem inv_start {CX : CXT} {P : Program} {w : World} {K : PySem.W.Frag} {mg : Str → Option Value} {base : Heap} {N ps : List Str} {qual : Str} {scope : Scope} {f : Addr} {cd : Value} {A : Around} {outer : List Env} {s s1 : Shared} {H : Hp} {E : XK} {us : List Value} {vs : List V}
    (S : FnScope N ps scope) (hd : A.handled = none) (e0 : Env0 P w K mg base A outer s H) (hl : vs.length = ps.length) (r : Vals vs us)
    (x : InCallC s s.heap.objs.size (bindL (envOfC qual scope s.heap.objs.size f cd).kindOf (ps.zip us) fun _ => none) (cellsFrom (s.heap.objs.size + 1) scope.names []) (bindC (envOfC qual scope s.heap.objs.size f cd).kindOf (ps.zip us) fun _ => none) s1) :
    Inv (cxOf CX P w K mg base N qual scope f cd A outer s H E) [] (start N vs) H s1 := by
  have hpl : ps.length ≤ N.length := by have := congrArg List.length S.pre; rw [List.length_take] at this; omega
  obtain ⟨h1, tk, rfl, hk⟩ := x.done
  have noA : ∀ b : Addr, b ∉ (cxOf CX P w K mg base N qual scope f cd A outer s H E).ex := fun b z => absurd (show b ∈ ([] : List Addr) from z) (by simp)
  refine ⟨⟨e0.mod, S.kind, rfl, rfl, Nat.le_refl _, fun y z c h1 h2 => ?_, fun y hy => ?_, fun y c _ h => ?_, fun _ => hd, Around.frames_deeper e0.frames, .inr ⟨rfl, rfl⟩, fun b z => absurd z (noA b), e0.bs, e0.bsz, fun b _ _ => noA b, fun b z => absurd z (noA b), e0.funs, e0.frf⟩,
    rfl, e0.bare, Un.kept hk, ⟨_, x.toInCall.ns, fun i y v h1 h2 h3 => ?_⟩, fun y c h => ⟨_, x.cell y c h⟩, e0.hok.fresh (Nat.le_refl _), fun y c h => ?_, fun p hp => absurd (show p ∈ ([] : List (Addr × Obj)) from hp) (by simp), e0.hok.kept hk, ?_⟩
  · exact name_of_addr x.apart (PySem.mem_of_lookup h1) (PySem.mem_of_lookup h2)
  · have hy : scope.names.lookup y = some .cell ∨ scope.names.lookup y = some .free := hy
    rcases hy with hy | hy
    · exact cell_has hy
    · exact absurd rfl (S.nofree _ (PySem.mem_of_lookup hy))
  · exact Nat.le_of_lt (x.above y c (PySem.mem_of_lookup h))
  · have hi : i < vs.length := by
      unfold start at h2
      by_cases hi : i < vs.length
      · exact hi
      · rw [List.getElem?_append_right (by simpa using hi)] at h2
        rw [List.getElem?_replicate] at h2
        split at h2 <;> cases h2
    have ha : vs[i]? = some v := by
      unfold start at h2
      rw [List.getElem?_append_left (by simpa using hi), List.getElem?_map] at h2
      cases e : vs[i]? with
      | none => rw [e] at h2; cases h2
      | some a => rw [e] at h2; cases h2; rfl
    obtain ⟨u, hu, rv⟩ := r.get ha
    have hp : ps[i]? = some y := by
      rw [← S.pre, List.getElem?_take_of_lt (by omega)]; exact h1
    have ndP : ps.Nodup := by rw [← S.pre]; exact S.nd.sublist (List.take_sublist _ _)
    refine ⟨u, rv, ?_⟩
    rcases S.par y (List.mem_of_getElem? hp) with k | k
    · exact .inl ⟨k, bindL_get ndP hp hu k⟩
    · obtain ⟨c, e⟩ := cell_has (n := s.heap.objs.size + 1) k
      refine .inr ⟨.inl k, c, e, ?_⟩
      have q := x.cell y c e
      rw [bindC_get ndP hp hu (by show scope.names.lookup y ≠ _; rw [k]; decide)] at q
      exact q
  · exact .inl (e0.hok.fresh (Nat.le_of_lt (x.above y c (PySem.mem_of_lookup h))))
  · unfold start
    show _ = N.length
    rw [List.length_append, List.length_map, List.length_replicate]
    omega
theorem fn_of {CX : CXT} {P : Program} {w : World} {K : PySem.W.Frag} {mg : Str → Option Value} {base : Heap} {k : Nat} {f : Addr} {name qual : Str} {params : Arguments} {body : List Stmt} {scope : Scope} {dV kV doc pm cdv ct oc : Value} {an od : Option Addr}
    {osl : Array (Option Value)} {N ps : List Str} {sp : Sp} (lk : K.lookup f = some ⟨oc, od, .func (PySem.W.fnOf name qual params body scope dV kV doc pm an cdv ct), osl⟩) (hcd : PySem.W.codeIn K cdv qual = true) (S : FnScope N ps scope)
    (len : ∀ vs H Q E, sp vs H Q E → vs.length = ps.length)
    (hbody : ∀ (A : Around) (outer : List Env) (s : Shared) (H : Hp) (vs : List V) (Q : VK) (E : XK), Room k (A.deeper (envOfC qual scope s.heap.objs.size f cdv)) → sp vs H Q E →
      ∃ t, PSs (cxOf CX P w K mg base N qual scope f cdv A outer s H E) body t ∧ t { nx := fun _ H' => Q .non H', rt := Q } (start N vs) H) :
    FnOk P w K mg base CX (k + 1) f (PySem.W.fnOf name qual params body scope dV kV doc pm an cdv ct) ps sp := by
  refine ⟨len, fun A outer s H args us vs Q E hr e0 hb r hsp => ?_⟩
  have hl := len _ _ _ _ hsp
  have KX : K.In s.heap := e0.mod.kin.keeps fun b o e => (e0.bs b o e).1
  have lim : s.heap.NoLimit := e0.mod.nolimit.keeps fun b o e => (e0.bs b o e).1
  have hkind : ∀ y ∈ ps.zip us, scope.names.lookup y.1 = some .local ∨ (scope.names.lookup y.1 = some .cell ∧ ((cellsFrom (s.heap.objs.size + 1) scope.names []).lookup y.1).isSome = true) := fun ⟨n, v⟩ hy => by
    rcases S.par n (List.of_mem_zip hy).1 with q | q
    · exact .inl q
    · exact .inr ⟨q, PySem.W.cellsFrom_some _ _ _ (.inl q)⟩
  refine codeAny_call_function hr.depth (KX _ _ lk) rfl S.co S.gen rfl (PySem.W.codeRec_of KX hcd) (hb _ _ _ _ ?_)
  refine wpAny_newFunctionEnv_cells S.kind hkind fun env he s1 x => ?_
  subst he
  refine ⟨lim.keeps x.toInCall.keep, codeAny_func ?_⟩
  obtain ⟨t, ht, hq⟩ := hbody A outer s H vs Q E (hr.deeper _) hsp
  have I : Inv (cxOf CX P w K mg base N qual scope f cdv A outer s H E) [] (start N vs) H s1 := inv_start S hr.hd e0 hl r x
  refine wpAny_mono (ht [] s1 (start N vs) H _ I hq) (fun fl s' hs => ?_) fun e s' hs => hs
  have fin : ∀ {σ' : St} {H' : Hp} {v : V} {u : Value}, Inv (cxOf CX P w K mg base N qual scope f cdv A outer s H E) [] σ' H' s' → RelV v u → Q v H' → CE outer P w H s Q u s' :=
    fun {σ' H' v u} J rv q => ⟨v, H', J.os, J.bare, J.base, J.hok, rv, q⟩
  cases fl with
  | ret u =>
    obtain ⟨v, σ', H', J, rv, q⟩ := hs
    exact fin J rv q
  | next =>
    obtain ⟨σ', H', J, q⟩ := hs
    exact fin (v := V.non) (u := Value.none) J rfl q
  | brk =>
    obtain ⟨_, _, _, q⟩ := hs
    exact False.elim q
  | cont =>
    obtain ⟨_, _, _, q⟩ := hs
    exact False.elim q
end L2
namespace L2
open PySem PySem.Spec PyProof.Rows
section
variable {X : Cx} {x : Str} {p pos : Pos} {e : Expr} {es : List Expr} {t : TA} {id T : String} {r : List V → Hp → VK → Prop}
def tCB (r : List V → Hp → VK → Prop) (t : TA) : TE := fun σ H Q => t σ H fun vs H1 => r vs H1 Q
theorem pe_callB (hc : CallR X (.builtin id) r) (hg : Gl X x) (hm : X.mg x = none) (hv : bootBuiltins x = some (.builtin id)) (ha : PA X (e :: es) t) (hn : x ≠ "__name__" := by decide) (hdb : (x == ("__debug__" : Str)) = false := by decide)
    (he : starEach (e :: es) X.env = (false, eval e X.env) :: starEach es X.env := by rfl) (hpl : (backTo pos (starEach es X.env)).any (·.1) = false := by rfl) : PE X (.Call (.Name x p) (e :: es) [] pos) (tCB r t) := by
  intro pins s σ H Q I h
  refine wpAny_Call_Name_kw (ld_blt I hg hm hv ?_ hn hdb)
  exact PyProof.Rows.callWith_builtin1 (thn (ha pos pins s σ H _ I h) fun us s1 ⟨vs, H1, I1, r1, q1⟩ => hc pins s1 σ H1 vs us Q I1 r1 q1) he hpl
theorem pe_callTy (hc : CallR X (.type T) r) (hg : Gl X x) (hm : X.mg x = none) (hv : bootBuiltins x = some (.type T)) (ha : PA X (e :: es) t) (hn : x ≠ "__name__" := by decide) (hdb : (x == ("__debug__" : Str)) = false := by decide)
    (he : starEach (e :: es) X.env = (false, eval e X.env) :: starEach es X.env := by rfl) (hpl : (backTo pos (starEach es X.env)).any (·.1) = false := by rfl) : PE X (.Call (.Name x p) (e :: es) [] pos) (tCB r t) := by
  intro pins s σ H Q I h
  refine wpAny_Call_Name_kw (ld_blt I hg hm hv ?_ hn hdb)
  exact PyProof.Rows.callWith_type1 (thn (ha pos pins s σ H _ I h) fun us s1 ⟨vs, H1, I1, r1, q1⟩ => hc pins s1 σ H1 vs us Q I1 r1 q1) he hpl
end
end L2
namespace HT
open PySem PyProof.Rows
section
open PySem.SeqAt
open PySem.AutoSeq1 (wpAny_loadPart')
open PySem.MeetsSeq PySem.MeetsSeq2 PySem.MeetsSeq3
end
section
variable {prog : Program} {w : World} {A : Around} {E : Value → Shared → Prop} {s : Shared}
def sIx (n d : Nat) : Option Int → Nat
  | none => d
  | some v => if v < 0 then (v + (n : Int)).toNat else min v.toNat n
theorem sIx_none (n d : Nat) : sIx n d none = d := rfl
theorem sIx_nat (n d k : Nat) : sIx n d (some (k : Int)) = min k n := by
  show (if (k : Int) < 0 then ((k : Int) + (n : Int)).toNat else min (k : Int).toNat n) = min k n
  rw [if_neg (by omega), Int.toNat_natCast]
end
end HT
namespace L2
open PySem PySem.Spec PyProof.Rows
abbrev TO := St → Hp → (Option Int → Hp → Prop) → Prop
def PO (X : Cx) (e : Option Expr) (t : TO) : Prop :=
  ∀ (pins : List (Addr × Obj)) (s : Shared) (σ : St) (H : Hp) (Q : Option Int → Hp → Prop), Inv X pins σ H s → t σ H Q →
    wpAny (model X.prog X.w) X.A (evalPart e X.env) (fun u s' => ∃ o H', Inv X pins σ H' s' ∧ IsPart u o ∧ Q o H') X.xe s
def tNoPart : TO := fun _ H Q => Q none H
def tPart (t : TE) : TO := fun σ H Q => t σ H fun x H1 => ∃ i, x = .int i ∧ Q (some i) H1
section
variable {X : Cx} {e : Expr} {te : TE} {lo hi : Option Expr} {tl th : TO} {pos p2 : Pos}
theorem po_none : PO X none tNoPart := by
  intro pins s σ H Q I h
  rw [evalPart_none]
  exact wpAny_pure ⟨none, H, I, .none, h⟩
theorem po_some (h : PE X e te) : PO X (some e) (tPart te) := by
  intro pins s σ H Q I hw
  rw [evalPart_some]
  refine thn (h pins s σ H _ I hw) fun u s1 ⟨x, H1, I1, r1, q1⟩ => ?_
  obtain ⟨i, rfl, q⟩ := q1
  obtain ⟨t, rfl⟩ := r1
  exact ⟨some i, H1, I1, .int i t, q⟩
def SlR (X : Cx) (r : V → Option Int → Option Int → Hp → VK → Prop) : Prop :=
  ∀ (pins : List (Addr × Obj)) (s : Shared) (σ : St) (H : Hp) (x : V) (v vl vu : Value) (lo hi : Option Int) (sl : Addr) (Q : VK), Inv X pins σ H s → RelV x v → s.heap.IsSliceOf sl vl vu .none → IsPart vl lo → IsPart vu hi → r x lo hi H Q →
    ∃ T id, typeLookup (.type T) "__getitem__" = pure (some (.builtin id)) ∧ s.TypeIs v T ∧ wpAny (model X.prog X.w) X.A (getItem v (.ref sl)) (EP X pins σ Q) X.xe s
def tSl (r : V → Option Int → Option Int → Hp → VK → Prop) (te : TE) (tl th : TO) : TE := fun σ H Q => te σ H fun x H1 => tl σ H1 fun l H2 => th σ H2 fun u H3 => r x l u H3 Q
theorem pe_slice {r : V → Option Int → Option Int → Hp → VK → Prop} (hr : SlR X r) (he : PE X e te) (hl : PO X lo tl) (hu : PO X hi th) : PE X (.Subscript e (.Slice lo hi none p2) pos) (tSl r te tl th) := by
  intro pins s σ H Q I h
  refine Subscript_ (thn (he pins s σ H _ I h) fun v s1 ⟨x, H1, I1, r1, q1⟩ => ?_)
  refine wpAny_Slice (thn (hl pins s1 σ H1 _ I1 q1) fun vl s2 ⟨l, H2, I2, pl, q2⟩ => thn (hu pins s2 σ H2 _ I2 q2) fun vu s3 ⟨u, H3, I3, pu, q3⟩ => ?_)
  rw [evalPart_none]
  refine wpAny_pure ?_
  have I4 : Inv X pins σ H3 { s3 with heap := s3.heap.push { cls := .type "slice", data := .fields #[vl, vu, .none] } } := I3.kept (t' := s3.toks) fun b ob q => Heap.get?_push_of_some _ q
  obtain ⟨T, id, hT, ht, hg⟩ := hr pins { s3 with heap := s3.heap.push { cls := .type "slice", data := .fields #[vl, vu, .none] } } σ H3 x v vl vu l u s3.heap.objs.size Q I4 r1 (Heap.IsSliceOf.new ..) pl pu q3
  show wpAny (model X.prog X.w) X.A (subscriptTail e (.Slice lo hi none p2) v (.ref s3.heap.objs.size)) (EP X pins σ Q) X.xe { s3 with heap := s3.heap.push { cls := .type "slice", data := .fields #[vl, vu, .none] } }
  exact tail_any (ops := [.ref s3.heap.objs.size, v]) ht hT hg (by with_unfolding_all rfl)
def cutV (xs : List V) (lo hi : Option Int) : List V := (xs.drop (HT.sIx xs.length 0 lo)).take (HT.sIx xs.length xs.length hi - HT.sIx xs.length 0 lo)
theorem cutV_length (xs : List V) (lo hi : Option Int) : (cutV xs lo hi).length ≤ xs.length := by
  unfold cutV
  rw [List.length_take, List.length_drop]
  omega
end
end L2
namespace L2
open PySem PySem.Spec PyProof.Rows
def ixN (n : Nat) (i : Int) : Option Nat := if 0 ≤ i then (if i < n then some i.toNat else none) else if -(n : Int) ≤ i then some (i + n).toNat else none
def atI {α : Type} (xs : List α) (i : Int) : Option α := (ixN xs.length i).bind fun j => xs[j]?
theorem ixN_seq {n : Nat} {i : Int} {j : Nat} (h : ixN n i = some j) : seqIndex? i n = some j ∧ j < n ∧ -(n : Int) ≤ i ∧ i < n := by
  unfold ixN at h
  by_cases h0 : 0 ≤ i
  · rw [if_pos h0] at h
    by_cases h1 : i < n
    · rw [if_pos h1] at h
      have e : i.toNat = j := Option.some.inj h
      exact ⟨by rw [seqIndex_of h0 h1, e], by omega, by omega, h1⟩
    · rw [if_neg h1] at h; cases h
  · rw [if_neg h0] at h
    by_cases h1 : -(n : Int) ≤ i
    · rw [if_pos h1] at h
      have e : (i + n).toNat = j := Option.some.inj h
      exact ⟨by rw [seqIndex_neg (by omega) h1, e], by omega, h1, by omega⟩
    · rw [if_neg h1] at h; cases h
theorem atI_get {α : Type} {xs : List α} {i : Int} {v : α} (h : atI xs i = some v) : ∃ j, seqIndex? i xs.length = some j ∧ xs[j]? = some v ∧ j < xs.length ∧ -(xs.length : Int) ≤ i ∧ i < xs.length := by
  unfold atI at h
  cases e : ixN xs.length i with
  | none => rw [e] at h; cases h
  | some j =>
    rw [e] at h
    obtain ⟨h1, h2, h3, h4⟩ := ixN_seq e
    exact ⟨j, h1, h, h2, h3, h4⟩
theorem atI_nat {α : Type} {xs : List α} {j : Nat} {v : α} (h : xs[j]? = some v) : atI xs (j : Int) = some v := by
  have hj : j < xs.length := (List.getElem?_eq_some_iff.mp h).1
  have e : ixN xs.length (j : Int) = some j := by
    unfold ixN
    rw [if_pos (by omega), if_pos (by omega)]; simp
  unfold atI; rw [e]; exact h
def PlainIx (b : Expr) : Prop := ∀ o i, subscripted b false o i = operate [o, i] (getItem o i)
def IxR (X : Cx) (r : R2) : Prop :=
  ∀ (value slice : Expr) (pins : List (Addr × Obj)) (s : Shared) (σ : St) (H : Hp) (x y : V) (v u : Value) (Q : VK), Inv X pins σ H s → RelV x v → RelV y u → r x y H Q →
    subscripted slice false v u = operate [v, u] (getItem v u) → wpAny (model X.prog X.w) X.A (subscriptTail value slice v u) (EP X pins σ Q) X.xe s
def MtR (X : Cx) (id : String) (r : V → List V → Hp → VK → Prop) : Prop :=
  ∀ (pins : List (Addr × Obj)) (s : Shared) (σ : St) (H : Hp) (x : V) (xs : List V) (v : Value) (us : List Value) (Q : VK), Inv X pins σ H s → RelV x v → Vals xs us → r x xs H Q →
    wpAny (model X.prog X.w) X.A (call (.builtin id) (v :: us)) (EP X pins σ Q) X.xe s
section
variable {X : Cx} {a b : Expr} {ta tb : TE} {pos : Pos}
theorem pe_ix {r : R2} (hr : IxR X r) (ha : PE X a ta) (hb : PE X b tb) (hs : PlainIx b) : PE X (.Subscript a b pos) (tOp r ta tb) := by
  intro pins s σ H Q I h
  exact Subscript_ (binT ha hb I h fun v u s2 x y H2 I2 rx ry q => hr a b pins s2 σ H2 x y v u Q I2 rx ry q (hs _ _))
def rIxL (K : PySem.W.Frag) : R2 := fun x y H Q => ∃ p xs i v, x = .ref p ∧ y = .int i ∧ SqL K H p xs ∧ atI xs i = some v ∧ Q v H
def rIxT (K : PySem.W.Frag) : R2 := fun x y H Q => ∃ p xs i v, x = .ref p ∧ y = .int i ∧ SqT K H p xs ∧ atI xs i = some v ∧ Q v H
def rIxS : R2 := fun x y H Q => ∃ z i c, x = .str z ∧ y = .int i ∧ z.length ≤ sizeLine ∧ atI z.cps.toList i = some c ∧ Q (.str ⟨#[c]⟩) H
theorem ix_list : IxR X (rIxL X.K) := by
  intro value slice pins s σ H x y v u Q I rx ry h hs
  obtain ⟨p, xs, i, z, rfl, rfl, hq, he, q⟩ := h
  cases rx
  obtain ⟨t, rfl⟩ := ry
  obtain ⟨its, r, pl, hz⟩ := I.list hq
  obtain ⟨j, h1, h2, h3, h4, h5⟩ := atI_get he
  obtain ⟨w, ew, rw'⟩ := r.get h2
  have hl := r.length
  have hn := line63
  have fin : EP X pins σ Q w s := ⟨z, H, I, rw', q⟩
  by_cases h0 : 0 ≤ i
  · have hj : i.toNat = j := by
      rw [seqIndex_of h0 h5] at h1
      exact Option.some.inj h1
    exact item_listR pl.isList h0 (by omega) (by rw [hj]; simpa using ew) fin hs
  · have hj : (i + (its.toArray.size : Int)).toNat = j := by
      rw [seqIndex_neg (by omega) h4] at h1
      rw [List.size_toArray, ← hl]
      exact Option.some.inj h1
    exact subscriptTail_builtinR (x := w) pl.isList.typeIs slot_list_getitem.lookup
      (wpAny_getItem_list_neg (Q := fun r s' => r = w ∧ EP X pins σ Q r s') pl.isList (by omega) (by rw [List.size_toArray] <;> omega) (by omega) (by rw [hj]; simpa using ew) ⟨rfl, fin⟩) hs
theorem ix_tup : IxR X (rIxT X.K) := by
  intro value slice pins s σ H x y v u Q I rx ry h hs
  obtain ⟨p, xs, i, z, rfl, rfl, hq, he, q⟩ := h
  cases rx
  obtain ⟨t, rfl⟩ := ry
  obtain ⟨its, r, pl, hz⟩ := I.tuple hq
  obtain ⟨j, h1, h2, h3, h4, h5⟩ := atI_get he
  obtain ⟨w, ew, rw'⟩ := r.get h2
  have hl := r.length
  have hn := line63
  have fin : EP X pins σ Q w s := ⟨z, H, I, rw', q⟩
  exact subscriptTail_builtinR (x := w) pl.typeIs slot_tuple_getitem.lookup
    (getItem_tuple (j := j) (Q := fun r s' => r = w ∧ EP X pins σ Q r s') pl (by omega) (by omega) (by rw [List.size_toArray, ← hl]; exact h1) (by simpa using ew) ⟨rfl, fin⟩) hs
theorem ix_str : IxR X rIxS := by
  intro value slice pins s σ H x y v u Q I rx ry h hs
  obtain ⟨z, i, c, rfl, rfl, hz, he, q⟩ := h
  obtain ⟨t, rfl⟩ := rx
  obtain ⟨t', rfl⟩ := ry
  obtain ⟨j, h1, h2, h3, h4, h5⟩ := atI_get he
  have hl : z.cps.toList.length = z.length := by simp [Str.length]
  rw [hl] at h1 h4 h5
  have hn := line63
  exact tail_any (typeIs_str s z t) slot_str_getitem.lookup (getItem_str (c := c) (by
    have e1 : decide (i < -(2 ^ 63 : Int)) = false := decide_eq_false (by omega)
    have e2 : decide (i ≥ 2 ^ 63) = false := decide_eq_false (by omega)
    rw [e1, e2, Bool.or_false]) (by rw [h1]; simpa using h2) ⟨.str ⟨#[c]⟩, H, I.tok _, ⟨_, rfl⟩, q⟩) hs
theorem mapSeq_set (its : List Value) (n j : Nat) (u : Value) : Obj.mapSeq (·.setIfInBounds j u) { cls := .type "list", data := .seq its.toArray n } = { cls := .type "list", data := .seq (its.set j u).toArray n } := by
  simp [Obj.mapSeq]
theorem Inv.lst {pins : List (Addr × Obj)} {σ : St} {H : Hp} {s : Shared} {p : Addr} {xs : List V} (I : Inv X pins σ H s) (h : H p = some (.lst xs)) :
    ∃ (its : List Value) (n : Nat), Vals xs its ∧ s.heap.get? p = some { cls := .type "list", data := .seq its.toArray n } ∧ xs.length ≤ sizeLine := by
  obtain ⟨z, its, n, r, e⟩ := I.hok p _ h
  exact ⟨its, n, r, e, z⟩
theorem Inv.lstUpd {pins : List (Addr × Obj)} {σ : St} {H : Hp} {s : Shared} {p : Addr} {xs ys : List V} {its its' : List Value} {n n' : Nat} {f : Obj → Obj} (I : Inv X pins σ H s) (h : H p = some (.lst xs))
    (ho : s.heap.get? p = some { cls := .type "list", data := .seq its.toArray n }) (hf : f { cls := .type "list", data := .seq its.toArray n } = { cls := .type "list", data := .seq its'.toArray n' }) (r : Vals ys its') (hz : ys.length ≤ sizeLine) (t : Nat) :
    Inv X pins σ (upd H p (.lst ys)) { s with heap := s.heap.update p f, toks := t } := by
  have e : (s.heap.update p f).get? p = some { cls := .type "list", data := .seq its'.toArray n' } := by
    rw [Heap.get?_update_self f ho (by rw [hf] <;> rfl), hf]
  refine I.write (x := p) (e := p) (by rw [h]; trivial) (.inl rfl) (fun b u hb q => (Heap.get?_update_other _ _ (Ne.symm hb)).trans q) ⟨_, e⟩ ?_
  exact ⟨hz, its', n', r, e⟩
def rSetL : V → V → V → Hp → (Hp → Prop) → Prop := fun o i v H Q => ∃ p xs k j, o = .ref p ∧ i = .int k ∧ H p = some (.lst xs) ∧ ixN xs.length k = some j ∧ Q (upd H p (.lst (xs.set j v)))
theorem set_list : PSet X rSetL := by
  intro pins s σ H o i v ov iv u Q I ro ri rv h
  obtain ⟨p, xs, k, j, rfl, rfl, hp, hj, q⟩ := h
  cases ro
  obtain ⟨t, rfl⟩ := ri
  obtain ⟨its, n, r, ho, hz⟩ := I.lst hp
  obtain ⟨h1, h2, h3, h4⟩ := ixN_seq hj
  have hl := r.length
  have hn := line63
  have I' : Inv X pins σ (upd H p (.lst (xs.set j v))) { s with heap := s.heap.update p (Obj.mapSeq (·.setIfInBounds j u)) } :=
    I.lstUpd hp ho (mapSeq_set its n j u) (r.set rv j) (by rw [List.length_set]; exact hz) s.toks
  by_cases h0 : 0 ≤ k
  · have hk : k.toNat = j := by
      rw [seqIndex_of h0 h4] at h1
      exact Option.some.inj h1
    exact PySem.W.ki_setAt ho h0 (by omega) (by rw [List.size_toArray, ← hl]; exact h4) (by rw [hk]; exact ⟨_, I', q⟩)
  · have hk : (k + (its.toArray.size : Int)).toNat = j := by
      rw [seqIndex_neg (by omega) h3] at h1
      rw [List.size_toArray, ← hl]
      exact Option.some.inj h1
    exact PySem.W.ki_setBack ho (by omega) (by rw [List.size_toArray, ← hl]; exact h3) (by omega) (by rw [hk]; exact ⟨_, I', q⟩)
theorem slice_bounds (lo hi : Option Int) (n : Nat) : (sliceBounds lo hi none n).1 = ((HT.sIx n 0 lo : Nat) : Int) ∧ (sliceBounds lo hi none n).2.1 = ((HT.sIx n n hi : Nat) : Int) ∧ (sliceBounds lo hi none n).2.2 = 1 := by
  refine ⟨?_, ?_, rfl⟩
  · cases lo with
    | none => simp [sliceBounds, HT.sIx]
    | some i =>
      simp only [sliceBounds, HT.sIx, Option.getD_none, show (1 : Int) > 0 by decide, if_true]
      by_cases h : i < 0
      · simp only [h, if_true] <;> omega
      · simp only [h, if_false] <;> omega
  · cases hi with
    | none => simp [sliceBounds, HT.sIx]
    | some i =>
      simp only [sliceBounds, HT.sIx, Option.getD_none, show (1 : Int) > 0 by decide, if_true]
      by_cases h : i < 0
      · simp only [h, if_true] <;> omega
      · simp only [h, if_false] <;> omega
theorem slicePick_cut (its : List Value) (lo hi : Option Int) : slicePick its.toArray lo hi none = ((its.drop (HT.sIx its.length 0 lo)).take (HT.sIx its.length its.length hi - HT.sIx its.length 0 lo)).toArray := by
  obtain ⟨h1, h2, h3⟩ := slice_bounds lo hi its.toArray.size
  unfold slicePick
  rw [h1, h2, h3]
  simp only [sliceRange_one, pick_run, List.size_toArray] <;> rfl
def rSlL (K : PySem.W.Frag) : V → Option Int → Option Int → Hp → VK → Prop := fun x lo hi H Q => ∃ a xs, x = .ref a ∧ SqL K H a xs ∧ ∀ p, H p = none → Q (.ref p) (upd H p (.lst (cutV xs lo hi)))
theorem sl_list : SlR X (rSlL X.K) := by
  intro pins s σ H x v vl vu lo hi sl Q I rx hs pl pu h
  obtain ⟨a, xs, rfl, hx, q⟩ := h
  cases rx
  obtain ⟨its, r, ht, hz⟩ := I.list hx
  have hlen := r.length
  refine ⟨"list", _, slot_list_getitem.lookup, ht.isList.typeIs, ?_⟩
  refine wpAny_getItem_list_slice ht.isList hs pl pu .none (by simp) ?_ (by rw [List.size_toArray] <;> omega)
  rw [slicePick_cut, ← hlen]
  refine ⟨.ref s.heap.objs.size, _, I.laid (t' := s.toks) (o := .lst (cutV xs lo hi)) (fun b ob q => Heap.get?_push_of_some _ q) (Nat.le_refl _) ?_, rfl, q _ (I.hok.fresh (Nat.le_refl _))⟩
  exact ⟨Nat.le_trans (cutV_length xs lo hi) hz, _, 0, (r.drop (HT.sIx xs.length 0 lo)).take (HT.sIx xs.length xs.length hi - HT.sIx xs.length 0 lo), Heap.get?_push_size _ rfl⟩
def flatV : V → Bool
  | .non => true
  | .bl _ => true
  | .int _ => true
  | .str _ => true
  | _ => false
def eqV : V → V → Bool
  | .non, .non => true
  | .bl a, .bl b => a == b
  | .bl a, .int b => (if a then 1 else 0) == b
  | .int a, .bl b => a == (if b then 1 else 0)
  | .int a, .int b => a == b
  | .str a, .str b => a == b
  | _, _ => false
theorem eqAt_V {A : Around} {s : Shared} {y x : V} {u v : Value} (ry : RelV y u) (rx : RelV x v) (fy : flatV y = true) (fx : flatV x = true) : SeqAt.EqAt A s u v (eqV y x) := by
  cases y with
  | non =>
    cases ry
    cases x with
    | non => cases rx; exact SeqAt.EqAt.same _
    | bl b => cases rx; exact SeqAt.EqAt.none_bool b
    | int b => obtain ⟨t, rfl⟩ := rx; exact SeqAt.EqAt.none_int b t
    | str b => obtain ⟨t, rfl⟩ := rx; exact SeqAt.EqAt.none_str b t
    | _ => exact absurd (show false = true from fx) Bool.false_ne_true
  | bl a =>
    cases ry
    cases x with
    | non => cases rx; exact SeqAt.EqAt.bool_none a
    | bl b => cases rx; exact SeqAt.EqAt.bool_bool a b
    | int b => obtain ⟨t, rfl⟩ := rx; exact SeqAt.EqAt.bool_int a b t
    | str b => obtain ⟨t, rfl⟩ := rx; exact SeqAt.EqAt.bool_str a b t
    | _ => exact absurd (show false = true from fx) Bool.false_ne_true
  | int a =>
    obtain ⟨t', rfl⟩ := ry
    cases x with
    | non => cases rx; exact SeqAt.EqAt.int_none a t'
    | bl b => cases rx; exact SeqAt.EqAt.int_bool a t' b
    | int b => obtain ⟨t, rfl⟩ := rx; exact SeqAt.EqAt.int_int a t' b t
    | str b => obtain ⟨t, rfl⟩ := rx; exact SeqAt.EqAt.int_str a t' b t
    | _ => exact absurd (show false = true from fx) Bool.false_ne_true
  | str a =>
    obtain ⟨t', rfl⟩ := ry
    cases x with
    | non => cases rx; exact SeqAt.EqAt.str_none a t'
    | bl b => cases rx; exact SeqAt.EqAt.str_bool a t' b
    | int b => obtain ⟨t, rfl⟩ := rx; exact SeqAt.EqAt.str_int a t' b t
    | str b => obtain ⟨t, rfl⟩ := rx; exact SeqAt.EqAt.str_str a t' b t
    | _ => exact absurd (show false = true from fx) Bool.false_ne_true
  | _ => exact absurd (show false = true from fy) Bool.false_ne_true
theorem call_len_seq : CallR X (.builtin "len") (fun xs H Q => ∃ p ys, xs = [.ref p] ∧ (SqL X.K H p ys ∨ SqT X.K H p ys) ∧ Q (.int ys.length) H) := by
  intro pins s σ H xs us Q I r h
  obtain ⟨p, ys, rfl, hq, q⟩ := h
  obtain ⟨u, rfl, rx⟩ := vals1 r
  cases rx
  have hn := line63
  rcases hq with hq | hq
  · obtain ⟨its, r', pl, hz⟩ := I.list hq
    have hlen := r'.length
    exact Calls.call_len_list pl.isList (by simp only [List.size_toArray] <;> omega) ⟨.int ys.length, H, I.tok _, ⟨s.toks + 1, by rw [List.size_toArray, hlen]⟩, q⟩
  · obtain ⟨its, r', pl, hz⟩ := I.tuple hq
    have hlen := r'.length
    exact len_tuple pl (by simp only [List.size_toArray] <;> omega) ⟨.int ys.length, H, I.tok _, ⟨s.toks + 1, by rw [List.size_toArray, hlen]⟩, q⟩
theorem call_len_str : CallR X (.builtin "len") (fun xs H Q => ∃ z, xs = [.str z] ∧ z.length ≤ sizeLine ∧ Q (.int z.length) H) := by
  intro pins s σ H xs us Q I r h
  obtain ⟨z, rfl, hz, q⟩ := h
  obtain ⟨u, rfl, t, rfl⟩ := vals1 r
  have hn := line63
  exact len_str (by omega) ⟨.int z.length, H, I.tok _, ⟨_, rfl⟩, q⟩
theorem call_tuple_of : CallR X (.type "tuple") (fun xs H Q => ∃ p ys, xs = [.ref p] ∧ ((SqL X.K H p ys ∧ ∀ l, H l = none → Q (.ref l) (upd H l (.tup ys))) ∨ (SqT X.K H p ys ∧ Q (.ref p) H))) := by
  intro pins s σ H xs us Q I r h
  obtain ⟨p, ys, rfl, h⟩ := h
  obtain ⟨u, rfl, rx⟩ := vals1 r
  cases rx
  rcases h with ⟨hq, q⟩ | ⟨hq, q⟩
  · obtain ⟨its, r', pl, hz⟩ := I.list hq
    have hlen := r'.length
    refine call_tuple_list pl.isList (fun h' kp => ?_) (by simp only [List.size_toArray] <;> omega)
    have I1 : Inv X pins σ H { s with heap := h' } := I.kept (t' := s.toks) kp
    have I2 : Inv X pins σ (upd H h'.objs.size (.tup ys)) { s with heap := h'.push { cls := .type "tuple", data := .seq its.toArray } } :=
      I1.laid (t' := s.toks) (fun b o e => Heap.get?_push_of_some _ e) (Nat.le_refl _) (show ObjOk X.prog X.w _ _ _ (.tup ys) from ⟨hz, its, r', IsTup.new _ _⟩)
    exact ⟨.ref h'.objs.size, _, I2, rfl, q _ (I1.hok.fresh (Nat.le_refl _))⟩
  · obtain ⟨its, r', pl, hz⟩ := I.tuple hq
    exact call_tuple_same pl ⟨.ref p, H, I, rfl, q⟩
def tyV (K : PySem.W.Frag) (T : String) (x : V) (H : Hp) : Prop := match x with
  | .str _ => T = "str"
  | .int _ => T = "int"
  | .ref p => (T = "list" ∧ ∃ xs, SqL K H p xs) ∨ (T = "tuple" ∧ ∃ o, K.lookup p = some o ∧ o.cls = .type "tuple" ∧ o.dict = none) ∨
      (T = "dict" ∧ ((∃ kvs, H p = some (.dK kvs)) ∨ ∃ kvs, H p = some (.dT kvs))) ∨ (T = "set" ∧ ∃ S n, H p = some (.set S n))
  | _ => False
theorem tyV_is {pins : List (Addr × Obj)} {σ : St} {H : Hp} {s : Shared} {T : String} {x : V} {v : Value} (I : Inv X pins σ H s) (r : RelV x v) (ty : tyV X.K T x H) :
    s.TypeIs v T ∧ ∀ a, v = .ref a → ∃ ob, s.heap.get? a = some ob ∧ ob.dict = none := by
  cases x with
  | str z =>
    obtain ⟨t, rfl⟩ := r
    cases (show T = "str" from ty)
    exact ⟨typeIs_str s z t, fun _ e => nomatch e⟩
  | int i =>
    obtain ⟨t, rfl⟩ := r
    cases (show T = "int" from ty)
    exact ⟨typeIs_int s i t, fun _ e => nomatch e⟩
  | ref p =>
    cases r
    rcases ty with ⟨rfl, xs, hq⟩ | ⟨rfl, o, hk, hc, hd⟩ | ⟨rfl, hk⟩ | ⟨rfl, S, n, hk⟩
    · obtain ⟨its, _, pl, _⟩ := I.list hq
      refine ⟨pl.isList.typeIs, fun a e => ?_⟩
      cases e
      obtain ⟨o, n, e, c, hd, _⟩ := pl
      exact ⟨o, e, hd⟩
    · refine ⟨⟨o, I.kIn p o hk, hc⟩, fun a e => ?_⟩
      cases e
      exact ⟨o, I.kIn _ o hk, hd⟩
    · have z : ∃ o, s.heap.get? p = some o ∧ o.ExactDict := by
        rcases hk with ⟨kvs, hk⟩ | ⟨kvs, hk⟩
        · obtain ⟨_, _, _, _, o, _, _, e, ex, _⟩ := I.hok p _ hk
          exact ⟨o, e, ex⟩
        · obtain ⟨_, _, _, _, o, _, _, e, ex, _⟩ := I.hok p _ hk
          exact ⟨o, e, ex⟩
      obtain ⟨o, e, ex⟩ := z
      refine ⟨⟨o, e, ex.1⟩, fun a e2 => ?_⟩
      cases e2
      exact ⟨o, e, ex.2.1⟩
    · obtain ⟨o, _, _, _, e, ex, _⟩ := I.hok p _ hk
      refine ⟨⟨o, e, ex.1⟩, fun a e2 => ?_⟩
      cases e2
      exact ⟨o, e, ex.2.1⟩
  | _ => exact False.elim ty
def tBM0 (K : PySem.W.Frag) (T : String) (r : V → List V → Hp → VK → Prop) (to : TE) : TE := fun σ H Q => to σ H fun x H1 => tyV K T x H1 ∧ r x [] H1 Q
def tBM (K : PySem.W.Frag) (T : String) (r : V → List V → Hp → VK → Prop) (to : TE) (t : TA) : TE := fun σ H Q => to σ H fun x H1 => tyV K T x H1 ∧ t σ H1 fun xs H2 => r x xs H2 Q
variable {o e : Expr} {es : List Expr} {to : TE} {t : TA} {name : Str} {apos cpos : Pos} {T id : String} {r : V → List V → Hp → VK → Prop}
theorem pe_bm0 (pa : PlainAttrs T) (slot : Slot T name id) (hty : typeOf (.builtin id) = pure (.type "method_descriptor")) (hm : MtR X id r) (ho : PE X o to)
    (hbase : attributeBase o name X.env (eval o X.env) = eval o X.env := by rfl) (hline : (apos.endLine == cpos.line) = true := by rfl) : PE X (.Call (.Attribute o name apos) [] [] cpos) (tBM0 X.K T r to) := by
  intro pins s σ H Q I h
  refine wpAny_Call_method0_late hbase hline (thn (ho pins s σ H _ I h) fun v s1 ⟨x, H1, I1, r1, ty, q1⟩ => ?_)
  obtain ⟨h1, h2⟩ := tyV_is I1 r1 ty
  exact ⟨T, id, pa, slot, hty, h1, h2, Calls.callWith_builtin rfl (PySem.evalArgs_none (hm pins s1 σ H1 x [] v [] Q I1 r1 .nil q1))⟩
theorem pe_bm (pa : PlainAttrs T) (slot : Slot T name id) (hty : typeOf (.builtin id) = pure (.type "method_descriptor")) (hm : MtR X id r) (ho : PE X o to) (ha : PA X (e :: es) t)
    (hbase : attributeBase o name X.env (eval o X.env) = eval o X.env := by rfl)
    (hfew : ((backTo cpos (starEach (e :: es) X.env)).all (fun x => !x.1) && (backToKw cpos (keywordEach [] X.env)).all (fun x => x.1.isSome)
      && decide ((e :: es).length + ([] : List Keyword).length + (if ([] : List Keyword).isEmpty then 0 else 1) < 30)) = true := by rfl)
    (hline : (apos.endLine == cpos.line) = true := by rfl) (hs : starEach (e :: es) X.env = (false, eval e X.env) :: starEach es X.env := by rfl) (hplain : (backTo cpos (starEach es X.env)).any (·.1) = false := by rfl) :
    PE X (.Call (.Attribute o name apos) (e :: es) [] cpos) (tBM X.K T r to t) := by
  intro pins s σ H Q I h
  refine wpAny_Call_method_late hbase hfew hline rfl (thn (ho pins s σ H _ I h) fun v s1 ⟨x, H1, I1, r1, ty, q1⟩ => ?_)
  obtain ⟨h1, h2⟩ := tyV_is I1 r1 ty
  refine ⟨T, id, pa, slot, hty, h1, h2, ?_⟩
  have hA := ha cpos pins s1 σ H1 _ I1 q1
  rw [hs] at hA ⊢
  refine Calls.callWith_builtin (by show (false || (backTo cpos (starEach es X.env)).any (·.1)) = false; rw [hplain] <;> rfl) (Calls.evalArgs_plain ?_)
  exact thn hA fun us s2 ⟨vs, H2, I2, r2, q2⟩ => hm pins s2 σ H2 x vs v us Q I2 r1 r2 q2
/- xs.append(e), list.index on a module's tuple .. are MtR facts of 06m -/
end
end L2
namespace L2
open PySem PySem.Spec PyProof.Rows
def MtM (X : Cx) (id : String) (r : V → List V → Hp → VK → Prop) : Prop :=
  ∀ (pins : List (Addr × Obj)) (s : Shared) (σ : St) (H : Hp) (x : V) (xs : List V) (v : Value) (us : List Value) (Q : VK), Inv X pins σ H s → RelV x v → Vals xs us → r x xs H Q →
    wpAny (model X.prog X.w) X.A (call (.builtin id) (v :: us)) (EP X pins σ Q) X.xe s
theorem Vals.one : ∀ {x : V} {us : List Value}, Vals [x] us → ∃ u, us = [u] ∧ RelV x u
  | _, _, .cons r .nil => ⟨_, rfl, r⟩
theorem Vals.zero : ∀ {us : List Value}, Vals [] us → us = []
  | _, .nil => rfl
theorem Vals.reverse {xs : List V} {us : List Value} (h : Vals xs us) : Vals xs.reverse us.reverse := by
  induction h with
  | nil => exact .nil
  | cons r t ih => rw [List.reverse_cons, List.reverse_cons]; exact Vals.append ih (.cons r .nil)
section
variable {X : Cx} {pins : List (Addr × Obj)} {σ : St} {H : Hp} {s : Shared} {l b : Addr} {xs ys zs : List V}
theorem Inv.lset {its its' : List Value} {n : Nat} {f : Array Value → Array Value} {t' : Nat} (I : Inv X pins σ H s) (hH : H l = some (.lst xs))
    (e : s.heap.get? l = some { cls := .type "list", data := .seq its.toArray n }) (hf : f its.toArray = its'.toArray) (hv : Vals ys its') (hz : ys.length ≤ sizeLine) :
    Inv X pins σ (upd H l (.lst ys)) { s with heap := s.heap.update l (Obj.mapSeq f), toks := t' } := by
  have q := PySem.IsL.update e f
  rw [hf] at q
  refine I.write (x := l) (e := l) (by rw [hH]; exact trivial) (.inl rfl) (fun b' u hb hu => (Heap.get?_update_other s.heap (Obj.mapSeq f) (Ne.symm hb)).trans hu) ⟨_, q⟩ ?_
  exact ⟨hz, its', _, hv, q⟩
theorem Inv.lnew {its : List Value} {t' : Nat} (I : Inv X pins σ H s) (hv : Vals ys its) (hz : ys.length ≤ sizeLine) :
    Inv X pins σ (upd H s.heap.objs.size (.lst ys)) { s with heap := s.heap.push { cls := .type "list", data := .seq its.toArray }, toks := t' } :=
  I.laid (fun _ _ q => Heap.get?_push_of_some _ q) (Nat.le_refl _) ⟨hz, its, 0, hv, Heap.get?_push_size _ rfl⟩
theorem Inv.fresh (I : Inv X pins σ H s) : H s.heap.objs.size = none := I.hok.fresh (Nat.le_refl _)
theorem Inv.lstM (I : Inv X pins σ H s) (hH : H l = some (.lst xs)) : xs.length ≤ sizeLine ∧ ∃ (its : List Value) (n : Nat), Vals xs its ∧ xs.length = its.length ∧ s.heap.get? l = some { cls := .type "list", data := .seq its.toArray n } := by
  obtain ⟨z, its, n, r, e⟩ := I.hok l _ hH
  exact ⟨z, its, n, r, r.length, e⟩
end
section
variable {X : Cx}
def rAppend : V → List V → Hp → VK → Prop := fun x vs H Q => ∃ l xs y, x = .ref l ∧ vs = [y] ∧ H l = some (.lst xs) ∧ xs.length < sizeLine ∧ Q .non (upd H l (.lst (xs ++ [y])))
theorem mt_append : MtM X "list.append" rAppend := by
  intro pins s σ H x vs v us Q I rx rv h
  obtain ⟨l, xs, y, rfl, rfl, hH, hz, q⟩ := h
  cases rx
  obtain ⟨u, rfl, ru⟩ := rv.one
  obtain ⟨z, its, n, r, hl, e⟩ := I.lstM hH
  refine call_meets F.slot_list_append ⟨_, e, rfl⟩ F.entry_list_append (F.args_list_append_2 _ _) (PySem.list_append l its.toArray n u (by rw [List.size_toArray]; omega)) ⟨e, ?_⟩
  refine ⟨.non, _, I.lset (its' := its ++ [u]) hH e (by simp) (r.append (.cons ru .nil)) ?_, rfl, q⟩
  rw [List.length_append, List.length_singleton]
  omega
def rCat : R2 := fun x y H Q => ∃ l b xs zs, x = .ref l ∧ y = .ref b ∧ H l = some (.lst xs) ∧ H b = some (.lst zs) ∧ xs.length + zs.length ≤ sizeLine ∧ ∀ p, H p = none → Q (.ref p) (upd H p (.lst (xs ++ zs)))
theorem op_cat : OpR X (binaryOp .Add) rCat := by
  intro pins s σ H x y v u Q I rx ry h
  obtain ⟨l, b, xs, zs, rfl, rfl, hH, hB, hz, q⟩ := h
  cases rx
  cases ry
  obtain ⟨z, its, n, r, hl, e⟩ := I.lstM hH
  obtain ⟨z2, its2, n2, r2, hl2, e2⟩ := I.lstM hB
  refine PySem.P.add_list e e2 ?_ (by rw [List.size_toArray, List.size_toArray]; omega)
  have ea : its.toArray ++ its2.toArray = (its ++ its2).toArray := by simp
  rw [ea]
  exact ⟨.ref _, _, I.lnew (t' := s.toks) (r.append r2) (by rw [List.length_append]; omega), rfl, q _ I.fresh⟩
end
section
variable {prog : Program} {w : World} {A : Around} {E : Value → Shared → Prop} {s : Shared}
end
section
variable {X : Cx}
end
end L2
namespace L2
open PySem PySem.Spec PyProof.Rows
section
variable {κ : Type} [DecidableEq κ]
def valV (kvs : List (κ × V)) (k : κ) : Option V := (kvs.find? fun kv => decide (kv.1 = k)).map (·.2)
def putK (kvs : List (κ × V)) (k : κ) (v : V) : List (κ × V) :=
  if (kvs.any fun kv => decide (kv.1 = k)) = true then kvs.map (fun kv => if kv.1 = k then (kv.1, v) else kv) else kvs ++ [(k, v)]
theorem valV_pos {p : κ × V} {r : List (κ × V)} {k : κ} (e : p.1 = k) : valV (p :: r) k = some p.2 := by simp [valV, List.find?_cons, e]
theorem valV_neg {p : κ × V} {r : List (κ × V)} {k : κ} (e : ¬ p.1 = k) : valV (p :: r) k = valV r k := by simp [valV, List.find?_cons, e]
theorem valV_any (k : κ) : ∀ kvs : List (κ × V), (kvs.any fun kv => decide (kv.1 = k)) = (valV kvs k).isSome
  | [] => rfl
  | p :: r => by
    rw [List.any_cons]
    by_cases e : p.1 = k
    · simp only [valV_pos e, decide_eq_true e, Bool.true_or, Option.isSome_some]
    · rw [valV_neg e, decide_eq_false e, Bool.false_or]; exact valV_any k r
theorem valV_snoc (k j : κ) (y : V) : ∀ kvs : List (κ × V), valV kvs k = none → valV (kvs ++ [(k, y)]) j = if j = k then some y else valV kvs j
  | [], _ => by
    by_cases e : k = j
    · rw [if_pos e.symm]; exact valV_pos (p := (k, y)) e
    · rw [if_neg (fun z => e z.symm)]; exact valV_neg (p := (k, y)) e
  | p :: r, hn => by
    rw [List.cons_append]
    have hk : ¬ p.1 = k := fun z => by rw [valV_pos z] at hn; cases hn
    rw [valV_neg hk] at hn
    have ih := valV_snoc k j y r hn
    by_cases e : p.1 = j
    · rw [valV_pos e, valV_pos e, if_neg (fun z => hk (e.trans z))]
    · rw [valV_neg e, valV_neg e, ih]
theorem length_putK (kvs : List (κ × V)) (k : κ) (v : V) : (putK kvs k v).length ≤ kvs.length + 1 := by
  unfold putK
  split
  · rw [List.length_map]; omega
  · rw [List.length_append, List.length_cons, List.length_nil]; omega
theorem putK_new {kvs : List (κ × V)} {k : κ} (v : V) (h : valV kvs k = none) : putK kvs k v = kvs ++ [(k, v)] := by
  unfold putK
  rw [valV_any, h]
  exact if_neg (by decide)
theorem RelO.isSome_eq {o : Option V} {u : Option Value} (r : RelO o u) : o.isSome = u.isSome := by
  cases o with
  | none => cases u with
    | none => rfl
    | some _ => exact (show False from r).elim
  | some _ => cases u with
    | none => exact (show False from r).elim
    | some _ => rfl
theorem KV.val {kvs : List (κ × V)} {vs : List (κ × Value)} (r : KV kvs vs) (k : κ) : RelO (valV kvs k) (valueAt vs k) := by
  unfold KV at r
  induction r with
  | nil => exact True.intro
  | @cons p q ps qs h t ih =>
    obtain ⟨h1, h2⟩ := h
    by_cases e : p.1 = k
    · have e' : q.1 = k := h1.symm.trans e
      have b : valueAt (q :: qs) k = some q.2 := by simp [valueAt, List.find?_cons, e']
      rw [valV_pos e, b]; exact h2
    · have e' : ¬ q.1 = k := fun z => e (h1.trans z)
      have b : valueAt (q :: qs) k = valueAt qs k := by simp [valueAt, List.find?_cons, e']
      rw [valV_neg e, b]; exact ih
theorem KV.any {kvs : List (κ × V)} {vs : List (κ × Value)} (r : KV kvs vs) (k : κ) : (kvs.any fun kv => decide (kv.1 = k)) = vs.any fun kv => decide (kv.1 = k) := by
  unfold KV at r
  induction r with
  | nil => rfl
  | cons h t ih => rw [List.any_cons, List.any_cons, ih, h.1]
theorem KV.repl {kvs : List (κ × V)} {vs : List (κ × Value)} (r : KV kvs vs) (k : κ) {y : V} {u : Value} (ry : RelV y u) :
    KV (kvs.map fun kv => if kv.1 = k then (kv.1, y) else kv) (vs.map fun kv => if kv.1 = k then (kv.1, u) else kv) := by
  unfold KV at r ⊢
  induction r with
  | nil => exact .nil
  | @cons p q ps qs h t ih =>
    rw [List.map_cons, List.map_cons]
    refine .cons ?_ ih
    obtain ⟨h1, h2⟩ := h
    by_cases e : p.1 = k
    · rw [if_pos e, if_pos (h1.symm.trans e)]; exact ⟨h1, ry⟩
    · rw [if_neg e, if_neg (fun z => e (h1.trans z))]; exact ⟨h1, h2⟩
theorem KV.put {kvs : List (κ × V)} {vs : List (κ × Value)} (r : KV kvs vs) (k : κ) {y : V} {u : Value} (ry : RelV y u) : KV (putK kvs k y) (stored vs k u) := by
  unfold putK stored
  rw [r.any k]
  by_cases e : (vs.any fun kv => decide (kv.1 = k)) = true
  · rw [if_pos e, if_pos e]; exact r.repl k ry
  · rw [if_neg e, if_neg e]; exact Paired.snoc r ⟨rfl, ry⟩
theorem KV.length {kvs : List (κ × V)} {vs : List (κ × Value)} (r : KV kvs vs) : kvs.length = vs.length := Paired.length r
end
theorem kV_is {P : Program} {w : World} {k : Key} {u : Value} (r : RelV (kV k) u) : (mixKind P w).is k u = true := by
  cases k with
  | inl i => obtain ⟨t, e⟩ := (show ∃ t, u = Value.int i t from r); subst e; exact mixKind_int P w i t
  | inr x => obtain ⟨t, e⟩ := (show ∃ t, u = Value.str x t from r); subst e; exact mixKind_str P w x t
theorem kV_inj {a b : Key} (e : kV a = kV b) : a = b := by
  cases a with
  | inl i => cases b with
    | inl j => have e' : V.int i = V.int j := e; injection e' with e'; rw [e']
    | inr y => exact nomatch (show V.int i = V.str y from e)
  | inr x => cases b with
    | inl j => exact nomatch (show V.str x = V.int j from e)
    | inr y => have e' : V.str x = V.str y := e; injection e' with e'; rw [e']
theorem items_are {P : Program} {w : World} : ∀ {ks : List Key} {us : List Value}, Vals (ks.map kV) us → ItemsAre (mixKind P w) ks us
  | [], _, r => by rw [List.map_nil] at r; cases r; exact .nil
  | k :: ks, _, r => by
    rw [List.map_cons] at r
    cases r with
    | cons h t => exact .cons (kV_is h) (items_are t)
abbrev KT (H : Hp) : List (List Key × V) → List (List Key × Addr × Value) → Prop := Paired fun p q => p.1 = q.1 ∧ H q.2.1 = some (.tup (p.1.map kV)) ∧ RelV p.2 q.2.2
theorem KT.val {H : Hp} {kvs : List (List Key × V)} {xs : List (List Key × Addr × Value)} (r : KT H kvs xs) (k : List Key) : RelO (valV kvs k) ((atKey xs k).map (·.2)) := by
  induction r with
  | nil => exact True.intro
  | @cons p q ps qs h t ih =>
    obtain ⟨h1, _, h2⟩ := h
    by_cases e : p.1 = k
    · have e' : q.1 = k := h1.symm.trans e
      have b : atKey (q :: qs) k = some q.2 := by simp [atKey, List.find?_cons, e']
      rw [valV_pos e, b]; exact h2
    · have e' : ¬ q.1 = k := fun z => e (h1.trans z)
      have b : atKey (q :: qs) k = atKey qs k := by simp [atKey, List.find?_cons, e']
      rw [valV_neg e, b]; exact ih
theorem KT.repl {H : Hp} {kvs : List (List Key × V)} {xs : List (List Key × Addr × Value)} (r : KT H kvs xs) (k : List Key) {y : V} {u : Value} (ry : RelV y u) :
    KT H (kvs.map fun kv => if kv.1 = k then (kv.1, y) else kv) (xs.map (putAt k u)) := by
  induction r with
  | nil => exact .nil
  | @cons p q ps qs h t ih =>
    rw [List.map_cons, List.map_cons]
    refine .cons ?_ ih
    obtain ⟨h1, h2, h3⟩ := h
    unfold putAt
    by_cases e : p.1 = k
    · rw [if_pos e, if_pos (h1.symm.trans e)]; exact ⟨h1, h2, ry⟩
    · rw [if_neg e, if_neg (fun z => e (h1.trans z))]; exact ⟨h1, h2, h3⟩
theorem KT.put {H : Hp} {kvs : List (List Key × V)} {xs : List (List Key × Addr × Value)} (r : KT H kvs xs) (k : List Key) {b : Addr} {y : V} {u : Value} (hb : H b = some (.tup (k.map kV))) (ry : RelV y u) :
    KT H (putK kvs k y) (storedH xs k b u) := by
  have e : (kvs.any fun kv => decide (kv.1 = k)) = (atKey xs k).isSome := by
    rw [valV_any, (r.val k).isSome_eq, Option.isSome_map]
  unfold putK storedH
  rw [e]
  by_cases q : (atKey xs k).isSome = true
  · rw [if_pos q, if_pos q]; exact r.repl k ry
  · rw [if_neg q, if_neg q]; exact Paired.snoc r ⟨rfl, hb, ry⟩
theorem KT.keeps {H H' : Hp} {kvs : List (List Key × V)} {xs : List (List Key × Addr × Value)} (r : KT H kvs xs) (ht : ∀ b ys, H b = some (.tup ys) → H' b = some (.tup ys)) : KT H' kvs xs :=
  Paired.mapP r fun _ _ z => ⟨z.1, ht _ _ z.2.1, z.2.2⟩
section
variable {P : Program} {w : World} {H : Hp} {h : Heap} {a : Addr}
theorem rd_of {u : HO} (ok : HOk P w H h) (e : Rd H a u) : ObjOk P w H h a u := e.ok ok
theorem dk_rd {kvs : List (Key × V)} (ok : HOk P w H h) (e : Rd H a (.dK kvs)) : kvs.length ≤ sizeLine ∧ (a == sysModules) = false ∧ ∃ vs, KV kvs vs ∧ h.DictOf (mixKind P w) a vs :=
  show ObjOk P w H h a (.dK kvs) from rd_of ok e
theorem dk_of {kvs : List (Key × V)} (ok : HOk P w H h) (e : H a = some (.dK kvs)) : kvs.length ≤ sizeLine ∧ (a == sysModules) = false ∧ ∃ vs, KV kvs vs ∧ h.DictOf (mixKind P w) a vs := dk_rd ok (.inl e)
theorem key_of {ks : List Key} (ok : HOk P w H h) (e : H a = some (.tup (ks.map kV))) : (tupleKind (mixKind P w)).is h ks a := by
  obtain ⟨_, its, r, o, h1, h2, n, h3⟩ := (show ObjOk P w H h a (.tup (ks.map kV)) from ok a _ e)
  exact ⟨o, its.toArray, n, h1, h2, h3, by simpa using items_are r⟩
theorem dt_rd {kvs : List (List Key × V)} (ok : HOk P w H h) (e : Rd H a (.dT kvs)) : kvs.length ≤ sizeLine ∧ (a == sysModules) = false ∧
    ∃ xs, KT H kvs xs ∧ h.DictOfH (tupleKind (mixKind P w)) a xs := by
  obtain ⟨z, y, xs, r, o, es, ep, h1, h2, h3, h4, h5⟩ := (show ObjOk P w H h a (.dT kvs) from rd_of ok e)
  refine ⟨z, y, xs, r, o, es, ep, h1, h2, h3, h4, fun x hx => ?_, h5⟩
  have all : ∀ {l : List (List Key × V)} {m : List (List Key × Addr × Value)}, KT H l m → ∀ x ∈ m, (tupleKind (mixKind P w)).is h x.1 x.2.1 := by
    intro l m q
    induction q with
    | nil => intro x hx; exact nomatch hx
    | @cons p q ps qs hq t ih =>
      intro x hx
      rcases List.mem_cons.mp hx with e | hx
      · subst e
        exact key_of ok (by rw [← hq.1]; exact hq.2.1)
      · exact ih x hx
  exact all r x hx
theorem dt_of {kvs : List (List Key × V)} (ok : HOk P w H h) (e : H a = some (.dT kvs)) : kvs.length ≤ sizeLine ∧ (a == sysModules) = false ∧
    ∃ xs, KT H kvs xs ∧ h.DictOfH (tupleKind (mixKind P w)) a xs := dt_rd ok (.inl e)
end
def DGet (H : Hp) (a : Addr) (y : V) (r : Option V) : Prop :=
  (∃ kvs k, Rd H a (.dK kvs) ∧ y = kV k ∧ r = valV kvs k) ∨ ∃ kvs k b, Rd H a (.dT kvs) ∧ y = .ref b ∧ H b = some (.tup (k.map kV)) ∧ r = valV kvs k
def DPut (H : Hp) (a : Addr) (y v : V) (H' : Hp) : Prop :=
  (∃ kvs k, H a = some (.dK kvs) ∧ y = kV k ∧ kvs.length < sizeLine ∧ H' = upd H a (.dK (putK kvs k v))) ∨
  ∃ kvs k b, H a = some (.dT kvs) ∧ y = .ref b ∧ H b = some (.tup (k.map kV)) ∧ kvs.length < sizeLine ∧ H' = upd H a (.dT (putK kvs k v))
theorem DGet.t {H : Hp} {a b : Addr} {kvs : List (List Key × V)} {k : List Key} (e : H a = some (.dT kvs)) (eb : H b = some (.tup (k.map kV))) : DGet H a (.ref b) (valV kvs k) := .inr ⟨kvs, k, b, .inl e, rfl, eb, rfl⟩
theorem DPut.t {H : Hp} {a b : Addr} {kvs : List (List Key × V)} {k : List Key} {v : V} (e : H a = some (.dT kvs)) (eb : H b = some (.tup (k.map kV))) (hl : kvs.length < sizeLine) :
    DPut H a (.ref b) v (upd H a (.dT (putK kvs k v))) := .inr ⟨kvs, k, b, e, rfl, eb, hl, rfl⟩
section
variable {X : Cx} {pins : List (Addr × Obj)} {σ : St} {H : Hp} {s : Shared} {a : Addr} {y v : V} {u r : Value} {o : Option V} {A : Around} {E : Value → Shared → Prop}
theorem Inv.big (I : Inv X pins σ H s) : sysModules < s.heap.objs.size := by
  have h : mainGlobals < s.heap.objs.size := (I.mod.glob.keeps I.bk).lt
  exact Nat.lt_trans (by decide) h
theorem d_getItem {Q : Value → Shared → Prop} (hu : A.units + 1 < cLine) (I : Inv X pins σ H s) (g : DGet H a y (some v)) (ry : RelV y u) (h : ∀ w' s', Inv X pins σ H s' → RelV v w' → Q w' s') :
    wpAny (model X.prog X.w) A (getItem (.ref a) u) Q E s := by
  rcases g with ⟨kvs, k, e, ey, l⟩ | ⟨kvs, k, b, e, ey, eb, l⟩
  · subst ey
    obtain ⟨z, hd, vs, rel, dd⟩ := dk_rd I.hok e
    obtain ⟨w', hw, rw'⟩ := RelO.some_of (v := v) (o := valueAt vs k) (by rw [l]; exact rel.val k)
    exact wpAny_getItem_of (kV_is ry) dd.mapOf hw (h w' _ (I.tok _) rw')
  · subst ey
    cases (show u = Value.ref b from ry)
    obtain ⟨z, hd, xs, rel, dd⟩ := dt_rd I.hok e
    obtain ⟨w', hw, rw'⟩ := RelO.some_of (v := v) (o := (atKey xs k).map (·.2)) (by rw [l]; exact rel.val k)
    obtain ⟨p, hp, hp2⟩ := Option.map_eq_some_iff.mp hw
    refine wpAny_getItem_heap (tupleKind_room_in1 hu) (key_of I.hok eb) dd hp ?_
    rw [hp2]
    exact h w' _ (I.tok _) rw'
theorem d_notIn {Q : Value → Shared → Prop} (hu : A.units + 1 < cLine) (I : Inv X pins σ H s) (g : DGet H a y o) (ry : RelV y u) (h : ∀ s', Inv X pins σ H s' → Q (.bool (!o.isSome)) s') :
    wpAny (model X.prog X.w) A (compareOp .NotIn u (.ref a)) Q E s := by
  rcases g with ⟨kvs, k, e, ey, l⟩ | ⟨kvs, k, b, e, ey, eb, l⟩
  · subst ey
    obtain ⟨z, hd, vs, rel, dd⟩ := dk_rd I.hok e
    refine wpAny_notIn_of (kV_is ry) hd dd.mapOf ?_
    rw [← (rel.val k).isSome_eq, ← l]
    exact h _ (I.tok _)
  · subst ey
    cases (show u = Value.ref b from ry)
    obtain ⟨z, hd, xs, rel, dd⟩ := dt_rd I.hok e
    refine wpAny_notIn_heap (tupleKind_room_in1 hu) (key_of I.hok eb) hd dd ?_
    have q := (rel.val k).isSome_eq
    rw [Option.isSome_map] at q
    rw [← q, ← l]
    exact h _ (I.tok _)
theorem d_write {h' : Heap} {t' : Nat} {ob : HO} (I : Inv X pins σ H s) (mu : Mut (H a)) (hs : Heap.SameBut a s.heap h') (he : ∃ q, h'.get? a = some q) (new : ObjOk X.prog X.w (upd H a ob) h' a ob) :
    Inv X pins σ (upd H a ob) { s with heap := h', toks := t' } :=
  I.write (x := a) (e := a) mu (.inl rfl) (fun b q hb z => (hs.2 b hb).trans z) he new
theorem dk_new {P : Program} {w : World} {H' : Hp} {h' : Heap} {kvs : List (Key × V)} {vs : List (Key × Value)} (z : kvs.length ≤ sizeLine) (hd : (a == sysModules) = false) (rel : KV kvs vs) (dd : h'.DictOf (mixKind P w) a vs) :
    ObjOk P w H' h' a (.dK kvs) := ⟨z, hd, vs, rel, dd⟩
theorem d_setItem {H' : Hp} {Q : Unit → Shared → Prop} (hu : A.units + 1 < cLine) (I : Inv X pins σ H s) (g : DPut H a y v H') (ry : RelV y u) (rv : RelV v r) (h : ∀ s', Inv X pins σ H' s' → Q () s') :
    wpAny (model X.prog X.w) A (setItem (.ref a) u r) Q E s := by
  rcases g with ⟨kvs, k, e, ey, l, eH⟩ | ⟨kvs, k, b, e, ey, eb, l, eH⟩
  · subst ey eH
    obtain ⟨z, hd, vs, rel, dd⟩ := dk_of I.hok e
    have hz : vs.length ≤ sizeLine := by rw [← rel.length]; exact z
    have hl : (putK kvs k v).length ≤ sizeLine := by have := length_putK kvs k v; omega
    refine wpAny_setItem_pairs (hsz := hz) (kV_is ry) dd fun h' dd' hs => h _ ?_
    have he : ∃ q, h'.get? a = some q := let ⟨q, _, _, hq, _⟩ := dd'; ⟨q, hq⟩
    exact d_write I (by rw [e]; exact True.intro) hs he (dk_new hl hd (rel.put k rv) dd')
  · subst ey eH
    cases (show u = Value.ref b from ry)
    obtain ⟨z, hd, xs, rel, dd⟩ := dt_of I.hok e
    have hz : xs.length ≤ sizeLine := by rw [← Paired.length rel]; exact z
    have hl : (putK kvs k v).length ≤ sizeLine := by have := length_putK kvs k v; omega
    refine wpAny_setItem_heap (hsz := hz) (tupleKind_room_in1 hu) (key_of I.hok eb) dd fun h' dd' hs => h _ ?_
    obtain ⟨q, es, ep, hq, h2, h3, h4, _, h5⟩ := dd'
    refine d_write I (by rw [e]; exact True.intro) hs ⟨q, hq⟩ ⟨hl, hd, _, (rel.put k eb rv).keeps fun c ys ec => ?_, q, es, ep, hq, h2, h3, h4, h5⟩
    rw [upd_ne (ne_of ec e (fun z => nomatch z))]
    exact ec
end
section
variable {X : Cx} {pins : List (Addr × Obj)} {σ : St} {H : Hp} {s : Shared} {a : Addr} {kvs : List (Key × V)} {k : Key} {u : Value} {A : Around} {E : Value → Shared → Prop}
end
def NoSl (i : Expr) : Prop := ∀ ov iv, subscripted i false ov iv = operate [ov, iv] (getItem ov iv)
theorem subD_of {prog : Program} {w : World} {A : Around} {E : Value → Shared → Prop} {s : Shared} {env : Env} {value slice : Expr} {pos : Pos} {T id : String} {Q : Value → Shared → Prop}
    (hl : typeLookup (.type T) "__getitem__" = pure (some (.builtin id))) (hs : NoSl slice)
    (h : wpAny (model prog w) A (eval value env) (fun o s₁ => wpAny (model prog w) A (eval slice env) (fun i s₂ => s₂.TypeIs o T ∧ wpAny (model prog w) A (getItem o i) Q E s₂) E s₁) E s) :
    wpAny (model prog w) A (eval (.Subscript value slice pos) env) Q E s := by
  refine Subscript_ (wpAny_mono h (fun o s₁ h₁ => wpAny_mono h₁ (fun i s₂ h₂ => ?_) fun _ _ x => x) fun _ _ x => x)
  obtain ⟨hT, h₂⟩ := h₂
  unfold subscriptTail
  refine wpAny_bind ?_
  rw [getitemInPython_of_ne hT.not_modules]
  refine wpAny_bind (wpAny_specialOf hT hl ?_)
  have fin : wpAny (model prog w) A (subscripted slice false o i) (fun r s₃ => wpAny (model prog w) A (letTemporaryGo value o r >>= fun _ => pure r) Q E s₃) E s₂ := by
    rw [hs o i]
    exact wpAny_operating (wpAny_mono h₂ (fun r s₃ h₃ => wpAny_bind (wpAny_letTemporaryGo (wpAny_pure h₃))) fun _ _ x => x)
  first
    | exact wpAny_pure (wpAny_bind fin)
    | exact wpAny_bind (wpAny_pure (wpAny_bind fin))
    | exact wpAny_bind fin
theorem dict_typeIs {X : Cx} {pins : List (Addr × Obj)} {σ : St} {H : Hp} {s : Shared} {a : Addr} {y : V} {o : Option V} (I : Inv X pins σ H s) (g : DGet H a y o) : s.TypeIs (.ref a) "dict" := by
  rcases g with ⟨kvs, k, e, _, _⟩ | ⟨kvs, k, b, e, _, _, _⟩
  · obtain ⟨_, _, vs, _, dd⟩ := dk_rd I.hok e
    exact dd.typeIs
  · obtain ⟨_, _, xs, _, dd⟩ := dt_rd I.hok e
    exact dd.typeIs
def tDGet (td ty : TE) : TE := fun σ H Q => td σ H fun x H1 => ty σ H1 fun y H2 => ∃ a v, x = .ref a ∧ DGet H2 a y (some v) ∧ Q v H2
def tDNotIn (ty td : TE) : TE := fun σ H Q => ty σ H fun y H1 => td σ H1 fun x H2 => ∃ a o, x = .ref a ∧ DGet H2 a y o ∧ Q (.bl (!o.isSome)) H2
def sDPut (td ty tv : TE) : TS := fun D σ H => tv σ H fun v H1 => td σ H1 fun x H2 => ty σ H2 fun y H3 => ∃ a H4, x = .ref a ∧ DPut H3 a y v H4 ∧ D.nx σ H4
section
variable {X : Cx} {o i e value : Expr} {pos pos' tpos : Pos} {td ty tv : TE}
theorem pe_dget (hu : X.A.units + 1 < cLine) (ho : PE X o td) (hi : PE X i ty) (hs : NoSl i) : PE X (.Subscript o i pos) (tDGet td ty) := by
  intro pins s σ H Q I h
  refine subD_of PySem.F.slot_dict_getitem.lookup hs (thn (ho pins s σ H _ I h) fun u s1 ⟨x, H1, I1, rx, q1⟩ => thn (hi pins s1 σ H1 _ I1 q1) fun iv s2 ⟨y, H2, I2, ry, a, v, ex, g, q2⟩ => ?_)
  subst ex
  obtain rfl : u = Value.ref a := rx
  exact ⟨dict_typeIs I2 g, d_getItem hu I2 g ry fun w' s3 I3 rw' => ⟨v, H2, I3, rw', q2⟩⟩
theorem pc_dnotin (hu : X.A.units + 1 < cLine) (hi : PE X i ty) (ho : PE X o td) : PC X .NotIn i o (tDNotIn ty td) := by
  intro pins s σ H Q I h
  refine thn (hi pins s σ H _ I h) fun iv s1 ⟨y, H1, I1, ry, q1⟩ => thn (ho pins s1 σ H1 _ I1 q1) fun u s2 ⟨x, H2, I2, rx, a, ov, ex, g, q2⟩ => ?_
  subst ex
  obtain rfl : u = Value.ref a := rx
  exact d_notIn hu I2 g ry fun s3 I3 => ⟨.bl (!ov.isSome), H2, I3, rfl, q2⟩
theorem ps_dput (hu : X.A.units + 1 < cLine) (ho : PE X o td) (hi : PE X i ty) (hv : PE X value tv) (hs : swapsWith value (some (.Subscript o i pos')) pos.line X.env = pure false) :
    PS X (.Assign [.Subscript o i pos'] value pos) (sDPut td ty tv) := by
  intro pins s σ H D I h
  refine wpAny_Assign_Subscript (thn (hv pins s σ H _ I h) fun r s1 ⟨v, H1, I1, rv, q1⟩ => thn (ho pins s1 σ H1 _ I1 q1) fun u s2 ⟨x, H2, I2, rx, q2⟩ => thn (hi pins s2 σ H2 _ I2 q2) fun iv s3 ⟨y, H3, I3, ry, a, H4, ex, g, q3⟩ => ?_) hs
  subst ex
  obtain rfl : u = Value.ref a := rx
  exact d_setItem hu I3 g ry rv fun s4 I4 => ⟨σ, H4, I4, q3⟩
end
theorem dk_empty {P : Program} {w : World} {H : Hp} (h : Heap) (hb : sysModules < h.objs.size) : ObjOk P w H (h.push { cls := .type "dict", data := .dict #[] }) h.objs.size (.dK []) :=
  ⟨Nat.zero_le _, beq_eq_false_iff_ne.mpr (Ne.symm (Nat.ne_of_lt hb)), [], .nil, Heap.DictOf.new h⟩
theorem dt_empty {P : Program} {w : World} {H : Hp} (h : Heap) (hb : sysModules < h.objs.size) : ObjOk P w H (h.push { cls := .type "dict", data := .dict #[] }) h.objs.size (.dT []) :=
  ⟨Nat.zero_le _, beq_eq_false_iff_ne.mpr (Ne.symm (Nat.ne_of_lt hb)), [], .nil, _, #[], 0, Heap.get?_push_size _ rfl, ⟨rfl, rfl, rfl⟩, rfl, rfl, List.nodup_nil⟩
def tDNewK : TE := fun _ H Q => ∀ p, H p = none → Q (.ref p) (upd H p (.dK []))
def tDNewT : TE := fun _ H Q => ∀ p, H p = none → Q (.ref p) (upd H p (.dT []))
section
variable {X : Cx} {pos : Pos}
theorem pe_dnewK : PE X (.Dict [] [] pos) tDNewK := fun pins s σ H Q I h =>
  wpAny_Dict_empty ⟨.ref s.heap.objs.size, _, I.laid (a := s.heap.objs.size) (o := .dK []) (t' := s.toks) (fun _ _ q => Heap.get?_push_of_some _ q) (Nat.le_refl _) (dk_empty s.heap I.big), rfl, h _ (I.hok.fresh (Nat.le_refl _))⟩
theorem pe_dnewT : PE X (.Dict [] [] pos) tDNewT := fun pins s σ H Q I h =>
  wpAny_Dict_empty ⟨.ref s.heap.objs.size, _, I.laid (a := s.heap.objs.size) (o := .dT []) (t' := s.toks) (fun _ _ q => Heap.get?_push_of_some _ q) (Nat.le_refl _) (dt_empty s.heap I.big), rfl, h _ (I.hok.fresh (Nat.le_refl _))⟩
end
section
variable {X : Cx} {pins : List (Addr × Obj)} {σ : St} {H : Hp} {s : Shared} {a : Addr} {y d : V} {u r : Value} {o : Option V} {A : Around} {E : Value → Shared → Prop}
end
section
variable {X : Cx} {o e f : Expr} {apos cpos : Pos} {td ty tx : TE}
end
section
variable {X : Cx} {pins : List (Addr × Obj)} {σ : St} {H : Hp} {s : Shared} {a : Addr} {kvs : List (Key × V)} {A : Around} {E : Value → Shared → Prop}
theorem d_copyOf {Q : Value → Shared → Prop} (I : Inv X pins σ H s) (e : Rd H a (.dK kvs)) (h : ∀ p s', H p = none → Inv X pins σ (upd H p (.dK kvs)) s' → Q (.ref p) s') : wpAny (model X.prog X.w) A (call (.type "dict") [.ref a]) Q E s := by
  obtain ⟨z, hd, vs, rel, dd⟩ := dk_rd I.hok e
  refine kt_call_dict hd dd (by rw [← rel.length]; exact z) fun h' dd' hs => ?_
  refine h _ _ (I.hok.fresh (Nat.le_refl _)) (I.laid (a := s.heap.objs.size) (o := .dK kvs) (t' := s.toks) (fun b q hq => ?_) (Nat.le_refl _) (dk_new z (beq_eq_false_iff_ne.mpr (Ne.symm (Nat.ne_of_lt I.big))) rel dd'))
  exact (hs.2 b (Nat.ne_of_lt (Heap.lt_size hq))).trans (Heap.get?_push_of_some _ hq)
end
section
variable {X : Cx} {pins : List (Addr × Obj)} {σ : St} {H : Hp} {s : Shared} {a : Addr} {y : V} {u : Value} {A : Around} {E : Value → Shared → Prop}
end
end L2
namespace Att
open PySem PySem.W PySem.Calls PyProof.Rows
theorem ints_of_wellAll {P : Params} {h : Heap} : ∀ (ns : List Int) (vs : List Value), WellAll P h vs (ns.map WData.int) → IntsAre vs ns := by
  intro ns
  induction ns with
  | nil =>
    intro vs w
    rw [List.map_nil] at w
    cases w
    exact .nil
  | cons n ns ih =>
    intro vs w
    rw [List.map_cons] at w
    cases w with
    | cons a b =>
      cases a
      exact .cons _ _ (ih _ b)
theorem script_of {l : OpenLaw} {n : Nat} (hn : l.most = some n) {P : Params} {h : Heap} {args : List WData} {vals : List Value}
    (hpre : l.row.toRowW.claim.pre args = true) (hwl : WellAll P h vals args) :
    ∃ a vs ns, vals = [Value.ref a] ∧ args = [WData.list (ns.map WData.int)] ∧ h.get? a = some { cls := .type "list", data := .seq vs.toArray } ∧ IntsAre vs ns ∧ ns.length ≤ n := by
  have hsh : WShape.hasAll [] args [.list .int] = true := (pre_splitW hpre).1
  have hc : l.pre.holds [] { args := args } = true := (pre_splitW hpre).2
  obtain ⟨d, r, rfl, h1, h2⟩ := hasAllW_cons hsh
  obtain rfl := hasAllW_nil h2
  obtain ⟨xs, rfl, h3⟩ := hasW_list h1
  obtain ⟨ns, rfl⟩ := items_int h3
  have hlen : ns.length ≤ n := by
    unfold OpenLaw.pre at hc
    have h4 : (WTm.not (.lt (.lit (.int (n : Int))) (.len (.arg 0)))).holds [] { args := [.list (ns.map .int)] } = true := by
      have h4 := (holds_andW hc).1
      rw [hn] at h4
      exact h4
    have h5 := condW_of h4 (w_not (w_lt w_lit (w_len_list (w_arg rfl))))
    rw [List.length_map] at h5
    refine Nat.le_of_not_lt fun q => ?_
    have q' : (n : Int) < ((ns.length : Nat) : Int) := by omega
    first
      | (rw [decide_eq_true q'] at h5; exact absurd h5 (by decide))
      | (simp at h5; omega)
  cases hwl with
  | cons w1 w2 =>
    cases w2
    cases w1 with
    | list ho hall => exact ⟨_, _, ns, rfl, rfl, ho, ints_of_wellAll ns _ hall, hlen⟩
theorem post_true (l : OpenLaw) (args : List WData) : l.row.toRowW.claim.post args (.bool true) args = true :=
  postW_of (r := l.row.toRowW) (X := (true == true))
    (show WShape.has [] (.bool true) .bool = true by first | rfl | decide | simp [WShape.has, WShape.arms, WShape.armsAll])
    (show (WTm.eq .res (.lit (.bool true))).value [] { args := args, res := some (.bool true), after := args } = some (.bool (true == true)) from w_eq_bool (w_res rfl) w_lit) rfl
theorem attach_call {l : OpenLaw} {n : Nat} {q : Program} {loose : List Str} {XP : (Str → Option Value) → Heap → Prop} {YP : World → Heap → Prop} {d : DefRec}
    (hn : l.most = some n) (hdf : d.params.defaults = [])
    (call : ∀ (w : World) (s₀ s₁ : Shared) (mg mb : Str → Option Value) (fa : Addr) (o : Obj) (pm cd doc : Value) (a : Addr) (vs : List Value) (ns : List Int),
      Ground q loose [] XP w s₀ mg mb s₁.heap → YP w s₁.heap →
      s₁.heap.get? fa = some o → o.data = .func (docDef d.name d.params d.body d.scope pm cd doc) → s₁.heap.CodeRec cd d.name → mg d.name = some (.ref fa) →
      s₁.heap.get? a = some { cls := .type "list", data := .seq vs.toArray } → IntsAre vs ns → ns.length ≤ n → s₁.gens = #[] →
      codeAny (model l.prog w) callerA (.call (.ref fa) ⟨[.ref a], []⟩) (fun r s' => r = .ok (.ret (.bool true)) ∧ OldK s₁.heap s'.heap ∧ s'.os = s₁.os ∧ AllBare s'.gens) s₁) :
    WalkO q loose XP YP l.row.toRowW d [] (fun f vs => PySem.call f vs) := by
  intro w s₀ s₁ mg mb G Y fa o pm cd doc dV kV ho hd hcd hD hmg hg args vals as hpre hlay hrd hwl hlo
  obtain rfl : dV = .none := Dflts.none hD hdf
  obtain rfl : kV = .none := Dflts.noKw hD
  obtain ⟨a, vs, ns, rfl, rfl, hobj, hints, hlen⟩ := script_of hn hpre hwl
  refine enter_call (codeAny_mono (call w s₀ s₁ mg mb fa o pm cd doc a vs ns G Y ho (fd_plain hd) hcd hmg hobj hints hlen hg) fun r s' hq => ?_)
  obtain ⟨rfl, h2, h3, h4⟩ := hq
  exact ⟨.inl ⟨.bool true, .bool true, [], rfl, fun _ => rfl, .bool true, post_true l _, fun _ => ⟨List.Pairwise.nil, fun _ hm => (nomatch hm)⟩⟩, h2, h3, h4⟩
section
variable {prog : Program} {w : World} {A : Around} {E : Value → Shared → Prop} {s : Shared} {K : Frag}
def ledger (h : Heap) (L d : Addr) : List (Addr × Obj) := (List.range h.objs.size).filterMap fun a => if a = L ∨ a = d then none else (h.get? a).map fun o => (a, o)
end
end Att
namespace L2
open PySem PySem.Spec PyProof.Rows
theorem vals_ints : ∀ {vs : List Value} {ns : List Int}, IntsAre vs ns → Vals (ns.map V.int) vs
  | _, _, .nil => .nil
  | _, _, .cons n t h => .cons ⟨t, rfl⟩ (vals_ints h)
end L2
namespace L2
open PySem PySem.Spec PyProof.Rows
abbrev KOf {K : PySem.W.Frag} {h : Heap} (_ : K.In h) : PySem.W.Frag := K
end L2
/- THE LAST THEOREM (shape; LID, My.* are yours):
   My.Adr: a structure of the addresses that your layer names (classes, functions); My.Txt K t: a structure (Prop) of the equations over K;
   My.txt_mk : {K} {implicit addresses ..} (e1 : nsIn K mainGlobals "law" = some (some (.ref f))) (e2 : K.lookup f = some ⟨oc, od, .func (fnOf "law" "law" params body scope dV kV doc pm an cdv ct), sl⟩) (e3 : codeIn K cdv "law" = true) .. : ∃ t, My.Txt K t
set_option maxRecDepth 100000 in
set_option maxHeartbeats 0 in
theorem PySem.Challenge.cw_LID_holds : PySem.Challenge.rw_LID.Holds := by
  w_on; o_law; k_head; (case hw => w_witness2)
  k_fill
  refine L2.walk_of (l := PySem.Challenge.rw_LID) (n := 63) (k := 40) (x := "script") (CX := fun w => ..) (sp := fun _ => My.sp_law) rfl (by decide) rfl ⟨rfl, by decide, by decide⟩ (fun w h Y => PySem.W.kIn_of Y) ?F ?S ?C
  case F =>
    intro w mg fa h KX G hmg
    have T : ∃ t, My.Txt (L2.KOf KX) t := by
      dsimp only [L2.KOf]                          -- K must stand as «<heap const> w.params» for k_is
      refine' My.txt_mk ?e1 ?e2 ?e3 ..
      (case e1 => PySem.W.k_is)                    -- in the order: a name -> its address -> its object -> its parts
      (case e2 => PySem.W.k_is)
      ..
    obtain ⟨t, T⟩ := T
    have e0 := hmg.symm.trans (PySem.W.mg_of KX G T.law)
    cases e0                                       -- fa is the law's own address
    exact ⟨_, fun s u => .of_eq rfl, fun base kb nb => My.law_fn T kb nb⟩     -- if «.of_eq rfl» comes too early: refine' ⟨_, ?b, fun base kb nb => My.law_fn T kb nb⟩; exact fun s u => .of_eq rfl
  case S => exact fun w H a ns hl hO hS => ..
  case C => exact ..
(the tactic k_is has no namespace: write k_is) -/
namespace L2
open PySem PySem.Spec PyProof.Rows
def inClass (s : Stmt) (j : Nat) : Stmt := match s with
  | .ClassDef _ _ _ body _ _ _ _ _ _ _ => body.getD j (.Pass ⟨0, 0, 0, 0⟩)
  | _ => .Pass ⟨0, 0, 0, 0⟩
def defArgs (s : Stmt) : Arguments := match s with
  | .FunctionDef _ a _ _ _ _ _ _ _ _ => a
  | _ => { posonlyargs := [], args := [], vararg := none, kwonlyargs := [], kw_defaults := [], kwarg := none, defaults := [] }
def defBody (s : Stmt) : List Stmt := match s with
  | .FunctionDef _ _ b _ _ _ _ _ _ _ => b
  | _ => []
def defScope (s : Stmt) : Scope := match s with
  | .FunctionDef _ _ _ _ _ _ sc _ _ _ => sc
  | _ => { kind := .function, names := [], isGenerator := false, isCoroutine := false }
abbrev CX0 : CXT := fun _ _ _ _ _ _ => False
abbrev E0 : XK := fun _ _ _ => False
theorem pass0 {X : Cx} : Passes CX0 X E0 := fun _ _ _ _ _ _ _ h => h.elim
structure Fun (K : PySem.W.Frag) (x qual : Str) (st : Stmt) (f : Addr) (fd : FuncData) : Prop where
  ex : ∃ (oc : Value) (od : Option Addr) (kV doc pm : Value) (an : Option Addr) (cdv ct : Value) (osl : Array (Option Value)),
    fd = PySem.W.fnOf x qual (defArgs st) (defBody st) (defScope st) .none kV doc pm an cdv ct ∧ K.lookup f = some ⟨oc, od, .func fd, osl⟩ ∧ PySem.W.codeIn K cdv qual = true
  kp : PySem.W.keepIn K (.ref f) = true
section
variable {P : Program} {w : World} {K : PySem.W.Frag} {mg : Str → Option Value} {base : Heap}
theorem Fun.ok {x qual : Str} {st : Stmt} {f : Addr} {fd : FuncData} {N ps : List Str} {k : Nat} {sp : Sp} (F : Fun K x qual st f fd) (S : FnScope N ps (defScope st)) (len : ∀ vs H Q E, sp vs H Q E → vs.length = ps.length)
    (hbody : ∀ (cdv : Value) (A : Around) (outer : List Env) (s : Shared) (H : Hp) (vs : List V) (Q : VK) (E : XK), Room k (A.deeper (envOfC qual (defScope st) s.heap.objs.size f cdv)) → sp vs H Q E →
      ∃ t, PSs (cxOf CX0 P w K mg base N qual (defScope st) f cdv A outer s H E).nox (defBody st) t ∧ t { nx := fun _ H' => Q .non H', rt := Q } (start N vs) H) : FnOk P w K mg base CX0 (k + 1) f fd ps sp := by
  obtain ⟨oc, od, kV, doc, pm, an, cdv, ct, osl, rfl, lk, hcd⟩ := F.ex
  refine fn_of lk hcd S len fun A outer s H vs Q E hr hsp => ?_
  obtain ⟨t, h, q⟩ := hbody cdv A outer s H vs Q E hr hsp
  exact ⟨t, h.nox, q⟩
theorem Fun.binds {x qual : Str} {st : Stmt} {f : Addr} {fd : FuncData} {ps : List Str} (F : Fun K x qual st f fd)
    (h : ∀ (kV doc pm : Value) (an : Option Addr) (cdv ct : Value) (us : List Value), us.length = ps.length → bindArgs (PySem.W.fnOf x qual (defArgs st) (defBody st) (defScope st) .none kV doc pm an cdv ct) ⟨us, []⟩ = pure (ps.zip us)) : Binds K fd ps [] := by
  obtain ⟨oc, od, kV, doc, pm, an, cdv, ct, osl, rfl, lk, hcd⟩ := F.ex
  exact .all (h kV doc pm an cdv ct)
theorem fun_mk {x qual : Str} {st : Stmt} {f : Addr} {oc : Value} {od an : Option Addr} {osl : Array (Option Value)} {kV doc pm cdv ct : Value} (l : K.lookup f = some ⟨oc, od, .func (PySem.W.fnOf x qual (defArgs st) (defBody st) (defScope st) .none kV doc pm an cdv ct), osl⟩)
    (c : PySem.W.codeIn K cdv qual = true) (k : PySem.W.keepIn K (.ref f) = true) : Fun K x qual st f (PySem.W.fnOf x qual (defArgs st) (defBody st) (defScope st) .none kV doc pm an cdv ct) := ⟨⟨oc, od, kV, doc, pm, an, cdv, ct, osl, rfl, l, c⟩, k⟩
end
theorem hu_of {A : Around} {k : Nat} (hr : Room k A) : A.units + 1 < cLine := Nat.lt_of_le_of_lt (Nat.add_le_add_left (by decide : 1 ≤ 64) _) hr.units
section
variable {X : Cx}
theorem pv (i : Nat) {x : Str} {pos : Pos} (hN : X.N[i]? = some x := by rfl) (hv : Vis X.env.scope x := by first | exact Or.inl rfl | exact Or.inr (Or.inl rfl) | exact Or.inr (Or.inr rfl)) (hd : (x == ("__debug__" : Str)) = false := by decide)
    (hcd : (x == ("__classdict__" : Str)) = false := by decide) : PE X (.Name x pos) (tVar i) := pe_var hN hv hd hcd
end
theorem iteF {A B : Prop} (h : B) : if false = true then A else B := by
  rw [if_neg Bool.false_ne_true]
  exact h
theorem iteT {A B : Prop} (h : A) : if true = true then A else B := by
  rw [if_pos rfl]
  exact h
theorem ite2 {c A B : Prop} [Decidable c] (h1 : c → A) (h2 : ¬ c → B) : if c then A else B := by
  by_cases h : c
  · rw [if_pos h]
    exact h1 h
  · rw [if_neg h]
    exact h2 h
section
variable {κ : Type} [DecidableEq κ]
end
end L2
namespace Gb
def spl (n : Nat) : Nat := 2 ^ Nat.log2 (n - 1)
theorem spl_pos (n : Nat) : 1 ≤ spl n := Nat.one_le_two_pow
theorem spl_lt {n : Nat} (h : 2 ≤ n) : spl n < n := by
  have := Nat.log2_self_le (n := n - 1) (by omega)
  unfold spl; omega
theorem spl_ge {n : Nat} (h : 2 ≤ n) : n ≤ 2 * spl n := by
  have := Nat.lt_log2_self (n := n - 1)
  unfold spl
  rw [Nat.pow_succ] at this
  omega
theorem spl_unique {n j : Nat} (h1 : 2 ^ j < n) (h2 : n ≤ 2 * 2 ^ j) : 2 ^ j = spl n := by
  unfold spl
  have hp : 1 ≤ 2 ^ j := Nat.one_le_two_pow
  have e : Nat.log2 (n - 1) = j := (Nat.log2_eq_iff (by omega)).mpr ⟨by omega, by rw [Nat.pow_succ]; omega⟩
  rw [e]
section
variable {α : Type} (nl : α) (pr : α → α → α)
def topT (ts : List α) : α :=
  if h : ts.length < 2 then ts.headD nl
  else pr (topT (ts.take (spl ts.length))) (topT (ts.drop (spl ts.length)))
termination_by ts.length
decreasing_by
  · have := spl_lt (n := ts.length) (by omega); simp; omega
  · have := spl_pos ts.length; simp; omega
theorem topT_nil : topT nl pr [] = nl := by unfold topT; rfl
theorem topT_one (t : α) : topT nl pr [t] = t := by unfold topT; rfl
theorem topT_more {ts : List α} (h : 2 ≤ ts.length) : topT nl pr ts = pr (topT nl pr (ts.take (spl ts.length))) (topT nl pr (ts.drop (spl ts.length))) := by
  rw [topT, dif_neg (by omega)]
def growT (ts : List α) (old : Nat) : List α :=
  if old = 0 then []
  else if h : ts.length ≤ old then [topT nl pr ts]
  else if old ≤ spl ts.length then growT (ts.take (spl ts.length)) old ++ [topT nl pr (ts.drop (spl ts.length))]
  else growT (ts.drop (spl ts.length)) (old - spl ts.length) ++ [topT nl pr (ts.take (spl ts.length))]
termination_by ts.length
decreasing_by
  · have := spl_lt (n := ts.length) (by omega); simp; omega
  · have := spl_pos ts.length; simp; omega
theorem growT_zero (ts : List α) : growT nl pr ts 0 = [] := by rw [growT, if_pos rfl]
theorem growT_all {ts : List α} {old : Nat} (h0 : old ≠ 0) (h : ts.length ≤ old) : growT nl pr ts old = [topT nl pr ts] := by rw [growT, if_neg h0, dif_pos h]
theorem growT_low {ts : List α} {old : Nat} (h0 : old ≠ 0) (h : old < ts.length) (h2 : old ≤ spl ts.length) : growT nl pr ts old = growT nl pr (ts.take (spl ts.length)) old ++ [topT nl pr (ts.drop (spl ts.length))] := by
  rw [growT, if_neg h0, dif_neg (by omega), if_pos h2]
theorem growT_high {ts : List α} {old : Nat} (h0 : old ≠ 0) (h : old < ts.length) (h2 : ¬ old ≤ spl ts.length) : growT nl pr ts old = growT nl pr (ts.drop (spl ts.length)) (old - spl ts.length) ++ [topT nl pr (ts.take (spl ts.length))] := by
  rw [growT, if_neg h0, dif_neg (by omega), if_neg h2]
theorem growT_len : ∀ (j : Nat) (ts : List α) (old : Nat), ts.length ≤ 2 ^ j → (growT nl pr ts old).length ≤ j + 1
  | j, ts, old, h => by
    by_cases h0 : old = 0
    · subst h0; rw [growT_zero]; simp
    by_cases h1 : ts.length ≤ old
    · rw [growT_all nl pr h0 h1]; simp
    have h2 : 2 ≤ ts.length := by omega
    have a := spl_lt h2
    have b := spl_ge h2
    match j, h with
    | 0, h => simp at h; omega
    | j + 1, h =>
      have c : spl ts.length ≤ 2 ^ j := by
        unfold spl
        refine Nat.pow_le_pow_right (by omega) ?_
        have : 2 ^ Nat.log2 (ts.length - 1) < 2 ^ (j + 1) := Nat.lt_of_lt_of_le (spl_lt h2) h
        have := (Nat.pow_lt_pow_iff_right (by omega : 1 < 2)).mp this
        omega
      by_cases h3 : old ≤ spl ts.length
      · rw [growT_low nl pr h0 (by omega) h3]
        have := growT_len j (ts.take (spl ts.length)) old (by simp; omega)
        simp; omega
      · rw [growT_high nl pr h0 (by omega) h3]
        have := growT_len j (ts.drop (spl ts.length)) (old - spl ts.length) (by simp; omega)
        simp; omega
def pathT (ts : List α) (place : Nat) : List α :=
  if h : ts.length < 2 then []
  else if place < spl ts.length then pathT (ts.take (spl ts.length)) place ++ [topT nl pr (ts.drop (spl ts.length))]
  else pathT (ts.drop (spl ts.length)) (place - spl ts.length) ++ [topT nl pr (ts.take (spl ts.length))]
termination_by ts.length
decreasing_by
  · have := spl_lt (n := ts.length) (by omega); simp; omega
  · have := spl_pos ts.length; simp; omega
theorem pathT_few {ts : List α} {place : Nat} (h : ts.length < 2) : pathT nl pr ts place = [] := by rw [pathT, dif_pos h]
theorem pathT_low {ts : List α} {place : Nat} (h : 2 ≤ ts.length) (h2 : place < spl ts.length) : pathT nl pr ts place = pathT nl pr (ts.take (spl ts.length)) place ++ [topT nl pr (ts.drop (spl ts.length))] := by
  rw [pathT, dif_neg (by omega), if_pos h2]
theorem pathT_high {ts : List α} {place : Nat} (h : 2 ≤ ts.length) (h2 : ¬ place < spl ts.length) : pathT nl pr ts place = pathT nl pr (ts.drop (spl ts.length)) (place - spl ts.length) ++ [topT nl pr (ts.take (spl ts.length))] := by
  rw [pathT, dif_neg (by omega), if_neg h2]
end
end Gb
namespace Gb
section
variable {α : Type} (nl : α) (pr : α → α → α)
def hp (n : Nat) : Nat := 2 ^ Nat.log2 n
def fr : List α → α
  | [] => nl
  | [x] => x
  | x :: y :: r => pr x (fr (y :: r))
end
end Gb
namespace L2
open PySem PySem.Spec PyProof.Rows
def CallOk (P : Program) (w : World) (K : PySem.W.Frag) (mg : Str → Option Value) (base : Heap) (CX : CXT) (k : Nat) (sp : Addr → Sp) : Prop :=
  ∀ (f : Addr) (A : Around) (outer : List Env) (s : Shared) (H : Hp) (us : List Value) (vs : List V) (Q : VK) (E : XK), Room k A → Env0 P w K mg base A outer s H → Vals vs us → sp f vs H Q E →
    codeAny (model P w) A (.call (.ref f) ⟨us, []⟩) (CR CX outer P w H s Q E) s
theorem FnOk.called {P : Program} {w : World} {K : PySem.W.Frag} {mg : Str → Option Value} {base : Heap} {CX : CXT} {k : Nat} {f : Addr} {fd : FuncData} {ps : List Str} {sp : Sp} (F : FnOk P w K mg base CX k f fd ps sp) (hb : Binds K fd ps [])
    {A : Around} {outer : List Env} {s : Shared} {H : Hp} {us : List Value} {vs : List V} {Q : VK} {E : XK} (hr : Room k A) (e0 : Env0 P w K mg base A outer s H) (r : Vals vs us) (h : sp vs H Q E) :
    codeAny (model P w) A (.call (.ref f) ⟨us, []⟩) (CR CX outer P w H s Q E) s := by
  have KX : K.In s.heap := e0.mod.kin.keeps fun b o e => (e0.bs b o e).1
  have hl : (us ++ []).length = ps.length := by rw [List.append_nil, ← r.length]; exact F.len _ _ _ _ h
  have b := hb s us KX hl
  rw [List.append_nil] at b
  exact F.run A outer s H ⟨us, []⟩ us vs Q E hr e0 b r h
def Fny (K : PySem.W.Frag) (H : Hp) (f : Addr) : Prop :=
  (∃ oc od fd sl, K.lookup f = some ⟨oc, od, .func fd, sl⟩) ∨ ∃ oc od fd sl u, H f = some (.frz ⟨oc, od, .func fd, sl⟩ u)
section
variable {X : Cx} {CX : CXT} {k : Nat} {f : Addr} {sp : Addr → Sp} {E : XK} {x : Str} {p pos : Pos} {e : Expr} {es : List Expr} {t : TA} {i : Nat}
theorem Inv.fnAt {pins : List (Addr × Obj)} {σ : St} {H : Hp} {s : Shared} (I : Inv X pins σ H s) (h : Fny X.K H f) : PySem.W.FnAt f s.heap := by
  rcases h with ⟨oc, od, fd, sl, e⟩ | ⟨oc, od, fd, sl, u, e⟩
  · exact ⟨oc, od, fd, sl, I.kIn _ _ e⟩
  · exact ⟨oc, od, fd, sl, (I.hok _ _ e).1⟩
theorem run_fnV {pins : List (Addr × Obj)} {σ : St} {H : Hp} {s : Shared} {Q : VK} {us : List Value} {vs : List V} (F : CallOk X.prog X.w X.K X.mg X.base CX k sp) (hr : Room k X.A) (hx : Passes CX X E)
    (I : Inv X pins σ H s) (r : Vals vs us) (h : sp f vs H Q E) : wpAny (model X.prog X.w) X.A (call (.ref f) us) (EP X pins σ Q) X.xe s := by
  refine wpAny_call (codeAny_mono (F f X.A X.stack s H us vs Q E hr I.env0 r h) fun r s' hq => ?_)
  cases r with
  | error e => exact hx pins σ H s e s' I hq
  | ok fl =>
    cases fl with
    | ret u => exact I.after hq
    | next => exact False.elim hq
    | brk => exact False.elim hq
    | cont => exact False.elim hq
def tCallV (K : PySem.W.Frag) (i : Nat) (sp : Addr → Sp) (E : XK) (t : TA) : TE := fun σ H Q => ∃ f, σ[i]? = some (some (.ref f)) ∧ Fny K H f ∧ t σ H fun vs H1 => Fny K H1 f ∧ sp f vs H1 Q E
theorem pe_callV (F : CallOk X.prog X.w X.K X.mg X.base CX k sp) (hr : Room k X.A) (hx : Passes CX X E) (hN : X.N[i]? = some x) (hv : Vis X.env.scope x) (ha : PA X (e :: es) t)
    (hdb : (x == ("__debug__" : Str)) = false := by decide) (hcd : (x == ("__classdict__" : Str)) = false := by decide)
    (he : starEach (e :: es) X.env = (false, eval e X.env) :: starEach es X.env := by rfl) (hpl : (backTo pos (starEach es X.env)).any (·.1) = false := by rfl) :
    PE X (.Call (.Name x p) (e :: es) [] pos) (tCallV X.K i sp E t) := by
  intro pins s σ H Q I h
  obtain ⟨f, ef, hf, h⟩ := h
  refine wpAny_Call_Name_kw (thn (pe_var (i := i) hN hv hdb hcd pins s σ H (fun v H' => v = .ref f ∧ H' = H) I ⟨_, ef, rfl, rfl⟩) fun u s1 ⟨v, H1, I1, r1, e1, e2⟩ => ?_)
  subst e1 e2
  obtain rfl : u = Value.ref f := r1
  refine PySem.W.callWith_F (first := []) (I1.fnAt hf) (thn (ha pos pins s1 σ H1 _ I1 h) fun us s2 ⟨vs, H2, I2, r, hf2, q⟩ => ⟨I2.fnAt hf2, ?_⟩) he hpl
  exact run_fnV F hr hx I2 r q
end
section
variable {X : Cx}
theorem mt_bitlen : MtR X "int.bit_length" (fun x vs H Q => ∃ i, x = .int i ∧ vs = [] ∧ Q (.int (Builtin.Int.intBits i : Nat)) H) := by
  intro pins s σ H x vs v us Q I rx rv h
  obtain ⟨i, rfl, rfl, q⟩ := h
  obtain ⟨t, rfl⟩ := rx
  cases rv.zero
  exact call_int_bit_length ⟨.int _, H, I.tok _, ⟨_, rfl⟩, q⟩
theorem call_isinst : CallR X (.builtin "isinstance") (fun xs H Q => ∃ x t c b, xs = [x, .ty c] ∧ TyOf X.K H x t ∧ PySem.W.kitOne X.K t (.type c) = some b ∧ Q (.bl b) H) := by
  intro pins s σ H xs us Q I r h
  obtain ⟨x, t, c, b, rfl, ty, e, q⟩ := h
  obtain ⟨u, w', rfl, rx, rc⟩ := vals2 r
  obtain rfl : w' = Value.type c := rc
  exact isinst_ok I rx ty e fun tk => ⟨.bl b, H, I.tok tk, rfl, q⟩
def Scr (K : PySem.W.Frag) (H : Hp) (a : Addr) (xs : List V) : Prop :=
  ∃ (its : List Value) (n : Nat), Vals xs its ∧ xs.length ≤ sizeLine ∧ ((∃ u, H a = some (.frz { cls := .type "list", data := .seq its.toArray n } u)) ∨ K.lookup a = some { cls := .type "list", data := .seq its.toArray n })
end
end L2
namespace L2
open PySem PySem.Spec PyProof.Rows
theorem eqV_self {x : V} (h : flatV x = true) : eqV x x = true := by
  cases x <;> first | rfl | exact beq_self_eq_true _ | cases h
theorem all_true (n : Nat) : (List.range n).all (fun _ => true) = true := by simp
theorem Vals.at {xs : List V} {its : List Value} (r : Vals xs its) {j : Nat} (h : j < its.toArray.size) : ∃ x, xs[j]? = some x ∧ RelV x its.toArray[j] := by
  have hl := r.length
  have hj : j < xs.length := by simp at h; omega
  obtain ⟨u, hu, ru⟩ := r.get (i := j) (x := xs[j]) (by simp [hj])
  refine ⟨xs[j], by simp [hj], ?_⟩
  have : its.toArray[j] = u := by
    have h2 : j < its.length := by simpa using h
    rw [List.getElem_toArray]
    rw [List.getElem?_eq_getElem h2] at hu
    exact Option.some.inj hu
  rw [this]; exact ru
section
variable {X : Cx}
end
theorem meets_lenH {prog : Program} {w : World} {d : Addr} (hd : (d == sysModules) = false) :
    MeetsIn prog w (Builtin.«dict.__len__» ⟨[.ref d], []⟩) (fun _ R s => ∃ o es ep, s.heap.get? d = some o ∧ o.data = .dict es ep ∧ R (.ok (.ret (.int es.size s.toks))) { s with toks := s.toks + 1 }) :=
  .of_wp fun A R s ⟨o, es, ep, ho, hdat, h⟩ => by
    show wpAny _ _ (dictSize d >>= _) _ _ s
    unfold dictSize
    refine wpAny_bind (wpAny_bind (wpAny_dictEntries ho hdat (wpAny_pure ?_)))
    show wpAny _ _ (Builtin.Dict.pendingCount d >>= _) _ _ s
    refine wpAny_bind (wpAny_pendingCount_other hd ?_)
    refine wpAny_ret_mkInt ?_
    rw [Nat.add_zero]; exact h
theorem wpAny_len_dictH {prog : Program} {w : World} {A : Around} {E : Value → Shared → Prop} {s : Shared} {d : Addr} {o : Obj} {es : Array DictEntry} {ep : Nat} {Q : Value → Shared → Prop} (hd : (d == sysModules) = false) (ho : s.heap.get? d = some o)
    (hx : o.ExactDict) (hdt : o.data = .dict es ep) (hfit : (es.size : Int) < 2 ^ 63) (h : Q (.int es.size (s.toks + 1)) { s with toks := s.toks + 1 + 1 }) : wpAny (model prog w) A (call (.builtin "len") [.ref d]) Q E s := by
  refine Calls.call_function_entry kind_len plain_len entry_len (args_len1 _) ?_
  unfold Builtin.«len»
  have ty : s.TypeIs (.ref d) "dict" := ⟨o, ho, hx.1⟩
  refine wpAny_bind (m := oneArg "len" _) (wpAny_pure ?_)
  refine wpAny_bind (m := callSpecial? (.ref d) (Str.ofString "__len__")) (wpAny_callSpecial?_slot (name := Str.ofString "__len__") ty F.slot_dict_len
    (call_meetsIn F.slot_dict_len ty F.entry_dict_len (F.args_dict_len_1 _) (meets_lenH hd) ⟨o, es, ep, ho, hdt, ?_⟩))
  show wpAny _ _ _ _ _ { s with toks := s.toks + 1 }
  refine wpAny_bind (wpAny_holding (wpAny_pure ?_))
  refine wpAny_bind (wpAny_letGo ?_)
  show wpAny _ _ (if ((es.size : Nat) : Int) < 0 then _ else _) _ _ _
  rw [if_neg (by omega)]
  show wpAny _ _ (if ((es.size : Nat) : Int) ≥ 2 ^ 63 then _ else _) _ _ _
  rw [if_neg (by omega)]
  exact wpAny_bind (wpAny_mkInt (wpAny_pure ⟨_, rfl, h⟩))
theorem call_lenT {X : Cx} : CallR X (.builtin "len") (fun xs H Q => ∃ a kvs, xs = [V.ref a] ∧ H a = some (.dT kvs) ∧ Q (.int kvs.length) H) := by
  intro pins s σ H xs us Q I r h
  obtain ⟨a, kvs, rfl, ha, q⟩ := h
  obtain ⟨u, rfl, ru⟩ := vals1 r
  cases ru
  obtain ⟨z, hd, ys, rel, o, es, ep, ho, hx, hdt, hes, hnd⟩ := I.hok _ _ ha
  have e : es.size = kvs.length := by
    have h1 := congrArg List.length hes
    have h2 := Paired.length rel
    simp at h1; omega
  refine wpAny_len_dictH hd ho hx hdt (by rw [sizeLine_eq] at z; omega) ?_
  rw [e]
  exact ⟨.int kvs.length, H, I.tok _, ⟨_, rfl⟩, q⟩
end L2
namespace L2
open PySem PySem.Spec PyProof.Rows
section
variable {P : Program} {w : World} {K : PySem.W.Frag} {mg : Str → Option Value} {base : Heap}
def cxCl (P : Program) (w : World) (K : PySem.W.Frag) (mg : Str → Option Value) (base : Heap) (N : List Str) (qual : Str) (scope : Scope) (f : Addr) (cd : Value) (cl : List (Str × Addr)) (A : Around) (outer : List Env) (s : Shared) (H : Hp) : Cx where
  prog := P
  w := w
  K := K
  mg := mg
  base := base
  A := A.deeper (PySem.W.envX qual scope s.heap.objs.size f cd cl)
  N := N
  s₀ := s
  H₀ := H
  env := PySem.W.envX qual scope s.heap.objs.size f cd cl
  outer := outer
  stack := PySem.W.envX qual scope s.heap.objs.size f cd cl :: outer
  ex := []
  calm := true
  fn := fun _ => false
  pn := []
  xe := fun _ _ => False
structure ClScope (ps : List Str) (y : Str) (sc : Scope) : Prop where
  kind : sc.kind = .function
  co : sc.isCoroutine = false
  gen : sc.isGenerator = false
  nd : (ps ++ [y]).Nodup
  par : ∀ x ∈ ps, sc.names.lookup x = some .local
  nocell : ∀ z ∈ sc.names, z.2 ≠ .cell
  free : ∀ x, sc.names.lookup x = some .free → x = y
  isfree : sc.names.lookup y = some .free
theorem lookup_rev_zip {ps : List Str} (hn : ps.Nodup) : ∀ {us : List Value} {i : Nat} {x : Str} {u : Value}, ps[i]? = some x → us[i]? = some u → ps.length = us.length → (ps.zip us).reverse.lookup x = some u := by
  intro us i x u h1 h2 hl
  have key : ∀ (l : List (Str × Value)), (l.map (·.1)).Nodup → (x, u) ∈ l → l.lookup x = some u := by
    intro l
    induction l with
    | nil => intro _ h; cases h
    | cons p r ih =>
      intro hn hm
      obtain ⟨a, b⟩ := p
      have hn' := List.nodup_cons.mp hn
      rw [List.lookup_cons]
      rcases List.mem_cons.mp hm with e | hm2
      · cases e; simp
      · have hne : (x == a) = false := by
          rw [beq_eq_false_iff_ne]
          intro e
          exact hn'.1 (List.mem_map.mpr ⟨(x, u), hm2, e⟩)
        rw [hne]
        exact ih hn'.2 hm2
  refine key _ ?_ ?_
  · rw [List.map_reverse]
    have e : (ps.zip us).map (·.1) = ps := by rw [List.map_fst_zip (by omega)]
    rw [e]
    exact List.pairwise_reverse.mpr (hn.imp Ne.symm)
  · refine List.mem_reverse.mpr (List.mem_of_getElem? (i := i) ?_)
    rw [List.getElem?_zip_eq_some]
    exact ⟨h1, h2⟩
theorem clos_run {k : Nat} {f c c' : Addr} {name qual y : Str} {params : Arguments} {body : List Stmt} {scope : Scope} {doc pm ct oc : Value} {od : Option Addr} {osl : Array (Option Value)} {ps : List Str} {ob co : Obj} {cvs : Array Value} {ctk : Tok} {cu : Value} {cv : V}
    {A : Around} {outer : List Env} {s : Shared} {H : Hp} {us : List Value} {vs : List V} {Q : VK} {E : XK}
    (S : ClScope ps y scope) (hr : Room (k + 1) A) (e0 : Env0 P w K mg base A outer s H) (r : Vals vs us) (hl : vs.length = ps.length)
    (hf : H f = some (.frz ⟨oc, od, .func (PySem.W.fnX name qual params body scope [(y, c)] .none .none doc pm none (.ref c') ct), osl⟩ (.own 0)))
    (hc' : H c' = some (.frz ob (.own 0))) (hob : ob.data = .fields cvs) (hcq : cvs[1]? = some (.str qual ctk))
    (hc : H c = some (.frz co (.own 0))) (hco : co.data = .cell (some cu)) (rc : RelV cv cu)
    (hbind : ∀ us : List Value, us.length = ps.length → bindArgs (PySem.W.fnX name qual params body scope [(y, c)] .none .none doc pm none (.ref c') ct) ⟨us, []⟩ = pure (ps.zip us))
    (hbody : Room k (A.deeper (PySem.W.envX qual scope s.heap.objs.size f (.ref c') [(y, c)])) →
      ∃ t, PSs (cxCl P w K mg base (ps ++ [y]) qual scope f (.ref c') [(y, c)] A outer s H) body t ∧ t { nx := fun _ H' => Q .non H', rt := Q } (vs.map some ++ [some cv]) H) :
    codeAny (model P w) A (.call (.ref f) ⟨us, []⟩) (CR CX0 outer P w H s Q E) s := by
  have lim : s.heap.NoLimit := e0.mod.nolimit.keeps fun b o e => (e0.bs b o e).1
  have of := (e0.hok _ _ hf).1
  have oc' := (e0.hok _ _ hc').1
  have occ := (e0.hok _ _ hc).1
  have hul : us.length = ps.length := by rw [← r.length]; exact hl
  refine codeAny_call_function hr.depth of rfl S.co S.gen rfl ⟨c', ob, cvs, ctk, rfl, oc', hob, hcq⟩ (BindsTo.of_eq (hbind us hul) _ _ _ _ ?_)
  refine wpAny_newFunctionEnv S.nocell (fun x hx => S.par _ (List.of_mem_zip (show (x.1, x.2) ∈ ps.zip us from hx)).1) (fun h1 hns hsb => ?_) S.kind
  have hk : ∀ b o, s.heap.get? b = some o → h1.get? b = some o := fun b o e => hsb.extBut b o (Nat.ne_of_lt (Heap.lt_size e)) (Heap.get?_push_of_some _ e)
  refine ⟨lim.keeps hk, codeAny_func ?_⟩
  obtain ⟨t, ht, hq⟩ := hbody (hr.deeper _)
  have noA : ∀ b : Addr, b ∉ (cxCl P w K mg base (ps ++ [y]) qual scope f (.ref c') [(y, c)] A outer s H).ex := fun b z => absurd (show b ∈ ([] : List Addr) from z) (by simp)
  have lk : ∀ x a, ([(y, c)] : List (Str × Addr)).lookup x = some a → x = y ∧ a = c := fun x a e => by
    rw [List.lookup_cons] at e
    cases hb : x == y with
    | true => rw [hb] at e; cases e; exact ⟨eq_of_beq hb, rfl⟩
    | false => rw [hb] at e; cases e
  have ly : ([(y, c)] : List (Str × Addr)).lookup y = some c := by simp [List.lookup_cons]
  have I : Inv (cxCl P w K mg base (ps ++ [y]) qual scope f (.ref c') [(y, c)] A outer s H) [] (vs.map some ++ [some cv]) H { s with heap := h1, toks := s.toks + (ps.zip us).length } := by
    refine ⟨⟨e0.mod, S.kind, rfl, rfl, Nat.le_refl _, fun x z a h1 h2 => ?_, fun x hx => ?_, fun x a q _ => ?_, fun _ => hr.hd, Around.frames_deeper e0.frames, .inr ⟨rfl, rfl⟩, fun b z => absurd z (noA b), e0.bs, e0.bsz, fun b _ _ => noA b, fun b z => absurd z (noA b), e0.funs, e0.frf⟩,
      rfl, e0.bare, Un.kept hk, ⟨_, hns, fun i x v h1 h2 h3 => ?_⟩, fun x a h => ?_, e0.hok.fresh (Nat.le_refl _), fun x a h => ?_, fun p hp => absurd (show p ∈ ([] : List (Addr × Obj)) from hp) (by simp), e0.hok.kept hk, ?_⟩
    · rw [(lk x a h1).1, (lk z a h2).1]
    · have hx : scope.names.lookup x = some .cell ∨ scope.names.lookup x = some .free := hx
      rcases hx with hx | hx
      · exact absurd rfl (S.nocell _ (PySem.mem_of_lookup hx))
      · rw [S.free x hx]; exact ⟨c, ly⟩
    · exact absurd (show false = true from q) (by simp)
    · by_cases hi : i < ps.length
      · have h1' : ps[i]? = some x := by
          have h1 : (ps ++ [y])[i]? = some x := h1
          rwa [List.getElem?_append_left hi] at h1
        have h2' : vs[i]? = some v := by
          rw [List.getElem?_append_left (by simp; omega), List.getElem?_map] at h2
          cases e : vs[i]? with
          | none => rw [e] at h2; cases h2
          | some a => rw [e] at h2; cases h2; rfl
        obtain ⟨u, hu, rv⟩ := r.get h2'
        refine ⟨u, rv, .inl ⟨S.par x (List.mem_of_getElem? h1'), ?_⟩⟩
        have ndP : ps.Nodup := S.nd.sublist (List.sublist_append_left _ _)
        exact lookup_rev_zip ndP h1' hu hul.symm
      · have h1 : (ps ++ [y])[i]? = some x := h1
        rw [List.getElem?_append_right (by omega)] at h1
        rw [List.getElem?_append_right (by simp; omega)] at h2
        have e1 : i - ps.length = 0 := by
          cases q : i - ps.length with
          | zero => rfl
          | succ j => rw [q] at h1; simp at h1
        have e2 : i - (vs.map some).length = 0 := by simp; omega
        rw [e1] at h1; rw [e2] at h2
        simp at h1 h2
        subst h1 h2
        exact ⟨cu, rc, .inr ⟨.inr S.isfree, c, ly, co, hk _ _ occ, hco⟩⟩
    · rw [(lk x a h).2]; exact ⟨_, co, hk _ _ occ, hco⟩
    · rw [(lk x a h).2]; exact .inr ⟨rfl, co, hc⟩
    · show _ = (ps ++ [y]).length
      simp; exact hl
  refine wpAny_mono (ht [] _ _ H _ I hq) (fun fl s' hs => ?_) fun e s' hs => False.elim hs
  have fin : ∀ {σ' : St} {H' : Hp} {v : V} {u : Value}, Inv (cxCl P w K mg base (ps ++ [y]) qual scope f (.ref c') [(y, c)] A outer s H) [] σ' H' s' → RelV v u → Q v H' → CE outer P w H s Q u s' :=
    fun {σ' H' v u} J rv q => ⟨v, H', J.os, J.bare, J.base, J.hok, rv, q⟩
  cases fl with
  | ret u =>
    obtain ⟨v, σ', H', J, rv, q⟩ := hs
    exact fin J rv q
  | next =>
    obtain ⟨σ', H', J, q⟩ := hs
    exact fin (v := V.non) (u := Value.none) J rfl q
  | brk =>
    obtain ⟨_, _, _, q⟩ := hs
    exact False.elim q
  | cont =>
    obtain ⟨_, _, _, q⟩ := hs
    exact False.elim q
end
theorem HOk.track {P : Program} {w : World} {H : Hp} {h : Heap} {a : Addr} {o : Obj} (x : HOk P w H h) (ho : h.get? a = some o) (hn : H a = none) : HOk P w (upd H a (.frz o (.own 0))) h := fun b u e => by
  by_cases hb : b = a
  · subst hb; rw [upd_same] at e; cases e; exact ⟨ho, o, ho⟩
  · rw [upd_ne hb] at e
    exact (x b u e).stay (fun c v _ q => q) (fun c q => by rw [upd_ne (ne_of_none q hn)]; exact q) fun c xs q => by rw [upd_ne (ne_of_none q hn)]; exact q
theorem Un.track {fs ex : List Addr} {H H1 : Hp} {h h1 : Heap} {a : Addr} {o : HO} (u : Un fs ex H H1 h h1) (hs : h.objs.size ≤ a) (hn : H1 a = none) : Un fs ex H (upd H1 a o) h h1 :=
  ⟨u.keep, u.slot, fun b o q n hx => by rw [upd_ne (Nat.ne_of_lt (Nat.lt_of_lt_of_le (Heap.lt_size q) hs))]; exact u.free b o q n hx, u.there,
    fun b xs q => by have z := u.tups b xs q; rw [upd_ne (ne_of_none z hn)]; exact z, fun b o v q => by have z := u.frzs b o v q; rw [upd_ne (ne_of_none z hn)]; exact z,
    fun b ps q => by obtain ⟨m, z⟩ := u.tbls b ps q; exact ⟨m, by rw [upd_ne (ne_of_none z hn)]; exact z⟩⟩
theorem Inv.track {X : Cx} {pins : List (Addr × Obj)} {σ : St} {H : Hp} {s : Shared} {a : Addr} {o : Obj} (I : Inv X pins σ H s) (ho : s.heap.get? a = some o) (fp : FpOk X pins H a) (hs : X.s₀.heap.objs.size ≤ a) :
    Inv X pins σ (upd H a (.frz o (.own 0))) s := by
  obtain ⟨f0, f1, f2, f3, f4, f5⟩ := fp
  refine ⟨I.ok, I.os, I.bare, I.base.track hs f0, I.loc, I.cell, ?_, fun x c e => ?_, fun p hp => ?_, I.hok.track ho f0, I.len⟩
  · rw [upd_ne (Ne.symm f1)]; exact I.free
  · rcases I.freeC x c e with z | ⟨z1, ob, z⟩
    · left; rw [upd_ne (f4 x c e)]; exact z
    · right; exact ⟨z1, ob, by rw [upd_ne (f4 x c e)]; exact z⟩
  · obtain ⟨e, n, ne, nf, d⟩ := I.pin p hp
    exact ⟨e, by rw [upd_ne (f5 p hp)]; exact n, ne, nf, d⟩
theorem fn_ofR {P : Program} {w : World} {K : PySem.W.Frag} {mg : Str → Option Value} {base : Heap} {k : Nat} {f : Addr} {name qual : Str} {params : Arguments} {body : List Stmt} {scope : Scope} {dV kV doc pm cdv ct oc : Value} {an od : Option Addr}
    {osl : Array (Option Value)} {N ps : List Str} {sp : Sp} (lk : K.lookup f = some ⟨oc, od, .func (PySem.W.fnOf name qual params body scope dV kV doc pm an cdv ct), osl⟩) (hcd : PySem.W.codeIn K cdv qual = true) (S : FnScope N ps scope)
    (len : ∀ vs H Q E, sp vs H Q E → vs.length = ps.length)
    (hbody : ∀ (A : Around) (outer : List Env) (s s1 : Shared) (H : Hp) (vs : List V) (Q : VK) (E : XK), Room k (A.deeper (envOfC qual scope s.heap.objs.size f cdv)) → sp vs H Q E →
      Inv (cxOf CX0 P w K mg base N qual scope f cdv A outer s H E) [] (start N vs) H s1 →
      wpAny (model P w) (A.deeper (envOfC qual scope s.heap.objs.size f cdv)) (execs body (envOfC qual scope s.heap.objs.size f cdv)) (fun fl s' => match fl with | .ret u => CE outer P w H s Q u s' | .next => CE outer P w H s Q .none s' | _ => False)
        (cxOf CX0 P w K mg base N qual scope f cdv A outer s H E).xe s1) :
    FnOk P w K mg base CX0 (k + 1) f (PySem.W.fnOf name qual params body scope dV kV doc pm an cdv ct) ps sp := by
  refine ⟨len, fun A outer s H args us vs Q E hr e0 hb r hsp => ?_⟩
  have hl := len _ _ _ _ hsp
  have KX : K.In s.heap := e0.mod.kin.keeps fun b o e => (e0.bs b o e).1
  have lim : s.heap.NoLimit := e0.mod.nolimit.keeps fun b o e => (e0.bs b o e).1
  have hkind : ∀ y ∈ ps.zip us, scope.names.lookup y.1 = some .local ∨ (scope.names.lookup y.1 = some .cell ∧ ((cellsFrom (s.heap.objs.size + 1) scope.names []).lookup y.1).isSome = true) := fun ⟨n, v⟩ hy => by
    rcases S.par n (List.of_mem_zip hy).1 with q | q
    · exact .inl q
    · exact .inr ⟨q, PySem.W.cellsFrom_some _ _ _ (.inl q)⟩
  refine codeAny_call_function hr.depth (KX _ _ lk) rfl S.co S.gen rfl (PySem.W.codeRec_of KX hcd) (hb _ _ _ _ ?_)
  refine wpAny_newFunctionEnv_cells S.kind hkind fun env he s1 x => ?_
  subst he
  refine ⟨lim.keeps x.toInCall.keep, codeAny_func ?_⟩
  have I : Inv (cxOf CX0 P w K mg base N qual scope f cdv A outer s H E) [] (start N vs) H s1 := inv_start S hr.hd e0 hl r x
  refine wpAny_mono (hbody A outer s s1 H vs Q E (hr.deeper _) hsp I) (fun fl s' hs => ?_) fun e s' hs => hs
  cases fl with
  | ret u => exact hs
  | next => exact hs
  | brk => exact False.elim hs
  | cont => exact False.elim hs
section
variable {X : Cx} {name : Str} {params : Arguments} {body : List Stmt} {scope : Scope} {pos : Pos} {i : Nat} {Pt c0 : Addr} {clos : List (Str × Addr)}
def tDef (Pt : Addr) (i : Nat) (name qual : Str) (params : Arguments) (body : List Stmt) (scope : Scope) (clos : List (Str × Addr)) (pos : Pos) : TS := fun D σ H => ∃ ps : Array Value, H Pt = some (.tbl ps) ∧ TriplesOk ps.toList ∧ codeAmong pos ps.toList = none ∧
  ∀ (f c' : Addr) (ob : Obj) (cvs : Array Value) (tk : Tok) (ctv doc pm : Value), H f = none → H c' = none → c' ≠ f → Pt ≠ f → Pt ≠ c' → ob.data = .fields cvs → cvs[1]? = some (.str qual tk) →
    D.nx (σ.set i (some (.ref f))) (upd (upd (upd H Pt (.tbl (ps ++ #[rawInt pos.line, rawInt pos.col, .ref c']))) c' (.frz ob (.own 0))) f (.frz (PySem.W.fnMade name qual params body scope clos doc pm c' ctv) (.own 0)))
theorem HOk.tbl {P : Program} {w : World} {H : Hp} {h h' : Heap} {p : Addr} {ps more : Array Value} (x : HOk P w H h) (hp : H p = some (.tbl ps)) (k : ∀ b o, b ≠ p → h.get? b = some o → h'.get? b = some o) (hp' : h'.get? p = some (PySem.W.tabObj (ps ++ more))) :
    HOk P w (upd H p (.tbl (ps ++ more))) h' := fun b u e => by
  by_cases hb : b = p
  · subst hb; rw [upd_same] at e; cases e; exact hp'
  · rw [upd_ne hb] at e
    refine (x b u e).stay (fun c v hc q => k c v ?_ q) (fun c q => ?_) fun c xs q => ?_
    · rcases hc with rfl | hc
      · exact hb
      · rintro rfl; rw [hp] at hc; cases hc
    · rw [upd_ne (by rintro rfl; rw [hp] at q; cases q)]; exact q
    · rw [upd_ne (by rintro rfl; rw [hp] at q; cases q)]; exact q
theorem ps_def {qual : Str} (hd0 : params.defaults = []) (hk0 : params.kw_defaults = []) (ha : PySem.annTrees params none X.env = []) (hqual : qualnameIn X.env name name = qual) (hcl : closureFor scope X.env = pure clos) (hcode : X.env.code = .ref c0)
    (C : PySem.W.CodeHd X.base c0 Pt) (hbm : ∃ bm ob, X.mg "__builtins__" = some (.ref bm) ∧ bm ≠ builtinsNs ∧ X.base.get? bm = some ob ∧ ob.cls = .type "module" ∧ ob.dict = some builtinsNs ∧ ob.data = .plain)
    (hN : X.N.Nodup) (hi : X.N[i]? = some name) (hx : Loc X.env.scope name) (hf : X.fn name = true ∨ X.env.scope.names.lookup name = some .local) :
    PS X (.FunctionDef name params body [] none [] scope none name pos) (tDef Pt i name qual params body scope clos pos) := by
  intro pins s σ H D I h
  obtain ⟨ps, hP, ht, hnf, h⟩ := h
  have hPo : s.heap.get? Pt = some (PySem.W.tabObj ps) := I.hok _ _ hP
  have hgs := I.mod.glob.keeps I.bk
  obtain ⟨bm, ob, b1, b2, b3, b4, b5, b6⟩ := hbm
  have b3' := I.bk _ _ b3
  have hgP : mainGlobals ≠ Pt := fun q => by
    obtain ⟨o, es, ep, e, hd, _⟩ := hgs
    rw [q, hPo] at e; cases e; cases hd
  have hbP : bm ≠ Pt := fun q => by rw [q, hPo] at b3'; cases b3'; cases b4
  have hbG : bm ≠ mainGlobals := fun q => by
    obtain ⟨o, es, ep, e, hd, _⟩ := hgs
    rw [q, e] at b3'; cases b3'; rw [hd] at b6; cases b6
  refine PySem.W.nestDef_K hd0 hk0 ha ?_
  rw [hqual]
  refine PySem.W.makeFunction_K (mg := X.mg) hcl I.ok.glob hgs hcode (C.keeps I.bk) hPo ht hnf hgP ⟨bm, ob, b1, b2, hbG, hbP, b3', b4, b5, b6⟩ fun c' ctv doc h' tk hx' hge hlt hrec htb => ?_
  obtain ⟨c2, oc, vs, t, e2, hoc, hd, hv⟩ := hrec
  cases e2
  -- the table grown
  have hszle : s.heap.objs.size ≤ h'.objs.size := Nat.le_of_lt (Nat.lt_of_le_of_lt hge hlt)
  have hPlt : Pt < s.heap.objs.size := Heap.lt_size hPo
  have hPm : ∀ x a, X.env.cells.lookup x = some a → a ≠ Pt := fun x a e z => by
    obtain ⟨v, o, ho, hd⟩ := I.cell x a e
    rw [z, hPo] at ho; cases ho; cases hd
  have Un1 : Un X.fs [] H (upd H Pt (.tbl (ps ++ #[rawInt pos.line, rawInt pos.col, .ref c']))) s.heap h' := by
    refine ⟨fun b o q n _ _ => hx' b o (by rintro rfl; rw [hP] at n; cases n) q, fun b o q n _ _ => ⟨o.slots, hx' b o (by rintro rfl; rw [hP] at n; cases n) q⟩, fun b o q n _ => ?_, fun b o q _ => ?_, fun b xs q => ?_, fun b o u q => ?_, fun b qs q => ?_⟩
    · rw [upd_ne (by rintro rfl; rw [hP] at n; cases n)]; exact n
    · by_cases hb : b = Pt
      · subst hb; exact ⟨_, htb⟩
      · exact ⟨o, hx' b o hb q⟩
    · rw [upd_ne (by rintro rfl; rw [hP] at q; cases q)]; exact q
    · rw [upd_ne (by rintro rfl; rw [hP] at q; cases q)]; exact q
    · by_cases hb : b = Pt
      · subst hb; rw [hP] at q; cases q; exact ⟨_, upd_same⟩
      · exact ⟨#[], by rw [upd_ne hb, q]; simp⟩
  have I1 : Inv X pins σ (upd H Pt (.tbl (ps ++ #[rawInt pos.line, rawInt pos.col, .ref c']))) { s with heap := h', toks := tk } :=
    I.un Un1 (I.hok.tbl hP (fun b o hb q => hx' b o hb q) htb)
  -- the code object is tracked
  have hcn : upd H Pt (.tbl (ps ++ #[rawInt pos.line, rawInt pos.col, .ref c'])) c' = none := by
    rw [upd_ne (Nat.ne_of_gt (Nat.lt_of_lt_of_le hPlt hge))]; exact I.hok.fresh hge
  have I2 : Inv X pins σ (upd (upd H Pt (.tbl (ps ++ #[rawInt pos.line, rawInt pos.col, .ref c']))) c' (.frz oc (.own 0))) { s with heap := h', toks := tk } := by
    have f2 := I.fpOk (H' := upd H Pt (.tbl (ps ++ #[rawInt pos.line, rawInt pos.col, .ref c']))) hge hcn
    exact I1.track hoc f2 (Nat.le_trans I.sz hge)
  have hfn : (upd (upd H Pt (.tbl (ps ++ #[rawInt pos.line, rawInt pos.col, .ref c']))) c' (.frz oc (.own 0))) h'.objs.size = none := I2.hok.fresh (Nat.le_refl _)
  have I3 := I2.laid (a := h'.objs.size) (o := .frz (PySem.W.fnMade name qual params body scope clos doc ((X.mg "__name__").getD .none) c' ctv) (.own 0)) (t' := tk)
    (fun b o q => Heap.get?_push_of_some (PySem.W.fnMade name qual params body scope clos doc ((X.mg "__name__").getD .none) c' ctv) q) (Nat.le_refl _) ⟨Heap.get?_push_size _ rfl, _, Heap.get?_push_size _ rfl⟩
  refine store_ok I3 hN hi hx (v := .ref h'.objs.size) rfl (fun s' I' => ⟨_, _, I', ?_⟩) hf
  exact h h'.objs.size c' oc vs t ctv doc _ (I.hok.fresh hszle) (I.hok.fresh hge) (Nat.ne_of_lt hlt) (Nat.ne_of_lt (Nat.lt_of_lt_of_le hPlt hszle)) (Nat.ne_of_lt (Nat.lt_of_lt_of_le hPlt hge)) hd hv
end
end L2
namespace L2
open PySem PySem.Spec PyProof.Rows
def cxComp (X : Cx) (s₂ : Shared) (H₂ : Hp) (fp : List Addr) (sc : Scope) (cl : List (Str × Addr)) (N' : List Str) : Cx :=
  { X with N := N', s₀ := s₂, H₀ := H₂, env := compEnvC sc cl s₂.heap.objs.size X.env, outer := X.stack, stack := X.stack, ex := fp, fn := fun _ => false, pn := [], xe := fun _ _ => False }
def PTs (X : Cx) (ifs : List Expr) (tt : TT) : Prop :=
  ∀ (pins : List (Addr × Obj)) (s : Shared) (σ : St) (H : Hp) (Q : Bool → Hp → Prop) (E : Value → Shared → Prop), X.xe = (fun _ _ => False) → Inv X pins σ H s → tt σ H Q →
    wpAny (model X.prog X.w) X.A (forIn ifs true fun c r => if r = true then do let ok ← isTrue c X.env (eval c X.env); pure (ForInStep.yield ok) else pure (ForInStep.yield r)) (TP X pins σ Q) E s
theorem pts_nil {X : Cx} : PTs X [] (fun _ H Q => Q true H) := fun pins s σ H Q E _ I h => wpAny_tests_nil ⟨H, I, h⟩
theorem pts_one {X : Cx} {c : Expr} {t : TT} (h : PT X c t) : PTs X [c] t := fun pins s σ H Q E hx I q => wpAny_tests_one (wpAny_mono (h pins s σ H Q I q) (fun _ _ x => x) fun e s' x => by rw [hx] at x; exact x.elim)
def capt (js : List Nat) (σ : St) : St := js.map fun j => (σ[j]?).join
def tComp (wi : TI) (js : List Nat) (tt : TT) (te : TE) : TE := fun σ H Q => wi σ H fun J H1 => ∀ D, H1 D = none → ∃ W : Nat → Nat → List V → Hp → Prop, (∃ m, W 0 m [] (upd H1 D (.lst []))) ∧ ∀ i m ys H, W i m ys H →
  (J.stop i H ∧ Q (.ref D) H) ∨ (J.go i H ∧ ∀ x H', J.yld i H x H' → tt (some x :: capt js σ) H' fun b H2 => if b = true then te (some x :: capt js σ) H2 fun y H3 => H3 D = some (.lst ys) ∧ ys.length < sizeLine ∧ ∃ m', m' < m ∧ W (i + 1) m' (ys ++ [y]) (upd H3 D (.lst (ys ++ [y])))
    else ∃ m', m' < m ∧ W (i + 1) m' ys H2)
structure CompOk (X : Cx) (x : Str) (ys : List Str) (js : List Nat) (sc : Scope) (cl : List (Str × Addr)) : Prop where
  calm : X.calm = true
  clos : closureFor sc X.env = pure cl
  kind : sc.kind = .function
  names : ∀ z ∈ sc.names, z.2 = .local → sc.names.lookup z.1 = some .local
  nocell : ∀ z ∈ sc.names, z.2 ≠ .cell
  own : sc.names.lookup x = some .local
  nd : (x :: ys).Nodup
  same : ∀ z c, cl.lookup z = some c → X.env.cells.lookup z = some c
  has : (relabel sc X.env).names.all (fun p => !(p.2 == .cell || p.2 == .free) || (cl.lookup p.1).isSome) = true
  cap : ∀ (i : Nat) y, ys[i]? = some y → ∃ j, js[i]? = some j ∧ X.N[j]? = some y ∧ X.env.scope.names.lookup y = some .cell ∧ (relabel sc X.env).names.lookup y = some .cell
  len : ys.length = js.length
theorem comp_core {X : Cx} {x : Str} {px : Pos} {ys : List Str} {js : List Nat} {sc : Scope} {cl : List (Str × Addr)} {elt iter : Expr} {ifs : List Expr} {pos : Pos} {wi : TI} {tt : TT} {te : TE} {use : Option (Value → Sem Unit)} {QQ : Value → Shared → Prop}
    (ok : CompOk X x ys js sc cl) (hi : PI X (.Name x px) iter wi)
    (ht : ∀ s₂ H₂ fp, PTs (cxComp X s₂ H₂ fp sc cl (x :: ys)) ifs tt) (he : ∀ s₂ H₂ fp, PE (cxComp X s₂ H₂ fp sc cl (x :: ys)) elt te)
    {pins : List (Addr × Obj)} {s : Shared} {σ : St} {H : Hp} {Q : VK} (I : Inv X pins σ H s) (h : tComp wi js tt te σ H Q)
    (fin : ∀ (D C : Addr) (H' : Hp) (s' : Shared), Inv X pins σ H' s' → Q (.ref D) H' → FpOk X pins H' C → (∃ m, s'.heap.Ns C m) → compPost (model X.prog X.w) X.A X.xe use QQ (.ref D) C (.ok .next) s')
    (hs : ∀ x, foldedSetIterable iter X.env x = pure x) {p2 : Pos} :
    wpAny (model X.prog X.w) X.A (comprehension (.ListComp elt [⟨.Name x px, iter, ifs, 0⟩] sc pos) sc X.env p2 (newList []) false (eval iter X.env) use) QQ X.xe s := by
  refine wpAny_comprehension_free (use := use) rfl hs ok.clos ok.kind ok.names (thn (hi pins s σ H _ I h) fun v s0 h0 => thn h0 fun itv s1 h1 => ?_)
  obtain ⟨it, fp, tn, J, H1, e, I1, T, st1, f1, h1⟩ := h1
  subst e
  -- the new list
  refine wpAny_newObj_type ?_
  have I2 := I1.lnew (ys := []) (its := []) (t' := s1.toks) .nil (by simp)
  obtain ⟨W, ⟨m0, w0⟩, turn⟩ := h1 s1.heap.objs.size I1.fresh
  generalize hs2 : ({ s1 with heap := s1.heap.push { cls := .type "list", data := .seq ([] : List Value).toArray }, toks := s1.toks } : Shared) = s2 at I2
  have es2 : s2.heap = s1.heap.push { cls := .type "list", data := .seq ([] : List Value).toArray } := by rw [← hs2]
  have hD : s1.heap.objs.size < s2.heap.objs.size := by rw [es2, Heap.size_push]; exact Nat.lt_succ_self _
  generalize hH2 : upd H1 s1.heap.objs.size (.lst []) = H2 at I2 w0
  have k12 : ∀ b o, s1.heap.get? b = some o → s2.heap.get? b = some o := fun b o e => by rw [es2]; exact Heap.get?_push_of_some _ e
  have st2 : tn 0 s2.heap := T.keep _ _ _ st1 fun b hb o e => k12 b o e
  have fplt : ∀ b ∈ fp, b < s1.heap.objs.size := fun b hb => by obtain ⟨o, e, _⟩ := T.obj _ _ st1 b hb; exact Heap.lt_size e
  have f2 : ∀ b ∈ fp, FpOk X pins H2 b := fun b hb => ⟨by rw [← hH2, upd_ne (Nat.ne_of_lt (fplt b hb))]; exact (f1 b hb).1, (f1 b hb).2⟩
  -- the block's frame
  refine wpAny_newFunctionEnv ok.nocell (by intro z hz; simp at hz) (fun h3 hns hsb => ?_) ok.kind
  have k23 : ∀ b o, s2.heap.get? b = some o → h3.get? b = some o := fun b o e => hsb.extBut b o (Nat.ne_of_lt (Heap.lt_size e)) (Heap.get?_push_of_some _ e)
  generalize hs3 : ({ s2 with heap := h3, toks := s2.toks + ([] : List (Str × Value)).length } : Shared) = s3
  have es3 : s3.heap = h3 := by rw [← hs3]
  have os3 : s3.os = s2.os := by rw [← hs3]
  have gs3 : s3.gens = s2.gens := by rw [← hs3]
  have hX : (cxComp X s2 H2 fp sc cl (x :: ys)).Ok := by
    refine ⟨I2.mod, ok.kind, I2.ok.glob, I2.ok.blt, Nat.le_refl _, fun a b c e1 e2 => I2.ok.inj a b c (ok.same a c e1) (ok.same b c e2), fun z hz => ?_, fun z c q _ => absurd (show false = true from q) (by simp), I2.ok.hd, I2.ok.frames, .inl rfl,
      fun b hb => ?_, I2.bs, ?_, fun b o e hb => ?_, fun b hb hf => ?_, I2.stack, I2.stkFree⟩
    · have hz : (relabel sc X.env).names.lookup z = some .cell ∨ (relabel sc X.env).names.lookup z = some .free := hz
      have go : ∀ k, (relabel sc X.env).names.lookup z = some k → (k == .cell || k == .free) = true → ∃ c, cl.lookup z = some c := fun k hk hb => by
        have q := List.all_eq_true.mp ok.has (z, k) (PySem.mem_of_lookup hk)
        rw [hb] at q
        exact Option.isSome_iff_exists.mp q
      rcases hz with hz | hz
      · exact go _ hz rfl
      · exact go _ hz rfl
    · refine ⟨?_, fun z c e => (f2 b hb).2.2.2.2.1 z c (ok.same z c e)⟩
      show b ≠ s2.heap.objs.size
      exact Nat.ne_of_lt (Nat.lt_trans (fplt b hb) hD)
    · show X.base.objs.size ≤ s2.heap.objs.size
      exact Nat.le_trans I2.ok.bsz I2.sz
    · rcases (f2 b hb).2.2.2.1 with z | z
      · exact I2.ok.noex b o e z
      · exact absurd (Nat.lt_of_lt_of_le (Heap.lt_size e) (Nat.le_trans I2.ok.bsz z)) (Nat.lt_irrefl _)
    · rcases List.mem_cons.mp (I2.stkSub b hf) with z | z
      · exact (f2 b hb).2.1 z
      · exact (f2 b hb).2.2.1 z
  have hlt2 : ∀ z c, X.env.cells.lookup z = some c → c < s2.heap.objs.size := fun z c e => by obtain ⟨v, q⟩ := I2.cell z c e; exact q.lt
  have I3 : ∀ o : Option V, Inv (cxComp X s2 H2 fp sc cl (x :: ys)) [] (none :: capt js σ) H2 s3 := fun _ => by
    refine ⟨hX, os3, by rw [gs3]; exact I2.bare, Un.kept (by rw [es3]; exact k23), ⟨_, by rw [es3]; exact hns, fun i y v e1 e2 e3 => ?_⟩, fun z c e => ?_, I2.hok.fresh (Nat.le_refl _), fun z c e => ?_, fun p hp => absurd (show p ∈ ([] : List (Addr × Obj)) from hp) (by simp), by rw [es3]; exact I2.hok.kept k23, ?_⟩
    · cases i with
      | zero => simp at e2
      | succ i =>
        have e1 : ys[i]? = some y := by simpa [cxComp] using e1
        obtain ⟨j, hj, hN, hk, hk2⟩ := ok.cap i y e1
        have e2 : (capt js σ)[i]? = some (some v) := by simpa using e2
        unfold capt at e2
        rw [List.getElem?_map, hj] at e2
        have e2' : (σ[j]?).join = some v := by simpa using e2
        have e4 : σ[j]? = some (some v) := by
          cases q : σ[j]? with
          | none => rw [q] at e2'; cases e2'
          | some w => rw [q] at e2'; simp at e2'; rw [e2']
        obtain ⟨m, hn, hl⟩ := I2.loc
        obtain ⟨u, r, l⟩ := hl j y v hN e4 (.inr (.inl hk))
        refine ⟨u, r, ?_⟩
        rcases l with ⟨k, _⟩ | ⟨_, c, hc, z⟩
        · exact absurd ((show X.env.scope.names.lookup y = some .local from k).symm.trans hk) (by simp)
        · have q := List.all_eq_true.mp ok.has (y, .cell) (PySem.mem_of_lookup hk2)
          obtain ⟨c', hc'⟩ : ∃ c', cl.lookup y = some c' := Option.isSome_iff_exists.mp (by simpa using q)
          have e5 := ok.same y c' hc'
          rw [hc] at e5
          cases e5
          refine .inr ⟨.inl hk2, c, hc', ?_⟩
          rw [es3]
          exact z.keeps k23
    · obtain ⟨v, q⟩ := I2.cell z c (ok.same z c e)
      exact ⟨v, by rw [es3]; exact q.keeps k23⟩
    · rcases I2.freeC z c (ok.same z c e) with q | ⟨_, ob, q⟩
      · exact .inl q
      · exact .inr ⟨rfl, ob, q⟩
    · show _ = (x :: ys).length
      unfold capt
      simp; exact ok.len.symm
  -- the loop
  have stat : ∀ {H' : Hp}, (∀ b ∈ fp, H' b = none) → ∀ b ∈ fp, FpOk (cxComp X s2 H2 fp sc cl (x :: ys)) [] H' b := fun {H'} hn b hb => by
    refine ⟨hn b hb, Nat.ne_of_lt (Nat.lt_trans (fplt b hb) hD), fun hf => ?_, .inl hb, fun z c e => (f2 b hb).2.2.2.2.1 z c (ok.same z c e), fun p hp => absurd (show p ∈ ([] : List (Addr × Obj)) from hp) (by simp)⟩
    rcases List.mem_cons.mp (I2.stkSub b hf) with z | z
    · exact (f2 b hb).2.1 z
    · exact (f2 b hb).2.2.1 z
  have loop : codeAny (model X.prog X.w) X.A (.compLoop (.ListComp elt [⟨.Name x px, iter, ifs, 0⟩] sc pos) 0 (.ref it) (.ref s1.heap.objs.size) (compEnvC sc cl s2.heap.objs.size X.env)) (compPost (model X.prog X.w) X.A X.xe use QQ (.ref s1.heap.objs.size) s2.heap.objs.size) s3 := by
    refine codeAny_compLoop_tests (fun n s' => ∃ i o zs H', Inv (cxComp X s2 H2 fp sc cl (x :: ys)) [] (o :: capt js σ) H' s' ∧ tn i s'.heap ∧ (∀ b ∈ fp, H' b = none) ∧ W i n zs H') ?_ m0 ⟨0, none, [], H2, I3 none, T.keep _ _ _ st2 fun b hb o e => by rw [es3]; exact k23 b o e, fun b hb => (f2 b hb).1, w0⟩
    rintro n s4 ⟨i, o, zs, H4, I4, st4, fr4, w4⟩
    rcases turn i n zs H4 w4 with ⟨stop, qn⟩ | ⟨go, step⟩
    · refine wpAny_mono (T.done (cxComp X s2 H2 fp sc cl (x :: ys)) rfl rfl rfl ok.calm i [] s4 _ H4 (fun _ _ => False) I4 (stat fr4) st4 stop) (fun r s5 ⟨hr, I5⟩ => ?_) fun _ _ e => e.elim
      subst hr
      have I6 : Inv X pins σ H4 s5 := I2.call' (ch := fp) I5.os I5.base I5.hok I5.bare fun b hb => ⟨(f2 b hb).2.2.2.1, (f2 b hb).2.1, (f2 b hb).2.2.2.2.1, (f2 b hb).2.2.2.2.2⟩
      obtain ⟨m, hn, _⟩ := I5.loc
      exact fin _ _ H4 s5 I6 qn (I2.fpOk (Nat.le_refl _) I5.free) ⟨m, hn⟩
    · refine wpAny_mono (T.item (cxComp X s2 H2 fp sc cl (x :: ys)) rfl rfl rfl ok.calm i [] s4 _ H4 (fun _ _ => False) I4 (stat fr4) st4 go) (fun r s5 ⟨u, hr, h5⟩ => ?_) fun _ _ e => e.elim
      subst hr
      -- the store
      have asg : ∀ (Q2 : Unit → Shared → Prop), (∀ s6 v H6, Inv (cxComp X s2 H2 fp sc cl (x :: ys)) ([] ++ pinsAt fp s6.heap) (some v :: capt js σ) H6 s6 → J.yld i H4 v H6 → tn (i + 1) s6.heap → (∀ b ∈ fp, H6 b = none) → Q2 () s6) →
          wpAny (model X.prog X.w) X.A (assign (.Name x px) (compEnvC sc cl s2.heap.objs.size X.env) u) Q2 (fun _ _ => False) s5 := fun Q2 hQ2 => by
        have z : wpAny (model X.prog X.w) X.A (letOwnedTupleGo (.Name x px) (.ref it) u >>= fun _ => assign (.Name x px) (compEnvC sc cl s2.heap.objs.size X.env) u) Q2 (fun _ _ => False) s5 := by
          refine wpAny_bind (wpAny_mono h5 (fun _ s6 ⟨v, H6, I6, r6, y6, st6, fr6⟩ => ?_) fun _ _ e => e)
          have I6' := I6.pinned (stat fr6) (T.obj _ _ st6)
          refine wpAny_assign_Name (store_ok (X := cxComp X s2 H2 fp sc cl (x :: ys)) (i := 0) I6' ok.nd rfl (.inl (lookup_relabel_local ok.own)) r6 (fun s7 I7 => ?_) (.inr (lookup_relabel_local ok.own)))
          have e7 : ∀ b ∈ fp, ∀ o, s6.heap.get? b = some o → s7.heap.get? b = some o := fun b hb o e => (I7.pin (b, o) (List.mem_append_right _ (List.mem_append_right _ (mem_pinsAt hb e)))).1
          have st7 : tn (i + 1) s7.heap := T.keep _ _ _ st6 e7
          refine hQ2 s7 v H6 ?_ y6 st7 fr6
          have I8 := I7.unpinned
          exact I8.pinned (stat fr6) (T.obj _ _ st7)
        have e : letOwnedTupleGo (.Name x px) (.ref it) u = pure () := rfl
        rw [e, pure_bind] at z
        exact z
      refine wpAny_mono (asg _ fun s6 v H6 I6 y6 st6 fr6 => ?_) (fun _ _ q => q) fun _ _ e => e.elim
      have keepI : ∀ {H7 : Hp} {s7 : Shared} {σ7 : St}, Inv (cxComp X s2 H2 fp sc cl (x :: ys)) ([] ++ pinsAt fp s6.heap) σ7 H7 s7 → tn (i + 1) s7.heap ∧ ∀ b ∈ fp, H7 b = none := fun {H7 s7 σ7} I7 =>
        ⟨T.keep _ _ _ st6 fun b hb o e => (I7.pin (b, o) (List.mem_append_right _ (List.mem_append_right _ (mem_pinsAt hb e)))).1, fun b hb => by
          obtain ⟨o, e, d⟩ := T.obj _ _ st6 b hb
          exact (I7.pin (b, o) (List.mem_append_right _ (List.mem_append_right _ (mem_pinsAt hb e)))).2.1⟩
      refine wpAny_mono (ht s2 H2 fp _ s6 _ H6 _ (fun _ _ => False) rfl I6 (step v H6 y6)) (fun b s7 ⟨H7, I7, q7⟩ => ?_) fun _ _ e => e.elim
      cases b with
      | false =>
        rw [if_neg Bool.false_ne_true] at q7 ⊢
        obtain ⟨m', hm, w7⟩ := q7
        obtain ⟨st7, fr7⟩ := keepI I7
        exact ⟨m', hm, i + 1, some v, zs, H7, I7.unpinned, st7, fr7, w7⟩
      | true =>
        rw [if_pos rfl] at q7 ⊢
        refine wpAny_mono (he s2 H2 fp _ s7 _ H7 _ I7 q7) (fun y s8 ⟨yv, H8, I8, r8, hD8, hz8, m', hm, w8⟩ => ?_) fun _ _ (e : False) => e.elim
        refine wpAny_mono (mt_append (X := cxComp X s2 H2 fp sc cl (x :: ys)) _ s8 _ H8 (.ref s1.heap.objs.size) [yv] (.ref s1.heap.objs.size) [y] (fun v H9 => H9 = upd H8 s1.heap.objs.size (.lst (zs ++ [yv]))) I8 rfl (.cons r8 .nil) ⟨_, zs, yv, rfl, rfl, hD8, hz8, rfl⟩)
          (fun _ s9 ⟨_, H9, I9, _, e9⟩ => ?_) fun _ _ (e : False) => e.elim
        subst e9
        obtain ⟨st9, fr9⟩ := keepI I9
        exact ⟨m', hm, i + 1, some v, zs ++ [yv], _, I9.unpinned, st9, fr9, w8⟩
  have self3 : tn 0 s3.heap := T.keep _ _ _ st2 fun b hb o e => by rw [es3]; exact k23 b o e
  exact codeAny_compStart_list loop (T.self X.A 0 _ _ _ self3 loop)
theorem pe_comp {X : Cx} {x : Str} {px : Pos} {ys : List Str} {js : List Nat} {sc : Scope} {cl : List (Str × Addr)} {elt iter : Expr} {ifs : List Expr} {pos : Pos} {wi : TI} {tt : TT} {te : TE} (ok : CompOk X x ys js sc cl) (hi : PI X (.Name x px) iter wi)
    (ht : ∀ s₂ H₂ fp, PTs (cxComp X s₂ H₂ fp sc cl (x :: ys)) ifs tt) (he : ∀ s₂ H₂ fp, PE (cxComp X s₂ H₂ fp sc cl (x :: ys)) elt te) (hs : ∀ x, foldedSetIterable iter X.env x = pure x := by intro _; rfl) :
    PE X (.ListComp elt [⟨.Name x px, iter, ifs, 0⟩] sc pos) (tComp wi js tt te) := by
  intro pins s σ H Q I h
  rw [eval_ListComp]
  refine comp_core (use := none) ok hi ht he I h (fun D C H' s' I' q fc ⟨m, hn⟩ => ⟨m, hn, fun h' hs' => ?_⟩) hs
  obtain ⟨f0, f1, f2, f3, f4, f5⟩ := fc
  exact ⟨.ref D, H', I'.turned (t' := s'.toks) (fun b o hb e => (hs'.2 b hb).trans e) f0 f1 f3 f4 f5, rfl, q⟩
theorem ps_setComp {X : Cx} {x z : Str} {px pz : Pos} {iz : Nat} {ys : List Str} {js : List Nat} {sc : Scope} {cl : List (Str × Addr)} {elt iter : Expr} {ifs : List Expr} {pos spos : Pos} {wi : TI} {tt : TT} {te : TE} (ok : CompOk X x ys js sc cl) (hi : PI X (.Name x px) iter wi)
    (ht : ∀ s₂ H₂ fp, PTs (cxComp X s₂ H₂ fp sc cl (x :: ys)) ifs tt) (he : ∀ s₂ H₂ fp, PE (cxComp X s₂ H₂ fp sc cl (x :: ys)) elt te)
    (hN : X.N.Nodup) (hiz : X.N[iz]? = some z) (hz : Loc X.env.scope z) (hf : X.fn z = true ∨ X.env.scope.names.lookup z = some .local)
    (hsw : swapsWith (.ListComp elt [⟨.Name x px, iter, ifs, 0⟩] sc pos) (some (.Name z pz)) spos.line X.env = pure true) (hs : ∀ x, foldedSetIterable iter X.env x = pure x := by intro _; rfl) :
    PS X (.Assign [.Name z pz] (.ListComp elt [⟨.Name x px, iter, ifs, 0⟩] sc pos) spos) (tAsg (tComp wi js tt te) (gName iz)) := by
  intro pins s σ H D I h
  rw [exec_Assign_Name_used _ _ _ _ hsw]
  refine wpAny_bind (wpAny_standAt (wpAny_bind ?_))
  show wpAny _ X.A (do let _ ← comprehension (.ListComp elt [⟨.Name x px, iter, ifs, 0⟩] sc pos) sc X.env _ (newList []) false (eval iter X.env) (some (assign (.Name z pz) X.env))) _ _ s
  refine wpAny_bind (wpAny_mono (comp_core (use := some (assign (.Name z pz) X.env)) (QQ := fun _ s' => SP X pins D .next s') ok hi ht he I h (fun d C H' s' I' q fc ⟨m, hn⟩ => ?_) hs) (fun _ s' hq => wpAny_pure (wpAny_pure hq)) fun _ _ e => e)
  obtain ⟨f0, f1, f2, f3, f4, f5⟩ := fc
  show wpAny _ _ (assign (.Name z pz) X.env (.ref d)) _ _ s'
  refine wpAny_assign_Name (store_ok2 I' hN hiz hz (v := .ref d) rfl (fun s2 I2 ⟨a, hsb, ha⟩ => ?_) hf)
  have hCa : C ≠ a := by
    rcases ha with rfl | ha
    · exact f1
    · exact fun e => f4 z a ha e.symm
  refine ⟨m, hn.sameBut hsb hCa, fun h' hs' => ⟨_, H', I2.turned (t' := s2.toks) (fun b o hb e => (hs'.2 b hb).trans e) f0 f1 f3 f4 f5, q⟩⟩
end L2
namespace L2
open PySem PySem.Spec PyProof.Rows
inductive Tm where
  | int (i : Int) | str (x : Str) | nd (m : Str) (a b : Tm)
def Tm.dep : Tm → Nat
  | .nd _ a b => max a.dep b.dep + 1
  | _ => 0
inductive Sl where
  | plain | turned | num (d : Addr)
def Sl.d : Sl → Option Addr
  | .num d => some d
  | _ => none
def isT (S : Sl) (H : Hp) : Tm → V → Prop
  | .int i, v => v = .int i
  | .str x, v => v = .str x
  | .nd m a b, v => match S with
    | .plain => ∃ p va vb, v = .ref p ∧ H p = some (.tup [.str m, va, vb]) ∧ isT S H a va ∧ isT S H b vb
    | .turned => ∃ p va vb, v = .ref p ∧ H p = some (.tup [.str "seal of", vb, va, .str m]) ∧ isT S H a va ∧ isT S H b vb
    | .num d => ∃ kvs ka kb n, H d = some (.dT kvs) ∧ isT S H a (kV ka) ∧ isT S H b (kV kb) ∧ valV kvs [.inr m, ka, kb] = some (.int n) ∧ v = .int n
abbrev isTs (S : Sl) (H : Hp) : List Tm → List V → Prop := Paired (isT S H)
def imm : HO → Bool
  | .tup _ => true
  | .frz _ _ => true
  | .rng _ _ => true
  | _ => false
def Ints (l : List (List Key × V)) : Prop := ∀ (j : Nat) p, l[j]? = some p → p.2 = V.int (j : Nat)
theorem Ints.nil : Ints [] := fun j p h => by simp at h
theorem Ints.snoc {l : List (List Key × V)} (x : Ints l) (k : List Key) : Ints (l ++ [(k, V.int l.length)]) := fun j p h => by
  by_cases hj : j < l.length
  · rw [List.getElem?_append_left hj] at h; exact x j p h
  · rw [List.getElem?_append_right (by omega)] at h
    have e : j - l.length = 0 := by
      cases q : j - l.length with
      | zero => rfl
      | succ m => rw [q] at h; simp at h
    rw [e] at h
    simp at h
    rw [← h, show j = l.length by omega]
theorem valV_place {l : List (List Key × V)} {k : List Key} {v : V} (h : valV l k = some v) : ∃ (j : Nat) (p : List Key × V), l[j]? = some p ∧ p.1 = k ∧ p.2 = v := by
  induction l with
  | nil => cases h
  | cons p r ih =>
    by_cases e : p.1 = k
    · rw [valV_pos e] at h; exact ⟨0, p, rfl, e, Option.some.inj h⟩
    · rw [valV_neg e] at h
      obtain ⟨j, q, e1, e2, e3⟩ := ih h
      exact ⟨j + 1, q, by simpa using e1, e2, e3⟩
theorem Ints.val {l : List (List Key × V)} (x : Ints l) {k : List Key} {v : V} (h : valV l k = some v) : ∃ i, v = V.int i := by
  obtain ⟨j, p, e1, _, e3⟩ := valV_place h
  exact ⟨_, e3.symm.trans (x j p e1)⟩
theorem Ints.inj {l : List (List Key × V)} (x : Ints l) {k k' : List Key} {v : V} (h : valV l k = some v) (h' : valV l k' = some v) : k = k' := by
  obtain ⟨j, p, e1, e2, e3⟩ := valV_place h
  obtain ⟨j', p', e1', e2', e3'⟩ := valV_place h'
  have a := x j p e1
  have a' := x j' p' e1'
  rw [e3] at a; rw [e3', a] at a'
  have e : j = j' := by injection a' with a'; omega
  subst e
  rw [e1] at e1'; cases e1'
  rw [← e2, ← e2']
structure Gn (S : Sl) (n : Nat) (H H' : Hp) : Prop where
  keep : ∀ b o, H b = some o → imm o = true → H' b = some o
  told : ∀ d, S.d = some d → ∃ kvs more, H d = some (.dT kvs) ∧ H' d = some (.dT (kvs ++ more)) ∧ more.length ≤ n ∧ (Ints kvs → Ints (kvs ++ more))
structure Gr (S : Sl) (n : Nat) (H H' : Hp) : Prop where
  gn : Gn S n H H'
  all : ∀ b o, H b = some o → S.d ≠ some b → H' b = some o
def Told (S : Sl) (H : Hp) : Prop := ∀ d, S.d = some d → ∃ kvs, H d = some (.dT kvs)
theorem Gn.told2 {S : Sl} {n : Nat} {H H' : Hp} (g : Gn S n H H') : Told S H' := fun d e => by obtain ⟨kvs, more, _, h, _, _⟩ := g.told d e; exact ⟨_, h⟩
theorem Gn.refl {S : Sl} {H : Hp} (t : Told S H) : Gn S 0 H H := ⟨fun _ _ h _ => h, fun d e => by obtain ⟨kvs, h⟩ := t d e; exact ⟨kvs, [], h, by simpa using h, Nat.le_refl _, fun z => by simpa using z⟩⟩
theorem Gr.refl {S : Sl} {H : Hp} (t : Told S H) : Gr S 0 H H := ⟨.refl t, fun _ _ h _ => h⟩
theorem Gn.trans {S : Sl} {a b : Nat} {H H1 H2 : Hp} (g : Gn S a H H1) (g2 : Gn S b H1 H2) : Gn S (a + b) H H2 :=
  ⟨fun c o h i => g2.keep c o (g.keep c o h i) i, fun d e => by
    obtain ⟨kvs, more, h1, h2, h3, h4⟩ := g.told d e
    obtain ⟨kvs', more', h1', h2', h3', h4'⟩ := g2.told d e
    rw [h2] at h1'; cases h1'
    exact ⟨kvs, more ++ more', h1, by rw [h2', List.append_assoc], by rw [List.length_append]; omega, fun z => by rw [← List.append_assoc]; exact h4' (h4 z)⟩⟩
theorem Gr.trans {S : Sl} {a b : Nat} {H H1 H2 : Hp} (g : Gr S a H H1) (g2 : Gr S b H1 H2) : Gr S (a + b) H H2 := ⟨g.gn.trans g2.gn, fun c o h n => g2.all c o (g.all c o h n) n⟩
theorem Gn.up {S : Sl} {a b : Nat} {H H1 : Hp} (g : Gn S a H H1) (h : a ≤ b) : Gn S b H H1 := ⟨g.keep, fun d e => by obtain ⟨k, m, h1, h2, h3, h4⟩ := g.told d e; exact ⟨k, m, h1, h2, Nat.le_trans h3 h, h4⟩⟩
theorem Gr.up {S : Sl} {a b : Nat} {H H1 : Hp} (g : Gr S a H H1) (h : a ≤ b) : Gr S b H H1 := ⟨g.gn.up h, g.all⟩
theorem Gr.new {S : Sl} {H : Hp} {p : Addr} {o : HO} (t : Told S H) (h : H p = none) : Gr S 0 H (upd H p o) :=
  ⟨⟨fun b u q _ => by rw [upd_ne (ne_of_none q h)]; exact q, fun d e => by
    obtain ⟨kvs, q⟩ := t d e
    exact ⟨kvs, [], q, by rw [upd_ne (ne_of_none q h)]; simpa using q, Nat.le_refl _, fun z => by simpa using z⟩⟩, fun b u q _ => by rw [upd_ne (ne_of_none q h)]; exact q⟩
theorem Gn.chg {S : Sl} {H : Hp} {p : Addr} {o o' : HO} (t : Told S H) (h : H p = some o) (hi : imm o = false) (hd : ∀ kvs, o ≠ .dT kvs) : Gn S 0 H (upd H p o') :=
  ⟨fun b u q i => by
    rw [upd_ne (by rintro rfl; rw [h] at q; cases q; rw [hi] at i; cases i)]; exact q, fun d e => by
    obtain ⟨kvs, q⟩ := t d e
    exact ⟨kvs, [], q, by rw [upd_ne (by rintro rfl; rw [h] at q; exact hd _ (Option.some.inj q))]; simpa using q, Nat.le_refl _, fun z => by simpa using z⟩⟩
theorem Gr.own {S : Sl} {n : Nat} {H H' : Hp} {p : Addr} {o : HO} (g : Gr S n H H') (h : H p = none) : Gr S n H (upd H' p o) :=
  ⟨⟨fun b u q i => by rw [upd_ne (ne_of_none q h)]; exact g.gn.keep b u q i, fun d e => by
    obtain ⟨kvs, more, h1, h2, h3, h4⟩ := g.gn.told d e
    exact ⟨kvs, more, h1, by rw [upd_ne (ne_of_none h1 h)]; exact h2, h3, h4⟩⟩, fun b u q hd => by rw [upd_ne (ne_of_none q h)]; exact g.all b u q hd⟩
theorem Gr.free {S : Sl} {n : Nat} {H H' : Hp} (g : Gr S n H H') {p : Addr} (h : H' p = none) : H p = none := by
  cases q : H p with
  | none => rfl
  | some o =>
    by_cases hd : S.d = some p
    · obtain ⟨kvs, more, h1, h2, _, _⟩ := g.gn.told p hd
      rw [h2] at h; cases h
    · rw [g.all p o q hd] at h; cases h
theorem Gr.lst {S : Sl} {n : Nat} {H H' : Hp} (g : Gr S n H H') {p : Addr} {xs : List V} (h : H p = some (.lst xs)) : H' p = some (.lst xs) := g.all p _ h fun e => by
  obtain ⟨kvs, more, h1, _, _, _⟩ := g.gn.told p e
  rw [h] at h1; cases h1
theorem Gr.same {S : Sl} {n : Nat} {H H' : Hp} (g : Gr S n H H') {p : Addr} {o : HO} (h : H p = some o) (hd : ∀ kvs, o ≠ .dT kvs) : H' p = some o := g.all p _ h fun e => by
  obtain ⟨kvs, more, h1, _, _, _⟩ := g.gn.told p e
  rw [h] at h1; exact hd _ (Option.some.inj h1)
theorem Gr.sq {S : Sl} {n : Nat} {H H' : Hp} (g : Gr S n H H') {K : PySem.W.Frag} {p : Addr} {xs : List V} (h : SqL K H p xs) : SqL K H' p xs := by
  rcases h with (h | ⟨o, h⟩) | h
  · exact .inl (.inl (g.lst h))
  · exact .inl (.inr ⟨o, g.same h (fun _ e => nomatch e)⟩)
  · exact .inr h
theorem valV_app {κ : Type} [DecidableEq κ] {kvs more : List (κ × V)} {k : κ} {v : V} (h : valV kvs k = some v) : valV (kvs ++ more) k = some v := by
  induction kvs with
  | nil => cases h
  | cons p r ih =>
    rw [List.cons_append]
    by_cases e : p.1 = k
    · rw [valV_pos e] at h ⊢; exact h
    · rw [valV_neg e] at h ⊢; exact ih h
theorem isT_up {S : Sl} {n : Nat} {H H' : Hp} (g : Gn S n H H') : ∀ {t : Tm} {v : V}, isT S H t v → isT S H' t v
  | .int _, _, h => h
  | .str _, _, h => h
  | .nd m a b, v, h => by
    cases S with
    | plain => obtain ⟨p, va, vb, e, hp, ha, hb⟩ := h; exact ⟨p, va, vb, e, g.keep _ _ hp rfl, isT_up g ha, isT_up g hb⟩
    | turned => obtain ⟨p, va, vb, e, hp, ha, hb⟩ := h; exact ⟨p, va, vb, e, g.keep _ _ hp rfl, isT_up g ha, isT_up g hb⟩
    | num d =>
      obtain ⟨kvs, ka, kb, n, hd, ha, hb, hv, e⟩ := h
      obtain ⟨kvs', more, h1, h2, _, _⟩ := g.told d rfl
      rw [hd] at h1; cases h1
      exact ⟨_, ka, kb, n, h2, isT_up g ha, isT_up g hb, valV_app hv, e⟩
theorem Paired.imp2 {α β : Type} {F G : α → β → Prop} (f : ∀ a b, F a b → G a b) : ∀ {l₁ : List α} {l₂ : List β}, Paired F l₁ l₂ → Paired G l₁ l₂
  | _, _, .nil => .nil
  | _, _, .cons r t => .cons (f _ _ r) (Paired.imp2 f t)
theorem isTs_up {S : Sl} {n : Nat} {H H' : Hp} (g : Gn S n H H') {ts : List Tm} {vs : List V} (h : isTs S H ts vs) : isTs S H' ts vs := Paired.imp2 (fun _ _ q => isT_up g q) h
theorem pr_len {α β : Type} {F : α → β → Prop} : ∀ {l₁ : List α} {l₂ : List β}, Paired F l₁ l₂ → l₁.length = l₂.length
  | _, _, .nil => rfl
  | _, _, .cons _ t => by simp [pr_len t]
theorem pr_take {α β : Type} {F : α → β → Prop} : ∀ {l₁ : List α} {l₂ : List β} (n : Nat), Paired F l₁ l₂ → Paired F (l₁.take n) (l₂.take n)
  | _, _, 0, _ => .nil
  | _, _, _ + 1, .nil => .nil
  | _, _, n + 1, .cons r t => .cons r (pr_take n t)
theorem pr_drop {α β : Type} {F : α → β → Prop} : ∀ {l₁ : List α} {l₂ : List β} (n : Nat), Paired F l₁ l₂ → Paired F (l₁.drop n) (l₂.drop n)
  | _, _, 0, r => r
  | _, _, _ + 1, .nil => .nil
  | _, _, n + 1, .cons _ t => pr_drop n t
theorem pr_app {α β : Type} {F : α → β → Prop} : ∀ {l₁ l₂ : List α} {m₁ m₂ : List β}, Paired F l₁ m₁ → Paired F l₂ m₂ → Paired F (l₁ ++ l₂) (m₁ ++ m₂)
  | _, _, _, _, .nil, s => s
  | _, _, _, _, .cons r t, s => .cons r (pr_app t s)
theorem pr_get {α β : Type} {F : α → β → Prop} : ∀ {l₁ : List α} {l₂ : List β} {i : Nat} {a : α} {b : β}, Paired F l₁ l₂ → l₁[i]? = some a → l₂[i]? = some b → F a b
  | _, _, 0, _, _, .cons r _, h1, h2 => by simp at h1 h2; subst h1 h2; exact r
  | _, _, i + 1, _, _, .cons _ t, h1, h2 => pr_get (i := i) t (by simpa using h1) (by simpa using h2)
theorem pr_get2 {α β : Type} {F : α → β → Prop} : ∀ {l₁ : List α} {l₂ : List β} {i : Nat} {b : β}, Paired F l₁ l₂ → l₂[i]? = some b → ∃ a, l₁[i]? = some a ∧ F a b
  | _, _, 0, _, .cons r _, h2 => by simp at h2; subst h2; exact ⟨_, rfl, r⟩
  | _, _, i + 1, _, .cons _ t, h2 => by
    obtain ⟨a, h1, h3⟩ := pr_get2 (i := i) t (by simpa using h2)
    exact ⟨a, by simpa using h1, h3⟩
theorem isT_fun {d : Addr} {H : Hp} : ∀ {t : Tm} {v v' : V}, isT (.num d) H t v → isT (.num d) H t v' → v = v'
  | .int _, _, _, h, h' => (show _ = _ from h).trans (show _ = _ from h').symm
  | .str _, _, _, h, h' => (show _ = _ from h).trans (show _ = _ from h').symm
  | .nd m a b, v, v', h, h' => by
    obtain ⟨kvs, ka, kb, n, hd, ha, hb, hv, e⟩ := h
    obtain ⟨kvs', ka', kb', n', hd', ha', hb', hv', e'⟩ := h'
    rw [hd] at hd'; cases hd'
    have e1 := kV_inj (isT_fun ha ha')
    have e2 := kV_inj (isT_fun hb hb')
    subst e1 e2
    rw [hv] at hv'; cases hv'
    rw [e, e']
theorem isT_key {d : Addr} {H : Hp} : ∀ {t : Tm} {v : V}, isT (.num d) H t v → ∃ k, v = kV k
  | .int i, _, h => ⟨.inl i, h⟩
  | .str x, _, h => ⟨.inr x, h⟩
  | .nd m a b, v, h => by
    obtain ⟨kvs, ka, kb, n, hd, ha, hb, hv, e⟩ := h
    exact ⟨.inl n, e⟩
theorem flat_key (k : Key) : flatV (kV k) = true := by cases k <;> rfl
def Cap (S : Sl) (H : Hp) (n : Nat) : Prop := ∀ d kvs, S.d = some d → H d = some (.dT kvs) → kvs.length + n ≤ 10000000
theorem Cap.dn {S : Sl} {H : Hp} {a b : Nat} (c : Cap S H a) (h : b ≤ a) : Cap S H b := fun d kvs e q => Nat.le_trans (Nat.add_le_add_left h _) (c d kvs e q)
theorem Cap.go {S : Sl} {H H' : Hp} {a b n : Nat} (c : Cap S H n) (g : Gn S a H H') (h : a + b ≤ n) : Cap S H' b := fun d kvs e q => by
  obtain ⟨k, m, h1, h2, h3, _⟩ := g.told d e
  rw [h2] at q; cases q
  have := c d k e h1
  rw [List.length_append]; omega
abbrev nlT : Tm := .nd "none" (.int 0) (.int 0)
abbrev prT : Tm → Tm → Tm := .nd "pair"
abbrev tpT : List Tm → Tm := Gb.topT nlT prT
abbrev gwT : List Tm → Nat → List Tm := Gb.growT nlT prT
abbrev paT : List Tm → Nat → List Tm := Gb.pathT nlT prT
theorem tp_dep : ∀ (n : Nat) (ts : List Tm) (B : Nat), ts.length ≤ n → (∀ t ∈ ts, t.dep ≤ B) → (tpT ts).dep ≤ B + n + 1
  | n, [], B, _, _ => by show (Gb.topT nlT prT []).dep ≤ _; rw [Gb.topT_nil]; simp [Tm.dep]
  | n, [t], B, _, h => by show (Gb.topT nlT prT [t]).dep ≤ _; rw [Gb.topT_one]; have := h t (by simp); omega
  | 0, a :: b :: r, B, hl, _ => by simp at hl
  | n + 1, a :: b :: r, B, hl, h => by
    generalize hts : a :: b :: r = ts at hl h ⊢
    have h2 : 2 ≤ ts.length := by rw [← hts]; simp
    have e := Gb.topT_more nlT prT h2
    have x1 := Gb.spl_lt h2
    have x2 := Gb.spl_pos ts.length
    show (Gb.topT nlT prT ts).dep ≤ _
    rw [e]
    have i1 := tp_dep n (ts.take (Gb.spl ts.length)) B (by simp; omega) fun t ht => h t (List.mem_of_mem_take ht)
    have i2 := tp_dep n (ts.drop (Gb.spl ts.length)) B (by simp; omega) fun t ht => h t (List.mem_of_mem_drop ht)
    show max _ _ + 1 ≤ _
    have i1' : (Gb.topT nlT prT (ts.take (Gb.spl ts.length))).dep ≤ B + n + 1 := i1
    have i2' : (Gb.topT nlT prT (ts.drop (Gb.spl ts.length))).dep ≤ B + n + 1 := i2
    omega
theorem gw_dep : ∀ (n : Nat) (ts : List Tm) (old B : Nat), ts.length ≤ n → (∀ t ∈ ts, t.dep ≤ B) → ∀ t ∈ gwT ts old, t.dep ≤ B + n + 1
  | n, ts, old, B, hl, h => by
    intro t ht
    have ht : t ∈ Gb.growT nlT prT ts old := ht
    by_cases h0 : old = 0
    · subst h0; rw [Gb.growT_zero] at ht; cases ht
    by_cases h1 : ts.length ≤ old
    · rw [Gb.growT_all nlT prT h0 h1] at ht
      rw [List.mem_singleton.mp ht]; exact tp_dep n ts B hl h
    have h2 : 2 ≤ ts.length := by omega
    have x1 := Gb.spl_lt h2
    have x2 := Gb.spl_pos ts.length
    cases n with
    | zero => omega
    | succ n =>
      have a1 := fun t ht => h t (List.mem_of_mem_take (i := Gb.spl ts.length) ht)
      have a2 := fun t ht => h t (List.mem_of_mem_drop (i := Gb.spl ts.length) ht)
      by_cases h3 : old ≤ Gb.spl ts.length
      · rw [Gb.growT_low nlT prT h0 (by omega) h3] at ht
        rcases List.mem_append.mp ht with ht | ht
        · have := gw_dep n _ old B (by simp; omega) a1 t ht; omega
        · rw [List.mem_singleton.mp ht]; have := tp_dep n (ts.drop (Gb.spl ts.length)) B (by simp; omega) a2
          have this : (Gb.topT nlT prT (ts.drop (Gb.spl ts.length))).dep ≤ B + n + 1 := this
          omega
      · rw [Gb.growT_high nlT prT h0 (by omega) h3] at ht
        rcases List.mem_append.mp ht with ht | ht
        · have := gw_dep n _ (old - Gb.spl ts.length) B (by simp; omega) a2 t ht; omega
        · rw [List.mem_singleton.mp ht]; have := tp_dep n (ts.take (Gb.spl ts.length)) B (by simp; omega) a1
          have this : (Gb.topT nlT prT (ts.take (Gb.spl ts.length))).dep ≤ B + n + 1 := this
          omega
end L2
namespace L2
open PySem PySem.Spec PyProof.Rows
def FunAt (K : PySem.W.Frag) (mg : Str → Option Value) (x : Str) (st : Stmt) : Prop := ∃ f fd, mg x = some (.ref f) ∧ Fun K x x st f fd
theorem funAt_mk {K : PySem.W.Frag} {mg : Str → Option Value} {h : Heap} {x : Str} {st : Stmt} (X : K.In h) (G : h.Ns mainGlobals mg) {f : Addr} {oc : Value} {od an : Option Addr} {osl : Array (Option Value)} {kV doc pm cdv ct : Value}
    (a : PySem.W.nsIn K mainGlobals x = some (some (.ref f))) (l : K.lookup f = some ⟨oc, od, .func (PySem.W.fnOf x x (defArgs st) (defBody st) (defScope st) .none kV doc pm an cdv ct), osl⟩)
    (c : PySem.W.codeIn K cdv x = true) (k : PySem.W.keepIn K (.ref f) = true) : FunAt K mg x st := ⟨f, _, PySem.W.mg_of X G a, fun_mk l c k⟩
def FnP (P : Program) (w : World) (K : PySem.W.Frag) (mg : Str → Option Value) (base : Heap) (k : Nat) (x : Str) (ps : List Str) (sp : Sp) : Prop :=
  ∃ f fd, mg x = some (.ref f) ∧ PySem.W.keepIn K (.ref f) = true ∧ Binds K fd ps [] ∧ FnOk P w K mg base CX0 k f fd ps sp ∧ ∃ oc od sl, K.lookup f = some ⟨oc, od, .func fd, sl⟩
section
variable {P : Program} {w : World} {K : PySem.W.Frag} {mg : Str → Option Value} {base : Heap}
theorem FnP.mono {j k : Nat} {x : Str} {ps : List Str} {sp : Sp} (F : FnP P w K mg base j x ps sp) (h : j ≤ k) : FnP P w K mg base k x ps sp := by
  obtain ⟨f, fd, h1, h2, h3, h4, h5⟩ := F
  exact ⟨f, fd, h1, h2, h3, h4.mono h, h5⟩
theorem FunAt.ok {x : Str} {st : Stmt} {N ps : List Str} {k : Nat} {sp : Sp} (F : FunAt K mg x st) (S : FnScope N ps (defScope st))
    (hb : ∀ (kV doc pm : Value) (an : Option Addr) (cdv ct : Value) (us : List Value), us.length = ps.length → bindArgs (PySem.W.fnOf x x (defArgs st) (defBody st) (defScope st) .none kV doc pm an cdv ct) ⟨us, []⟩ = pure (ps.zip us))
    (len : ∀ vs H Q E, sp vs H Q E → vs.length = ps.length)
    (hbody : ∀ (f : Addr) (cdv : Value) (A : Around) (outer : List Env) (s : Shared) (H : Hp) (vs : List V) (Q : VK) (E : XK), Room k (A.deeper (envOfC x (defScope st) s.heap.objs.size f cdv)) → sp vs H Q E →
      ∃ t, PSs (cxOf CX0 P w K mg base N x (defScope st) f cdv A outer s H E).nox (defBody st) t ∧ t { nx := fun _ H' => Q .non H', rt := Q } (start N vs) H) : FnP P w K mg base (k + 1) x ps sp := by
  obtain ⟨f, fd, h1, F⟩ := F
  refine ⟨f, fd, h1, F.kp, F.binds hb, F.ok S len fun cdv A outer s H vs Q E => hbody f cdv A outer s H vs Q E, ?_⟩
  obtain ⟨oc, od, kV, doc, pm, an, cdv, ct, osl, rfl, lk, hcd⟩ := F.ex
  exact ⟨_, _, _, lk⟩
end
section
variable {X : Cx} {k : Nat} {ps : List Str} {sp : Sp} {x : Str} {p pos : Pos} {e : Expr} {es : List Expr} {t : TA}
theorem pe_callN (F : FnP X.prog X.w X.K X.mg X.base k x ps sp) (hr : Room k X.A) (hg : Gl X x) (ha : PA X (e :: es) t) (hdb : (x == ("__debug__" : Str)) = false := by decide)
    (he : starEach (e :: es) X.env = (false, eval e X.env) :: starEach es X.env := by rfl) (hpl : (backTo pos (starEach es X.env)).any (·.1) = false := by rfl) : PE X (.Call (.Name x p) (e :: es) [] pos) (tCall sp [] E0 t) := by
  obtain ⟨f, fd, h1, h2, h3, h4, _⟩ := F
  exact pe_call h4 hr hg h1 h2 h3 .nil pass0 ha hdb he hpl
theorem pe_callN0 (F : FnP X.prog X.w X.K X.mg X.base k x ps sp) (hr : Room k X.A) (hg : Gl X x) (hdb : (x == ("__debug__" : Str)) = false := by decide) : PE X (.Call (.Name x p) [] [] pos) (tCall sp [] E0 tNil) := by
  obtain ⟨f, fd, h1, h2, h3, h4, _⟩ := F
  exact pe_call0 h4 hr hg h1 h2 h3 .nil pass0 hdb
end
theorem pe_ty {X : Cx} {x : Str} {T : String} {pos : Pos} (hg : Gl X x) (hm : X.mg x = none) (hv : bootBuiltins x = some (.type T)) (hn : x ≠ "__name__" := by decide) (hd : (x == ("__debug__" : Str)) = false := by decide) : PE X (.Name x pos) (tC (.ty T)) :=
  pe_bltn (v := .ty T) hg hm hv rfl hn hd
def SealAt (K : PySem.W.Frag) (mg : Str → Option Value) (st : Stmt) (S : Sl) (H : Hp) (f : Addr) : Prop := match S with
  | .plain => mg "_law_plain" = some (.ref f) ∧ ∃ oc od fd sl, K.lookup f = some ⟨oc, od, .func fd, sl⟩
  | .turned => mg "_law_turned" = some (.ref f) ∧ ∃ oc od fd sl, K.lookup f = some ⟨oc, od, .func fd, sl⟩
  | .num d => ∃ (c c' : Addr) (doc pm ct : Value) (ob co : Obj) (cvs : Array Value) (tk : Tok) (kvs : List (List Key × V)),
      H f = some (.frz (PySem.W.fnMade "_law_numbered" "_law_numbering.<locals>._law_numbered" (defArgs st) (defBody st) (defScope st) [("_law_told", c)] doc pm c' ct) (.own 0)) ∧
      H c' = some (.frz ob (.own 0)) ∧ ob.data = .fields cvs ∧ cvs[1]? = some (.str "_law_numbering.<locals>._law_numbered" tk) ∧ H c = some (.frz co (.own 0)) ∧ co.data = .cell (some (.ref d)) ∧ H d = some (.dT kvs) ∧ Ints kvs
section
variable {K : PySem.W.Frag} {mg : Str → Option Value} {st : Stmt} {S : Sl} {H H' : Hp} {f : Addr}
theorem SealAt.told (h : SealAt K mg st S H f) : Told S H := fun d e => by
  cases S with
  | plain => cases e
  | turned => cases e
  | num d' =>
    obtain rfl : d' = d := Option.some.inj e
    obtain ⟨c, c', doc, pm, ct, ob, co, cvs, tk, kvs, _, _, _, _, _, _, h, _⟩ := h
    exact ⟨kvs, h⟩
theorem SealAt.up {n : Nat} (h : SealAt K mg st S H f) (g : Gn S n H H') : SealAt K mg st S H' f := by
  cases S with
  | plain => exact h
  | turned => exact h
  | num d =>
    obtain ⟨c, c', doc, pm, ct, ob, co, cvs, tk, kvs, h1, h2, h3, h4, h5, h6, h7, h8⟩ := h
    obtain ⟨k, m, e1, e2, _, e4⟩ := g.told d rfl
    rw [h7] at e1; cases e1
    exact ⟨c, c', doc, pm, ct, ob, co, cvs, tk, _, g.keep _ _ h1 rfl, g.keep _ _ h2 rfl, h3, h4, g.keep _ _ h5 rfl, h6, e2, e4 h8⟩
theorem SealAt.fny (h : SealAt K mg st S H f) : Fny K H f := by
  cases S with
  | plain => exact .inl h.2
  | turned => exact .inl h.2
  | num d =>
    obtain ⟨c, c', doc, pm, ct, ob, co, cvs, tk, kvs, h1, _⟩ := h
    exact .inr ⟨_, _, _, _, _, h1⟩
end
def spSeal (K : PySem.W.Frag) (mg : Str → Option Value) (st : Stmt) : Addr → Sp := fun f vs H Q _ => ∃ S m t1 t2 v1 v2, SealAt K mg st S H f ∧ Cap S H 1 ∧ vs = [.str m, v1, v2] ∧ isT S H t1 v1 ∧ isT S H t2 v2 ∧
  ∀ v H', Gr S 1 H H' → isT S H' (.nd m t1 t2) v → Q v H'
def spPlain : Sp := fun vs H Q _ => ∃ m v1 v2, vs = [.str m, v1, v2] ∧ ∀ p, H p = none → Q (.ref p) (upd H p (.tup [.str m, v1, v2]))
def spTurned : Sp := fun vs H Q _ => ∃ m v1 v2, vs = [.str m, v1, v2] ∧ ∀ p, H p = none → Q (.ref p) (upd H p (.tup [.str "seal of", v2, v1, .str m]))
abbrev mot : List Str := ["_law_mark", "_law_one", "_law_two"]
end L2
namespace L2
open PySem PySem.Spec PyProof.Rows
def BmAt (mg : Str → Option Value) (h : Heap) : Prop := ∃ bm ob, mg "__builtins__" = some (.ref bm) ∧ bm ≠ builtinsNs ∧ h.get? bm = some ob ∧ ob.cls = .type "module" ∧ ob.dict = some builtinsNs ∧ ob.data = .plain
theorem law_callT {P : Program} {w : World} {K : PySem.W.Frag} {mg mb : Str → Option Value} {k : Nat} {fa a c0 Pt : Addr} {fd : FuncData} {x : Str} {sp : Sp} {s₁ : Shared} {vs : List Value} {ns : List Int}
    (KX : K.In s₁.heap) (hns : s₁.heap.Ns mainGlobals mg) (hb : s₁.heap.Ns builtinsNs mb) (hbb : ∀ x : Str, x ≠ "__name__" → mb x = bootBuiltins x) (hlim : s₁.heap.NoLimit) (hg : s₁.gens = #[])
    (ha : s₁.heap.get? a = some { cls := .type "list", data := .seq vs.toArray }) (hi : IntsAre vs ns) (hl : ns.length ≤ sizeLine) (hr : Room k callerA)
    (hC : PySem.W.CodeHd s₁.heap c0 Pt) (hT : s₁.heap.get? Pt = some (PySem.W.tabObj #[])) (hnt : PySem.W.noTabs K = true) (hbm : BmAt mg s₁.heap)
    (F : ∀ base : Heap, K.In base → base.Ns mainGlobals mg → PySem.W.CodeHd base c0 Pt → BmAt mg base → FnOk P w K mg base CX0 k fa fd [x] sp) (hbind : ∀ (s : Shared) (u : Value), BindsTo s fd ⟨[u], []⟩ [(x, u)])
    (hsp : ∀ H : Hp, SqL K H a (ns.map V.int) → Scr K H a (ns.map V.int) → H Pt = some (.tbl #[]) → sp [.ref a] H (fun v _ => v = .bl true) fun _ _ _ => False) :
    codeAny (model P w) callerA (.call (.ref fa) ⟨[.ref a], []⟩) (fun r s' => r = .ok (.ret (.bool true)) ∧ OldK s₁.heap s'.heap ∧ s'.os = s₁.os ∧ AllBare s'.gens) s₁ := by
  have rv := vals_ints hi
  have lenV := hi.length
  have hKP : K.lookup Pt = none := by
    cases q : K.lookup Pt with
    | none => rfl
    | some o =>
      have e := KX _ _ q
      rw [hT] at e; cases e
      have h2 := List.all_eq_true.mp hnt (Pt, PySem.W.tabObj #[]) (PySem.W.mem_of_lookupK q)
      exact absurd (show false = true from h2) Bool.false_ne_true
  have haP : a ≠ Pt := by rintro rfl; rw [hT] at ha; cases ha
  have core : ∀ H : Hp, SqL K H a (ns.map V.int) → Scr K H a (ns.map V.int) → H Pt = some (.tbl #[]) → HOk P w H s₁.heap → (∀ b, H b ≠ none → b = Pt ∨ (b = a ∧ K.lookup a = none ∧ ∃ o xs, H b = some (.frz o (.lst xs)))) →
      codeAny (model P w) callerA (.call (.ref fa) ⟨[.ref a], []⟩) (fun r s' => r = .ok (.ret (.bool true)) ∧ OldK s₁.heap s'.heap ∧ s'.os = s₁.os ∧ AllBare s'.gens) s₁ := by
    intro H hS hScr hP hok hA
    have base_of : ∀ {b : Addr} {o : Obj}, s₁.heap.get? b = some o → H b = none → (hidT s₁.heap H).get? b = some o := fun e n => hidT_get e n
    have noT : ∀ {b : Addr} {o : Obj}, s₁.heap.get? b = some o → o.cls ≠ .none → o.cls ≠ .type "list" → H b = none := fun {b o} e d1 d2 => by
      cases q : H b with
      | none => rfl
      | some u =>
        rcases hA b (by rw [q]; simp) with z | ⟨z, _⟩
        · subst z; rw [hT] at e; cases e; exact absurd rfl d1
        · subst z; rw [ha] at e; cases e; exact absurd rfl d2
    have noA : ∀ {b : Addr} {o : Obj} {es : Array DictEntry} {ep : Nat}, s₁.heap.get? b = some o → o.data = .dict es ep → H b = none := fun {b o es ep} e d => by
      cases q : H b with
      | none => rfl
      | some u =>
        rcases hA b (by rw [q]; simp) with z | ⟨z, _⟩
        · subst z; rw [hT] at e; cases e; cases d
        · subst z; rw [ha] at e; cases e
          have d' : Data.seq vs.toArray _ = Data.dict es ep := d
          cases d'
    have nsK : ∀ {b : Addr} {m : Str → Option Value}, s₁.heap.Ns b m → (hidT s₁.heap H).Ns b m := fun {b m} ⟨o, es, ep, e, d, r⟩ => ⟨o, es, ep, base_of e (noA e d), d, r⟩
    have hKb : K.In (hidT s₁.heap H) := fun b o e => base_of (KX b o e) (by
      cases q : H b with
      | none => rfl
      | some u =>
        rcases hA b (by rw [q]; simp) with z | ⟨z, z2, _⟩
        · subst z; rw [hKP] at e; cases e
        · subst z; rw [z2] at e; cases e)
    have hCb : PySem.W.CodeHd (hidT s₁.heap H) c0 Pt := by
      obtain ⟨o, vs', file, tf, flags, tg, inF, text, tt, e1, r1, r⟩ := hC
      exact ⟨o, vs', file, tf, flags, tg, inF, text, tt, base_of e1 (noT e1 (by rw [r1]; nofun) (by rw [r1]; decide)), r1, r⟩
    have hBb : BmAt mg (hidT s₁.heap H) := by
      obtain ⟨bm, ob, b1, b2, b3, b4, r⟩ := hbm
      exact ⟨bm, ob, b1, b2, base_of b3 (noT b3 (by rw [b4]; nofun) (by rw [b4]; decide)), b4, r⟩
    have hM : Mod K mg (hidT s₁.heap H) := ⟨hKb, nsK hns, ⟨mb, nsK hb, hbb⟩, let ⟨mc, h1, h2⟩ := hlim; ⟨mc, nsK h1, h2⟩⟩
    have e0 : Env0 P w K mg (hidT s₁.heap H) callerA [] s₁ H := ⟨rfl, hM, fun b o e => of_hidT e, Nat.le_of_eq (hidT_size _ _), trivial, fun b hb => absurd (show b ∈ ([] : List Addr) from hb) (by simp), hok, .of_eq hg⟩
    refine codeAny_mono ((F _ hKb (nsK hns) hCb hBb).run callerA [] s₁ H ⟨[.ref a], []⟩ [.ref a] [.ref a] _ _ hr e0 (hbind s₁ (.ref a)) (.cons rfl .nil) (hsp H hS hScr hP)) fun r s' h => ?_
    cases r with
    | error e => exact (show False from h).elim
    | ok fl =>
      cases fl with
      | next => exact False.elim h
      | brk => exact False.elim h
      | cont => exact False.elim h
      | ret u =>
        obtain ⟨v, H', os, bare, un, hok', r', q⟩ := h
        have q' : v = .bl true := q
        subst q'
        obtain rfl : u = Value.bool true := r'
        have kp : ∀ b o, s₁.heap.get? b = some o → b ≠ Pt → s'.heap.get? b = some o := fun b o e hbP => by
          cases q : H b with
          | none => exact un.keep b o e q (by intro z; exact absurd (show b ∈ ([] : List Addr) from z) (by simp)) (by simp)
          | some u =>
            rcases hA b (by rw [q]; simp) with z | ⟨z, _, ob, xs, z2⟩
            · exact absurd z hbP
            · have z3 := un.frzs b ob _ z2
              obtain ⟨e1, _⟩ := hok b _ z2
              obtain ⟨e2, _⟩ := hok' b _ z3
              rw [e] at e1; cases e1
              exact e2
        obtain ⟨more, hm⟩ := un.tbls Pt #[] hP
        have hP' : s'.heap.get? Pt = some (PySem.W.tabObj (#[] ++ more)) := hok' _ _ hm
        refine ⟨rfl, ⟨fun b o e => ?_, fun b o e => ?_⟩, os, bare⟩
        · by_cases hbP : b = Pt
          · subst hbP
            rw [hT] at e; cases e
            exact .inr (.inl ⟨(hC.tab hT).isCodeTable, rfl, #[], more, rfl, hP'⟩)
          · exact .inl (kp b o e hbP)
        · by_cases hbP : b = Pt
          · subst hbP; exact ⟨_, hP'⟩
          · exact ⟨o, kp b o e hbP⟩
  cases hk : K.lookup a with
  | some o =>
    have e := KX a o hk
    rw [ha] at e
    cases e
    refine core (fun b => if b = Pt then some (.tbl #[]) else none) (.inr ⟨_, vs.toArray, _, hk, rfl, rfl, rfl, by rw [List.size_toArray, lenV]; exact hl, by simpa using rv⟩)
      ⟨vs, _, rv, by rw [List.length_map]; exact hl, .inr hk⟩ (if_pos rfl) (fun b u z => ?_) (fun b z => ?_)
    · by_cases hb : b = Pt
      · have z' := (if_pos hb).symm.trans z
        cases z'; subst hb; exact hT
      · have z' := (if_neg hb).symm.trans z
        cases z'
    · by_cases hb : b = Pt
      · exact .inl hb
      · exact absurd (if_neg hb) z
  | none =>
    have eH : (fun b => if b = Pt then some (.tbl #[]) else if b = a then some (.frz { cls := .type "list", data := .seq vs.toArray } (.lst (ns.map V.int))) else none : Hp) a = some (.frz { cls := .type "list", data := .seq vs.toArray } (.lst (ns.map V.int))) := by
      show (if a = Pt then _ else if a = a then _ else _) = _
      rw [if_neg haP, if_pos rfl]
    refine core (fun b => if b = Pt then some (.tbl #[]) else if b = a then some (.frz { cls := .type "list", data := .seq vs.toArray } (.lst (ns.map V.int))) else none) (.inl (.inr ⟨{ cls := .type "list", data := .seq vs.toArray }, eH⟩))
      ⟨vs, _, rv, by rw [List.length_map]; exact hl, .inl ⟨_, eH⟩⟩ (if_pos rfl) (fun b u z => ?_) (fun b z => ?_)
    · by_cases hb : b = Pt
      · have z' := (if_pos hb).symm.trans z
        cases z'; subst hb; exact hT
      · have z1 := (if_neg hb).symm.trans z
        by_cases hb2 : b = a
        · have z2 := (if_pos hb2).symm.trans z1
          cases z2
          subst hb2
          exact ⟨ha, by rw [List.length_map]; exact hl, vs, _, rv, ha⟩
        · have z2 := (if_neg hb2).symm.trans z1
          cases z2
    · by_cases hb : b = Pt
      · exact .inl hb
      · by_cases hb2 : b = a
        · exact .inr ⟨hb2, hk, _, _, by rw [if_neg hb, if_pos hb2]⟩
        · exact absurd (by rw [if_neg hb, if_neg hb2]) z
theorem walk_ofT {l : PySem.W.OpenLaw} {n k : Nat} {q : Program} {loose : List Str} {XP : (Str → Option Value) → Heap → Prop} {YP : World → Heap → Prop} {d dt : DefRec} {K : Params → PySem.W.Frag} {sp : PySem.W.Frag → (Str → Option Value) → Addr → Sp} {x xn : Str} {c0 Pt : Addr}
    (hn : l.most = some n) (hn2 : n ≤ sizeLine) (hdf : d.params.defaults = []) (hr : Room k callerA)
    (hY : ∀ (w : World) (h : Heap), YP w h → (K w.params).In h) (hrec : (recsOf q).find? (fun e => e.name == xn) = some dt)
    (ht : ∀ w : World, PySem.W.tabIn (K w.params) xn = some (c0, Pt)) (hnt : ∀ w : World, PySem.W.noTabs (K w.params) = true)
    (F : ∀ (w : World) (mg : Str → Option Value) (fa : Addr) (h : Heap), (K w.params).In h → h.Ns mainGlobals mg → mg d.name = some (.ref fa) → PySem.W.tabIn (K w.params) xn = some (c0, Pt) →
      ∃ fd : FuncData, (∀ (s : Shared) (u : Value), BindsTo s fd ⟨[u], []⟩ [(x, u)]) ∧
        ∀ base : Heap, (K w.params).In base → base.Ns mainGlobals mg → PySem.W.CodeHd base c0 Pt → BmAt mg base → FnOk l.prog w (K w.params) mg base CX0 k fa fd [x] (sp (K w.params) mg Pt))
    (hsp : ∀ (K : PySem.W.Frag) (mg : Str → Option Value) (Pt : Addr) (H : Hp) (a : Addr) (ns : List Int), ns.length ≤ n → SqL K H a (ns.map V.int) → Scr K H a (ns.map V.int) → H Pt = some (.tbl #[]) → sp K mg Pt [.ref a] H (fun v _ => v = .bl true) fun _ _ _ => False) :
    PySem.W.WalkO q loose XP YP l.row.toRowW d [] (fun f vs => PySem.call f vs) := by
  refine Att.attach_call hn hdf fun w s₀ s₁ mg mb fa o pm cd doc a vs ns G Y ho hd hcd hmg hobj hints hlen hg => ?_
  have KX := hY w _ Y
  obtain ⟨fd, hb, hF⟩ := F w mg fa _ KX G.T.g hmg (ht w)
  obtain ⟨hC, hT⟩ := PySem.W.tab_of G.T KX hrec (ht w)
  exact law_callT KX G.T.g G.T.b G.T.builtins G.T.nolimit hg hobj hints (Nat.le_trans hlen hn2) hr hC hT (hnt w) G.T.bmain hF hb fun H hS hScr hP => hsp _ mg _ H a ns hlen hS hScr hP
end L2
namespace L2
open PySem PySem.Spec PyProof.Rows
theorem law_fn {P : Program} {w : World} {K : PySem.W.Frag} {mg : Str → Option Value} {c0 Pt : Addr} {k : Nat} {sp : Sp} {x name : Str} {ps : List Str} {st : Stmt} {fa : Addr} (hmg : mg name = some (.ref fa)) (F : FunAt K mg name st)
    (h : ∀ base : Heap, K.In base → base.Ns mainGlobals mg → PySem.W.CodeHd base c0 Pt → BmAt mg base → FnP P w K mg base k name ps sp)
    (hps : ps = [x] := by rfl) (hbind : ∀ (kV doc pm : Value) (an : Option Addr) (cdv ct u : Value), bindArgs (PySem.W.fnOf name name (defArgs st) (defBody st) (defScope st) .none kV doc pm an cdv ct) ⟨[u], []⟩ = pure [(x, u)] := by intros; rfl) :
    ∃ fd : FuncData, (∀ (s : Shared) (u : Value), BindsTo s fd ⟨[u], []⟩ [(x, u)]) ∧ ∀ base : Heap, K.In base → base.Ns mainGlobals mg → PySem.W.CodeHd base c0 Pt → BmAt mg base → FnOk P w K mg base CX0 k fa fd [x] sp := by
  subst hps
  obtain ⟨f, fd, h1, F⟩ := F
  have e := hmg.symm.trans h1
  cases e
  obtain ⟨oc, od, kV, doc, pm, an, cdv, ct, osl, rfl, lk, hcd⟩ := F.ex
  refine ⟨_, fun s u => .of_eq (hbind kV doc pm an cdv ct u), fun base kb nb hC hB => ?_⟩
  obtain ⟨f', fd', h1', h2', h3', h4', oc2, od2, sl2, lk2⟩ := h base kb nb hC hB
  have e := h1.symm.trans h1'
  cases e
  rw [lk] at lk2
  cases lk2
  exact h4'
end L2
namespace L2
open PySem PySem.Spec PyProof.Rows
theorem tabIn_mk {K : PySem.W.Frag} {x : Str} {f c P : Addr} {oc o1 : Value} {od o2 : Option Addr} {fd : FuncData} {sl s2 : Array (Option Value)} {vs : Array Value} (a : PySem.W.nsIn K mainGlobals x = some (some (.ref f))) (l : K.lookup f = some ⟨oc, od, .func fd, sl⟩) (hc : fd.code = .ref c)
    (lc : K.lookup c = some ⟨o1, o2, .fields vs, s2⟩) (v : vs[11]? = some (.ref P)) : PySem.W.tabIn K x = some (c, P) := by
  unfold PySem.W.tabIn
  rw [a]
  dsimp only
  rw [l]
  dsimp only
  rw [hc]
  dsimp only
  rw [lc]
  dsimp only
  rw [v]
end L2
namespace L2
open PySem PySem.Spec PyProof.Rows
theorem pe_callVK {X : Cx} {CX : CXT} {k : Nat} {sp : Addr → Sp} {E : XK} {x : Str} {p pos : Pos} {e : Expr} {es : List Expr} {t : TA} {i : Nat} (K : PySem.W.Frag) (hK : X.K = K) (F : CallOk X.prog X.w X.K X.mg X.base CX k sp) (hr : Room k X.A) (hx : Passes CX X E) (hN : X.N[i]? = some x) (hv : Vis X.env.scope x) (ha : PA X (e :: es) t)
    (hdb : (x == ("__debug__" : Str)) = false := by decide) (hcd : (x == ("__classdict__" : Str)) = false := by decide)
    (he : starEach (e :: es) X.env = (false, eval e X.env) :: starEach es X.env := by rfl) (hpl : (backTo pos (starEach es X.env)).any (·.1) = false := by rfl) :
    PE X (.Call (.Name x p) (e :: es) [] pos) (tCallV K i sp E t) := by subst hK; exact pe_callV F hr hx hN hv ha hdb hcd he hpl
theorem ix_tupK {X : Cx} (K : PySem.W.Frag) (hK : X.K = K) : IxR X (rIxT K) := by subst hK; exact ix_tup
end L2
namespace L2
open PySem PySem.Spec PyProof.Rows
def MethAt (K : PySem.W.Frag) (C : Addr) (m qual : Str) (st : Stmt) : Prop := ∃ f fd, Meth K C m f ∧ Fun K m qual st f fd
theorem methAt_mk {K : PySem.W.Frag} {C : Addr} {m qual : Str} {st : Stmt} {f : Addr} {oc : Value} {od an : Option Addr} {osl : Array (Option Value)} {kV doc pm cdv ct : Value} (a : PySem.W.findIn K (.ref C) m = some (some (.ref f))) (i : PySem.W.isFn K (.ref f) = true)
    (l : K.lookup f = some ⟨oc, od, .func (PySem.W.fnOf m qual (defArgs st) (defBody st) (defScope st) .none kV doc pm an cdv ct), osl⟩) (c : PySem.W.codeIn K cdv qual = true) (k : PySem.W.keepIn K (.ref f) = true) : MethAt K C m qual st := ⟨f, _, ⟨a, i, k⟩, fun_mk l c k⟩
def MtP (P : Program) (w : World) (K : PySem.W.Frag) (mg : Str → Option Value) (base : Heap) (C : Addr) (k : Nat) (m : Str) (ps : List Str) (sp : Sp) : Prop := ∃ f fd, Meth K C m f ∧ Binds K fd ps [] ∧ FnOk P w K mg base CX0 k f fd ps sp
section
variable {P : Program} {w : World} {K : PySem.W.Frag} {mg : Str → Option Value} {base : Heap} {C : Addr}
theorem MethAt.ok {m qual : Str} {st : Stmt} {N ps : List Str} {k : Nat} {sp : Sp} (F : MethAt K C m qual st) (S : FnScope N ps (defScope st))
    (hb : ∀ (kV doc pm : Value) (an : Option Addr) (cdv ct : Value) (us : List Value), us.length = ps.length → bindArgs (PySem.W.fnOf m qual (defArgs st) (defBody st) (defScope st) .none kV doc pm an cdv ct) ⟨us, []⟩ = pure (ps.zip us))
    (len : ∀ vs H Q E, sp vs H Q E → vs.length = ps.length)
    (hbody : ∀ (f : Addr) (cdv : Value) (A : Around) (outer : List Env) (s : Shared) (H : Hp) (vs : List V) (Q : VK) (E : XK), Room k (A.deeper (envOfC qual (defScope st) s.heap.objs.size f cdv)) → sp vs H Q E →
      ∃ t, PSs (cxOf CX0 P w K mg base N qual (defScope st) f cdv A outer s H E).nox (defBody st) t ∧ t { nx := fun _ H' => Q .non H', rt := Q } (start N vs) H) : MtP P w K mg base C (k + 1) m ps sp := by
  obtain ⟨f, fd, h1, F⟩ := F
  exact ⟨f, fd, h1, F.binds hb, F.ok S len fun cdv A outer s H vs Q E => hbody f cdv A outer s H vs Q E⟩
end
section
variable {X : Cx} {C : Addr} {k : Nat} {ps : List Str} {sp : Sp} {m : Str} {o e : Expr} {es : List Expr} {ta : TE} {t : TA} {apos pos : Pos}
theorem pe_methN {pl : Sem Bool} (F : MtP X.prog X.w X.K X.mg X.base C k m ps sp) (he : PE X o ta) (c : Cls X.K C) (hr : Room k X.A) (ha : PA X (e :: es) t)
    (hst : starEach (e :: es) X.env = (false, eval e X.env) :: starEach es X.env := by rfl) (hpl : (backTo pos (starEach es X.env)).any (·.1) = false := by rfl)
    (ht : eval (.Call (.Attribute o m apos) (e :: es) [] pos) X.env = (do
      let ov ← eval o X.env
      standAt apos.atName
      let (f, first) ← holding [ov] (getMethod ov m pl)
      callWith pos f first (backTo pos (starEach (e :: es) X.env)) (backToKw pos (keywordEach [] X.env))) := by rfl) :
    PE X (.Call (.Attribute o m apos) (e :: es) [] pos) (tMeth C m sp [] E0 ta t) := by
  obtain ⟨f, fd, h1, h3, h4⟩ := F
  exact pe_meth he c h1 h4 hr h3 .nil pass0 ha hst hpl ht
theorem pe_methN0 {pl : Sem Bool} (F : MtP X.prog X.w X.K X.mg X.base C k m ps sp) (he : PE X o ta) (c : Cls X.K C) (hr : Room k X.A)
    (ht : eval (.Call (.Attribute o m apos) [] [] pos) X.env = (do
      let ov ← eval o X.env
      standAt apos.atName
      let (f, first) ← holding [ov] (getMethod ov m pl)
      callWith pos f first (backTo pos (starEach [] X.env)) (backToKw pos (keywordEach [] X.env))) := by rfl) :
    PE X (.Call (.Attribute o m apos) [] [] pos) (tMeth C m sp [] E0 ta tNil) := by
  obtain ⟨f, fd, h1, h3, h4⟩ := F
  exact pe_meth0 he c h1 h4 hr h3 .nil pass0 ht
end
end L2
namespace Gb
section
variable {α : Type} (nl : α) (pr : α → α → α)
def turnsT (n p : Nat) : List Bool :=
  if h : n < 2 then [] else if p < spl n then true :: turnsT (spl n) p else false :: turnsT (n - spl n) (p - spl n)
termination_by n
decreasing_by
  · exact spl_lt (by omega)
  · have := spl_pos n; omega
theorem turnsT_few {n p : Nat} (h : n < 2) : turnsT n p = [] := by rw [turnsT, dif_pos h]
theorem turnsT_low {n p : Nat} (h : 2 ≤ n) (h2 : p < spl n) : turnsT n p = true :: turnsT (spl n) p := by rw [turnsT, dif_neg (by omega), if_pos h2]
theorem turnsT_high {n p : Nat} (h : 2 ≤ n) (h2 : ¬ p < spl n) : turnsT n p = false :: turnsT (n - spl n) (p - spl n) := by rw [turnsT, dif_neg (by omega), if_neg h2]
def rise : List Bool → List α → α → α
  | u :: us, o :: os, x => rise us os (if u then pr x o else pr o x)
  | _, _, x => x
theorem rise_snoc : ∀ {us : List Bool} {os : List α} {u : Bool} {o x : α}, us.length = os.length → rise pr (us ++ [u]) (os ++ [o]) x = if u then pr (rise pr us os x) o else pr o (rise pr us os x)
  | [], [], u, o, x, _ => rfl
  | v :: us, p :: os, u, o, x, h => by
    show rise pr (us ++ [u]) (os ++ [o]) _ = _
    rw [rise_snoc (by simpa using h)]
    rfl
theorem path_turns : ∀ (n : Nat) (ts : List α) (p : Nat), ts.length = n → p < n → (pathT nl pr ts p).length = (turnsT n p).length ∧ ∀ x, ts[p]? = some x → rise pr (turnsT n p).reverse (pathT nl pr ts p) x = topT nl pr ts := by
  intro n
  induction n using Nat.strongRecOn with
  | ind n ih =>
    intro ts p hn hp
    by_cases h : n < 2
    · rw [pathT_few nl pr (by omega), turnsT_few h]
      refine ⟨rfl, fun x hx => ?_⟩
      have h1 : n = 1 := by omega
      subst h1
      obtain ⟨t, rfl⟩ := List.length_eq_one_iff.mp hn
      have : p = 0 := by omega
      subst this
      simp at hx
      rw [topT_one, ← hx]; rfl
    · have h2 : 2 ≤ ts.length := by omega
      have a1 := spl_lt h2
      have a2 := spl_pos ts.length
      by_cases hq : p < spl n
      · have hq' : p < spl ts.length := by rw [hn]; exact hq
        rw [pathT_low nl pr h2 hq', turnsT_low (by omega) hq, topT_more nl pr h2]
        obtain ⟨i1, i2⟩ := ih (spl n) (by rw [← hn]; exact a1) (ts.take (spl ts.length)) p (by simp; rw [hn]; rw [hn] at a1; omega) hq
        refine ⟨by simp [i1], fun x hx => ?_⟩
        rw [List.reverse_cons, rise_snoc pr (by simp [i1])]
        rw [i2 x (by rw [List.getElem?_take_of_lt hq']; exact hx)]
        rfl
      · have hq' : ¬ p < spl ts.length := by rw [hn]; exact hq
        rw [pathT_high nl pr h2 hq', turnsT_high (by omega) hq, topT_more nl pr h2]
        have e1 : (ts.drop (spl ts.length)).length = n - spl n := by simp; rw [hn]
        have b2 : 1 ≤ spl n := spl_pos n
        have b1 : spl n < n := spl_lt (by omega)
        obtain ⟨i1, i2⟩ := ih (n - spl n) (by omega) (ts.drop (spl ts.length)) (p - spl ts.length) e1 (by rw [hn]; omega)
        rw [hn] at i1 i2 ⊢
        refine ⟨by simp [i1], fun x hx => ?_⟩
        rw [List.reverse_cons, rise_snoc pr (by simp [i1])]
        rw [i2 x (by rw [List.getElem?_drop, show spl n + (p - spl n) = p by omega]; exact hx)]
        rfl
theorem turns_len : ∀ (j n p : Nat), n ≤ 2 ^ j → (turnsT n p).length ≤ j
  | j, n, p, h => by
    by_cases h2 : n < 2
    · rw [turnsT_few h2]; simp
    match j, h with
    | 0, h => simp at h; omega
    | j + 1, h =>
      have a1 := spl_lt (n := n) (by omega)
      have a2 := spl_ge (n := n) (by omega)
      have c : spl n ≤ 2 ^ j := by
        unfold spl
        refine Nat.pow_le_pow_right (by omega) ?_
        have : 2 ^ Nat.log2 (n - 1) < 2 ^ (j + 1) := Nat.lt_of_lt_of_le (spl_lt (by omega)) h
        have := (Nat.pow_lt_pow_iff_right (by omega : 1 < 2)).mp this
        omega
      by_cases h3 : p < spl n
      · rw [turnsT_low (by omega) h3]
        have := turns_len j (spl n) p c
        simp; omega
      · rw [turnsT_high (by omega) h3]
        have := turns_len j (n - spl n) (p - spl n) (by omega)
        simp; omega
theorem rise_take {us : List Bool} {os : List α} {i : Nat} {u : Bool} {o x : α} (hl : us.length = os.length) (hu : us[i]? = some u) (ho : os[i]? = some o) :
    rise pr (us.take (i + 1)) (os.take (i + 1)) x = if u then pr (rise pr (us.take i) (os.take i) x) o else pr o (rise pr (us.take i) (os.take i) x) := by
  have e1 : us.take (i + 1) = us.take i ++ [u] := by rw [List.take_add_one, hu]; rfl
  have e2 : os.take (i + 1) = os.take i ++ [o] := by rw [List.take_add_one, ho]; rfl
  rw [e1, e2, rise_snoc pr (by simp [hl])]
end
end Gb
namespace L2
open PySem PySem.Spec PyProof.Rows
theorem ObjOk.there {P : Program} {w : World} {H : Hp} {h : Heap} {a : Addr} {o : HO} (x : ObjOk P w H h a o) : ∃ ob, h.get? a = some ob := by
  cases o with
  | lst xs => obtain ⟨_, _, _, _, e⟩ := x; exact ⟨_, e⟩
  | tup xs => obtain ⟨_, _, _, o, e, _⟩ := x; exact ⟨_, e⟩
  | dK kvs => obtain ⟨_, _, _, _, o, _, _, e, _⟩ := x; exact ⟨_, e⟩
  | dT kvs => obtain ⟨_, _, _, _, o, _, _, e, _⟩ := x; exact ⟨_, e⟩
  | set S n => obtain ⟨o, _, _, _, e, _⟩ := x; exact ⟨_, e⟩
  | ins C dx fs => obtain ⟨_, _, _, e, _⟩ := x; exact ⟨_, e⟩
  | own y => exact x
  | xd fs => obtain ⟨_, ⟨_, _, _, e, _⟩, _⟩ := x; exact ⟨_, e⟩
  | rng lo hi => obtain ⟨_, _, _, e⟩ := x; exact ⟨_, e⟩
  | frz ob u => obtain ⟨e, _⟩ := x; exact ⟨_, e⟩
  | tbl ps => exact ⟨_, (show h.get? a = some _ from x)⟩
  | met f y => exact ⟨_, (show h.get? a = some _ from x)⟩
  | ext φ => obtain ⟨_, e, _⟩ := x; exact e
def quietIn (K : PySem.W.Frag) (N : Addr) : Bool := PySem.W.nsOkIn K N && quietNames.all fun n => PySem.W.nsIn K N n == some none
def tailQ (K : PySem.W.Frag) (bmB : List Value) : List Value → Bool
  | [] => bmB == []
  | v :: r => (v :: r == bmB) || match v with
    | .ref A => (match List.lookup A K with
      | some ⟨_, _, .cls cd, _⟩ => quietIn K cd.ns && tailQ K bmB r
      | _ => false)
    | _ => false
theorem quietIn.ns {K : PySem.W.Frag} {N : Addr} {h : Heap} (X : K.In h) (q : quietIn K N = true) : ∃ mN, h.Ns N mN ∧ ∀ n ∈ quietNames, mN n = none := by
  have q := Bool.and_eq_true_iff.mp q
  have nsI := Heap.Ns.of_isNs (PySem.W.isNs_of_in X q.1)
  refine ⟨_, nsI, fun n hn => ?_⟩
  have z := List.all_eq_true.mp q.2 n hn
  exact PySem.W.nsMap_none_of_in X q.1 (eq_of_beq z)
theorem tailQ.ok {K : PySem.W.Frag} {bmB : List Value} {h : Heap} (X : K.In h) : ∀ {l : List Value}, tailQ K bmB l = true → OwnTailQ h bmB l
  | [], q => by
    have e : bmB = [] := eq_of_beq (show (bmB == []) = true from q)
    subst e; exact .base
  | v :: r, q => by
    unfold tailQ at q
    rcases Bool.or_eq_true_iff.mp q with q | q
    · have e : v :: r = bmB := eq_of_beq q
      subst e; exact .base
    · split at q
      · split at q
        · next A _ c0 dd cd sl lk =>
          have q := Bool.and_eq_true_iff.mp q
          obtain ⟨mA, h1, h2⟩ := quietIn.ns X q.1
          exact .own (X _ _ lk) h1 h2 (tailQ.ok X q.2)
        · cases q
      · cases q
structure XCls (K : PySem.W.Frag) (C : Addr) : Prop where
  ex : ∃ (nm q : Str) (N : Addr) (bs bm bmB : List Value) (hdct : Bool) (sn : List Str) (sub : List Value) (ab : Bool) (col : Option Bool) (dd : Option Addr) (k0 k1 k2 k3 k5 : Option Value) (newId B nid initId Bn inN : String) (bmN : List Value),
    K.lookup C = some (excClassObj nm q C N bs bm hdct sn sub ab col dd k0 k1 k2 k3 k5 newId) ∧ quietIn K N = true ∧ tailQ K bmB bm = true ∧ bm.contains (Value.type "BaseException") = true ∧
    ExcBaseFacts Bn newId inN bmN ∧ bmB.contains (Value.type Bn) = true ∧ ExcBaseFacts B nid initId bmB ∧ ExcAttrBase B bmB
  ga : PySem.W.findIn K (.ref C) "__getattribute__" = some (some (.builtin "BaseException.__getattribute__"))
  gn : PySem.W.findIn K (.ref C) "__getattr__" = some none
  fo : PySem.W.findIn K (.ref C) "__class__" = some (some (.builtin "object.__class__"))
  sp : PySem.W.specialIn K (.builtin "object.__class__") "__get__" = some (some (.builtin "getset_descriptor.__get__"))
  tk : PySem.W.takesIn K (.builtin "object.__class__") = some true
  mo : PySem.W.mroIn K C (.type "object") = some true
theorem xcls_mk {K : PySem.W.Frag} {C : Addr} {nm q : Str} {N : Addr} {bs bm : List Value} {hdct : Bool} {sn : List Str} {sub : List Value} {ab : Bool} {col : Option Bool} {dd : Option Addr} {k0 k1 k2 k3 k5 : Option Value}
    (a : K.lookup C = some (excClassObj nm q C N bs bm hdct sn sub ab col dd k0 k1 k2 k3 k5 "ValueError.__new__")) (b : quietIn K N = true) (c : tailQ K [Value.type "ValueError", Value.type "Exception", Value.type "BaseException", Value.type "object"] bm = true)
    (d : bm.contains (Value.type "BaseException") = true) (ga : PySem.W.findIn K (.ref C) "__getattribute__" = some (some (.builtin "BaseException.__getattribute__"))) (gn : PySem.W.findIn K (.ref C) "__getattr__" = some none)
    (fo : PySem.W.findIn K (.ref C) "__class__" = some (some (.builtin "object.__class__"))) (sp : PySem.W.specialIn K (.builtin "object.__class__") "__get__" = some (some (.builtin "getset_descriptor.__get__")))
    (tk : PySem.W.takesIn K (.builtin "object.__class__") = some true) (mo : PySem.W.mroIn K C (.type "object") = some true) : XCls K C :=
  ⟨⟨nm, q, N, bs, bm, _, hdct, sn, sub, ab, col, dd, k0, k1, k2, k3, k5, _, _, _, _, _, _, _, a, b, c, d, F.excBase_ValueError, by decide, F.excBase_ValueError, F.attrBase_ValueError⟩, ga, gn, fo, sp, tk, mo⟩
structure IsExc (K : PySem.W.Frag) (C : Addr) (oe : Obj) : Prop where
  x : XCls K C
  cls : oe.cls = .ref C
structure Fly (P : Program) (w : World) (outer : List Env) (H H' : Hp) (s : Shared) (C ea t : Addr) (B : Heap) (s' : Shared) : Prop where
  os : s'.os = s.os
  bare : AllBare s'.gens
  fly : B.FlyingW outer ea (.ref C) (.ref t) s'.heap
  un : Un (frs outer) [] H H' s.heap s'.heap
  hok : HOk P w H' s'.heap
  old : ∀ b o, s.heap.get? b = some o → H b = none → b ∉ frs outer → B.get? b = some o
  trk : ∀ b u, H' b = some u → b ∉ frs outer ∧ ∀ o, s'.heap.get? b = some o → B.get? b = some o
  all : ∀ b o, s.heap.get? b = some o → b ∈ frs outer ∨ ∃ o', B.get? b = some o'
def CXB (P : Program) (w : World) : CXT := fun outer H s E e s' => ∃ ea t C B H', e = .ref ea ∧ Fly P w outer H H' s C ea t B s' ∧ E (.ref C) none H'
theorem funFrames_base {h b1 b2 : Heap} : ∀ {l : List Env}, h.FunFrames b1 l → (∀ a ∈ frs l, b2.get? a = none) → h.FunFrames b2 l
  | [], _, _ => trivial
  | env :: r, x, k => by
    obtain ⟨hk, ⟨L, o, hf, hn, ho, hd⟩, hr⟩ := x
    refine ⟨hk, ⟨L, o, hf, k L (by unfold frs; rw [List.filterMap_cons, hf]; exact List.mem_cons_self), ho, hd⟩, funFrames_base hr fun a ha => k a ?_⟩
    unfold frs; rw [List.filterMap_cons, hf]; exact List.mem_cons_of_mem _ ha
def Raises (X : Cx) (E : XK) : Prop := ∀ (pins : List (Addr × Obj)) (σ : St) (H : Hp) (s : Shared) (h' : Heap) (e C : Addr) (vs : List Value), Inv X pins σ H s → s.heap.MadeExcOf h' e (.ref C) vs → E (.ref C) none H → X.xe (.ref e) { s with heap := h' }
theorem raises_cx {P : Program} {w : World} {K : PySem.W.Frag} {mg : Str → Option Value} {base : Heap} {N : List Str} {qual : Str} {scope : Scope} {f : Addr} {cd : Value} {A : Around} {outer : List Env} {s : Shared} {H : Hp} {E : XK} :
    Raises (cxOf (CXB P w) P w K mg base N qual scope f cd A outer s H E) E := by
  intro pins σ H1 s1 h' e C vs I M q
  have hfr : ∀ b ∈ frs (envOfC qual scope s.heap.objs.size f cd :: outer), H1 b = none := I.stkFree
  have hB : ∀ {b o}, s1.heap.get? b = some o → b ∉ frs (envOfC qual scope s.heap.objs.size f cd :: outer) → (PySem.W.hideAll s1.heap (frs (envOfC qual scope s.heap.objs.size f cd :: outer))).get? b = some o := fun e n => PySem.W.hideAll_get _ e n
  have hsub : ∀ b ∈ frs outer, b ∈ frs (envOfC qual scope s.heap.objs.size f cd :: outer) := fun b hb => List.mem_cons_of_mem _ hb
  have hnew : ∀ b o, s.heap.get? b = some o → b ∉ frs outer → b ∉ frs (envOfC qual scope s.heap.objs.size f cd :: outer) := fun b o e n z => by
    rcases List.mem_cons.mp (show b ∈ s.heap.objs.size :: frs outer from z) with z | z
    · exact absurd (Heap.lt_size e) (by rw [z]; exact Nat.lt_irrefl _)
    · exact n z
  obtain ⟨t0, me, mt⟩ := M.there
  refine wpAny_leaves_madeW (base := PySem.W.hideAll s1.heap (frs (envOfC qual scope s.heap.objs.size f cd :: outer))) (h := s1.heap) (outer := outer) (L := s.heap.objs.size) I.ok.frames rfl (fun b o z => PySem.W.of_hideAll _ z)
    (funFrames_base I.stack fun a ha => PySem.W.hideAll_none _ ha) M fun h2 t fly tup tn up => ?_
  have keepT : ∀ b u, H1 b = some u → b ∉ frs (envOfC qual scope s.heap.objs.size f cd :: outer) := fun b u e z => by rw [hfr b z] at e; cases e
  have old : ∀ b o, s.heap.get? b = some o → H b = none → b ∉ frs outer → (PySem.W.hideAll s1.heap (frs (envOfC qual scope s.heap.objs.size f cd :: outer))).get? b = some o := fun b o e n nf =>
    hB (I.base.keep b o e n nf (fun z => absurd (show b ∈ ([] : List Addr) from z) (by simp))) (hnew b o e nf)
  have slot : ∀ b o, s.heap.get? b = some o → b ∈ frs outer → ∃ sl, h2.get? b = some { o with slots := sl } := fun b o e hb => by
    have hn : H b = none := I.ok.frf b hb
    obtain ⟨sl, e1⟩ := I.base.slot b o e hn hb (fun z => absurd (show b ∈ ([] : List Addr) from z) (by simp))
    obtain ⟨_, o2, e2, d2⟩ := I.ok.funs.mem hb
    have e2' : s.heap.get? b = some o2 := e2
    rw [e] at e2'; cases e2'
    obtain ⟨sl2, e3⟩ := up b _ (M.keeps _ _ e1) d2
    exact ⟨sl2, e3⟩
  have all : ∀ b o, s.heap.get? b = some o → b ∈ frs outer ∨ ∃ o', (PySem.W.hideAll s1.heap (frs (envOfC qual scope s.heap.objs.size f cd :: outer))).get? b = some o' := fun b o e => by
    by_cases hb : b ∈ frs outer
    · exact .inl hb
    · obtain ⟨o', e1⟩ := I.base.there b o e (fun z => absurd (show b ∈ ([] : List Addr) from z) (by simp))
      exact .inr ⟨o', hB e1 (hnew b o e hb)⟩
  refine ⟨e, t, C, _, H1, rfl, ⟨I.os, I.bare, fly, ⟨fun b o e n nf _ => fly.1 _ _ (old b o e n nf), fun b o e n hb _ => slot b o e hb, I.base.free, fun b o e _ => ?_, I.base.tups, I.base.frzs, I.base.tbls⟩, fun a u z => ?_, old, fun b u z => ⟨fun y => keepT b u z (hsub b y), fun o zo => ?_⟩, all⟩, q⟩
  · rcases all b o e with hb | ⟨o', z⟩
    · obtain ⟨sl, z⟩ := slot b o e hb
      exact ⟨_, z⟩
    · exact ⟨o', fly.1 _ _ z⟩
  · refine (I.hok a u z).stay (fun b v hb hv => fly.1 _ _ (hB hv ?_)) (fun _ y => y) fun _ _ y => y
    rcases hb with rfl | hb
    · exact keepT _ _ z
    · exact keepT _ _ hb
  · obtain ⟨o', e1⟩ := (I.hok b u z).there
    have e2 := hB e1 (keepT b u z)
    have e3 := fly.1 _ _ e2
    rw [zo] at e3; cases e3
    exact e2
end L2
namespace L2
open PySem PySem.Spec PyProof.Rows
def tRaise (C : Addr) (E : XK) (t : TA) : TS := fun D σ H => t σ H fun vs H1 => vs.length ≤ sizeLine ∧ E (.ref C) none H1
section
variable {X : Cx}
theorem ps_raise {x : Str} {C : Addr} {E : XK} {e : Expr} {es : List Expr} {t : TA} {np cpos pos : Pos} (hx : Raises X E) (hr : X.A.handled = none) (xc : XCls X.K C) (hg : Gl X x) (hm : X.mg x = some (.ref C)) (ha : PA X (e :: es) t)
    (hdb : (x == ("__debug__" : Str)) = false := by decide) (he : starEach (e :: es) X.env = (false, eval e X.env) :: starEach es X.env := by rfl) (hpl : (backTo cpos (starEach es X.env)).any (·.1) = false := by rfl) :
    PS X (.Raise (some (.Call (.Name x np) (e :: es) [] cpos)) none pos) (tRaise C E t) := by
  intro pins s σ H D I h
  obtain ⟨nm, q, N, bs, bm, bmB, hdct, sn, sub, ab, col, dd, k0, k1, k2, k3, k5, newId, B, nid, initId, Bn, inN, bmN, lk, qn, tl, has, F1, F2, F3, F4⟩ := xc.ex
  obtain ⟨mN, hN, hq⟩ := quietIn.ns I.ok.mod.kin qn
  refine wpAny_Raise_call_subU (nm := nm) (q := q) (N := N) (bs := bs) (hdct := hdct) (sn := sn) (sub := sub) (ab := ab) (col := col) (dd := dd) (k0 := k0) (k1 := k1) (k2 := k2) (k3 := k3) (k5 := k5) F1 F2 F3 (mN := mN) has hr ?_ (hq _ (by decide)) (ld_glob I hg hm ⟨rfl, ?_⟩ hdb)
  · rw [he]; simpa [backTo] using hpl
  obtain ⟨x0, hb⟩ : ∃ x0, backTo cpos (starEach (e :: es) X.env) = (false, x0) :: backTo cpos (starEach es X.env) := by rw [he]; exact ⟨_, rfl⟩
  rw [hb]
  refine Calls.evalArgs_plain ?_
  rw [← hb]
  refine thn (ha cpos pins s σ H _ I h) fun us s1 ⟨vs, H1, I1, r, hl, q1⟩ => ?_
  have X1 := I1.kIn
  exact ⟨rfl, by show us.length ≤ _; rw [← r.length]; exact hl, X1 _ _ lk, hN.keeps I1.bk, (tailQ.ok X1 tl).tail, fun h' e' M => hx pins σ H1 s1 h' e' C us I1 M q1⟩
end
section
variable {X : Cx} {pins : List (Addr × Obj)} {σ : St} {H H' : Hp} {s s' : Shared} {C ea t : Addr} {B h2 : Heap}
theorem Inv.fly (I : Inv X pins σ H s) (F : Fly X.prog X.w X.stack H H' s C ea t B s') (f2 : B.StaysIn h2) (up : s'.heap.UpToSlots h2) : Inv X pins σ H' { s' with heap := h2 } := by
  have slot : ∀ b o, s.heap.get? b = some o → H b = none → b ∈ frs X.stack → ∃ sl, h2.get? b = some { o with slots := sl } := fun b o e hn hb => by
    obtain ⟨sl, e1⟩ := F.un.slot b o e hn hb (by simp)
    obtain ⟨_, o2, e2, d2⟩ := I.stack.mem hb
    rw [e] at e2; cases e2
    obtain ⟨sl2, e3⟩ := up b _ e1 d2
    exact ⟨sl2, e3⟩
  refine I.call' (s' := { s' with heap := h2 }) (ch := []) F.os ⟨fun b o e n nf _ => f2 _ _ (F.old b o e n nf), fun b o e n hb _ => slot b o e n hb, F.un.free, fun b o e _ => ?_, F.un.tups, F.un.frzs, F.un.tbls⟩ (fun a u z => ?_) F.bare (fun b z => absurd z (by simp))
  · rcases F.all b o e with hb | ⟨o', z⟩
    · obtain ⟨sl, z⟩ := slot b o e (I.stkFree b hb) hb
      exact ⟨_, z⟩
    · exact ⟨o', f2 _ _ z⟩
  · refine (F.hok a u z).stay (fun b v hb hv => f2 _ _ ?_) (fun _ y => y) fun _ _ y => y
    rcases hb with rfl | hb
    · exact (F.trk _ _ z).2 _ hv
    · exact (F.trk _ _ hb).2 _ hv
end
abbrev XR := St → Addr → Hp → Prop
def XQ (X : Cx) (pins : List (Addr × Obj)) (R : XR) (e : Value) (s' : Shared) : Prop :=
  ∃ ea t C B H H' σ s, e = .ref ea ∧ Inv X pins σ H s ∧ Fly X.prog X.w X.stack H H' s C ea t B s' ∧ R σ C H'
abbrev TEx := St → Hp → VK → (Addr → Hp → Prop) → Prop
abbrev TSx := Ends → XR → St → Hp → Prop
def PEx (X : Cx) (e : Expr) (t : TEx) : Prop :=
  ∀ (pins : List (Addr × Obj)) (s : Shared) (σ : St) (H : Hp) (Q : VK) (R : Addr → Hp → Prop), Inv X pins σ H s → t σ H Q R → wpAny (model X.prog X.w) X.A (eval e X.env) (EP X pins σ Q) (XQ X pins fun σ' C H' => σ' = σ ∧ R C H') s
def PSx (X : Cx) (st : Stmt) (t : TSx) : Prop :=
  ∀ (pins : List (Addr × Obj)) (s : Shared) (σ : St) (H : Hp) (D : Ends) (R : XR), Inv X pins σ H s → t D R σ H → wpAny (model X.prog X.w) X.A (exec st X.env) (SP X pins D) (XQ X pins R) s
def PSsx (X : Cx) (st : List Stmt) (t : TSx) : Prop :=
  ∀ (pins : List (Addr × Obj)) (s : Shared) (σ : St) (H : Hp) (D : Ends) (R : XR), Inv X pins σ H s → t D R σ H → wpAny (model X.prog X.w) X.A (execs st X.env) (SP X pins D) (XQ X pins R) s
section
variable {X : Cx} {e : Expr} {es : List Expr} {st : Stmt} {rest : List Stmt} {pos : Pos}
theorem pssx_nil : PSsx X [] (fun D _ σ H => D.nx σ H) := fun _ _ σ H _ _ I h => wpAny_execs_nil ⟨σ, H, I, h⟩
def txSeq (t u : TSx) : TSx := fun D R σ H => t { D with nx := u D R } R σ H
theorem pssx_cons {t u : TSx} (h1 : PSx X st t) (h2 : PSsx X rest u) : PSsx X (st :: rest) (txSeq t u) := by
  intro pins s σ H D R I h
  refine wpAny_execs_cons (thn (h1 pins s σ H { D with nx := u D R } R I h) fun f s1 q => ?_)
  cases f with
  | next =>
    obtain ⟨σ', H', I', q⟩ := q
    exact h2 pins s1 σ' H' D R I' q
  | brk => exact q
  | cont => exact q
  | ret v => exact q
def txCall (sp : Sp) (t : TA) : TEx := fun σ H Q R => t σ H fun vs H1 => sp vs H1 Q (fun c _ H2 => ∃ C, c = .ref C ∧ R C H2)
theorem run_fnX {pins : List (Addr × Obj)} {σ : St} {H : Hp} {s : Shared} {Q : VK} {R : Addr → Hp → Prop} {us : List Value} {vs : List V} {k : Nat} {f : Addr} {fd : FuncData} {ps : List Str} {sp : Sp} (F : FnOk X.prog X.w X.K X.mg X.base (CXB X.prog X.w) k f fd ps sp) (hr : Room k X.A) (hb : Binds X.K fd ps [])
    (I : Inv X pins σ H s) (r : Vals vs us) (h : sp vs H Q (fun c _ H2 => ∃ C, c = .ref C ∧ R C H2)) : wpAny (model X.prog X.w) X.A (call (.ref f) us) (EP X pins σ Q) (XQ X pins fun σ' C H' => σ' = σ ∧ R C H') s := by
  have hl : us.length = ps.length := by rw [← r.length]; exact F.len _ _ _ _ h
  have hb' : BindsTo s fd ⟨us, []⟩ (ps.zip us) := by
    have z := hb s us I.kIn (by simpa using hl)
    rwa [List.append_nil] at z
  refine wpAny_call (codeAny_mono (F.run X.A X.stack s H ⟨us, []⟩ us vs Q _ hr I.env0 hb' r h) fun r s' hq => ?_)
  cases r with
  | error e =>
    obtain ⟨ea, t, C, B, H', e1, F, C', e2, q⟩ := hq
    cases e2
    exact ⟨ea, t, C, B, H, H', σ, s, e1, I, F, rfl, q⟩
  | ok fl =>
    cases fl with
    | ret u => exact I.after hq
    | next => exact False.elim hq
    | brk => exact False.elim hq
    | cont => exact False.elim hq
def FnX (P : Program) (w : World) (K : PySem.W.Frag) (mg : Str → Option Value) (base : Heap) (k : Nat) (x : Str) (ps : List Str) (sp : Sp) : Prop :=
  ∃ f fd, mg x = some (.ref f) ∧ PySem.W.keepIn K (.ref f) = true ∧ Binds K fd ps [] ∧ FnOk P w K mg base (CXB P w) k f fd ps sp ∧ ∃ oc od sl, K.lookup f = some ⟨oc, od, .func fd, sl⟩
theorem FunAt.okX {P : Program} {w : World} {K : PySem.W.Frag} {mg : Str → Option Value} {base : Heap} {x : Str} {st : Stmt} {N ps : List Str} {k : Nat} {sp : Sp} (F : FunAt K mg x st) (S : FnScope N ps (defScope st))
    (hb : ∀ (kV doc pm : Value) (an : Option Addr) (cdv ct : Value) (us : List Value), us.length = ps.length → bindArgs (PySem.W.fnOf x x (defArgs st) (defBody st) (defScope st) .none kV doc pm an cdv ct) ⟨us, []⟩ = pure (ps.zip us))
    (len : ∀ vs H Q E, sp vs H Q E → vs.length = ps.length)
    (hbody : ∀ (f : Addr) (cdv : Value) (A : Around) (outer : List Env) (s : Shared) (H : Hp) (vs : List V) (Q : VK) (E : XK), Room k (A.deeper (envOfC x (defScope st) s.heap.objs.size f cdv)) → sp vs H Q E →
      ∃ t, PSs (cxOf (CXB P w) P w K mg base N x (defScope st) f cdv A outer s H E) (defBody st) t ∧ t { nx := fun _ H' => Q .non H', rt := Q } (start N vs) H) : FnX P w K mg base (k + 1) x ps sp := by
  obtain ⟨f, fd, h1, F⟩ := F
  refine ⟨f, fd, h1, F.kp, F.binds hb, ?_, ?_⟩
  · obtain ⟨oc, od, kV, doc, pm, an, cdv, ct, osl, rfl, lk, hcd⟩ := F.ex
    exact fn_of lk hcd S len fun A outer s H vs Q E hr hsp => hbody f cdv A outer s H vs Q E hr hsp
  · obtain ⟨oc, od, kV, doc, pm, an, cdv, ct, osl, rfl, lk, hcd⟩ := F.ex
    exact ⟨_, _, _, lk⟩
theorem pex_callN {k : Nat} {x : Str} {ps : List Str} {sp : Sp} {t : TA} {p : Pos} (F : FnX X.prog X.w X.K X.mg X.base k x ps sp) (hr : Room k X.A) (hg : Gl X x) (ha : PA X.nox (e :: es) t) (hdb : (x == ("__debug__" : Str)) = false := by decide)
    (he : starEach (e :: es) X.env = (false, eval e X.env) :: starEach es X.env := by rfl) (hpl : (backTo pos (starEach es X.env)).any (·.1) = false := by rfl) : PEx X (.Call (.Name x p) (e :: es) [] pos) (txCall sp t) := by
  obtain ⟨f, fd, h1, h2, h3, h4, _⟩ := F
  intro pins s σ H Q R I h
  refine wpAny_Call_Name_kw (ld_glob I hg h1 ?_ hdb)
  refine PySem.W.callWith_K (h₀ := X.base) I.ok.mod.kin h2 (wpAny_mono (ha pos pins s σ H _ (I.wish _) h) (fun us s1 ⟨vs, H1, I1, r, q⟩ => ⟨I1.unwish.kIn, ?_⟩) fun _ _ z => False.elim z) he hpl
  exact run_fnX h4 hr h3 I1.unwish r q
end
end L2
namespace L2
open PySem PySem.Spec PyProof.Rows
abbrev Cx.hand (X : Cx) (e : Addr) : Cx := { X with A := X.A.mark (some (.ref e)), calm := false }
section
variable {X : Cx} {pins : List (Addr × Obj)} {σ : St} {H : Hp} {s : Shared} {ea : Addr}
theorem Cx.Ok.hand (ok : X.Ok) (e : Addr) : (X.hand e).Ok :=
  ⟨ok.mod, ok.kind, ok.glob, ok.blt, ok.above, ok.inj, ok.has, ok.cab, (fun z => by cases z), ok.frames, ok.stk, ok.exf, ok.bs, ok.bsz, ok.noex, ok.exfs, ok.funs, ok.frf⟩
theorem Inv.hand (I : Inv X pins σ H s) (e : Addr) : Inv (X.hand e) pins σ H s := ⟨I.ok.hand e, I.os, I.bare, I.base, I.loc, I.cell, I.free, I.freeC, I.pin, I.hok, I.len⟩
theorem Inv.unhand (ok : X.Ok) (I : Inv (X.hand ea) pins σ H s) : Inv X pins σ H s := ⟨ok, I.os, I.bare, I.base, I.loc, I.cell, I.free, I.freeC, I.pin, I.hok, I.len⟩
theorem Inv.track' {a : Addr} {o : Obj} (I : Inv X pins σ H s) (ho : s.heap.get? a = some o) (h0 : H a = none) (h1 : a ≠ X.env.locals) (h4 : ∀ x c, X.env.cells.lookup x = some c → c ≠ a) (h5 : ∀ p ∈ X.pn ++ pins, p.1 ≠ a) (hs : X.s₀.heap.get? a = none) :
    Inv X pins σ (upd H a (.frz o (.own 0))) s := by
  refine ⟨I.ok, I.os, I.bare, ⟨I.base.keep, I.base.slot, fun b ob e n hx => ?_, I.base.there, fun b xs e => ?_, fun b ob u e => ?_, fun b ps e => ?_⟩, I.loc, I.cell, ?_, fun x c e => ?_, fun p hp => ?_, ?_, I.len⟩
  · have z : b ≠ a := fun z => by rw [z, hs] at e; cases e
    rw [upd_ne z]; exact I.base.free b ob e n hx
  · have q := I.base.tups b xs e
    rw [upd_ne (ne_of_none q h0)]; exact q
  · have q := I.base.frzs b ob u e
    rw [upd_ne (ne_of_none q h0)]; exact q
  · obtain ⟨more, q⟩ := I.base.tbls b ps e
    exact ⟨more, by rw [upd_ne (ne_of_none q h0)]; exact q⟩
  · rw [upd_ne (Ne.symm h1)]; exact I.free
  · rcases I.freeC x c e with z | ⟨z1, ob, z⟩
    · left; rw [upd_ne (h4 x c e)]; exact z
    · right; exact ⟨z1, ob, by rw [upd_ne (h4 x c e)]; exact z⟩
  · obtain ⟨e, n, ne, nf, d⟩ := I.pin p hp
    exact ⟨e, by rw [upd_ne (h5 p hp)]; exact n, ne, nf, d⟩
  · exact I.hok.track ho h0
end
theorem UpToSlots.trans {a b c : Heap} (x : a.UpToSlots b) (y : b.UpToSlots c) : a.UpToSlots c := fun p o e d => by
  obtain ⟨sl, e1⟩ := x p o e d
  obtain ⟨sl2, e2⟩ := y p _ e1 d
  exact ⟨sl2, e2⟩
section
variable {X : Cx}
theorem land_ok {pins : List (Addr × Obj)} {σ0 : St} {H0 H' : Hp} {s0 s1 : Shared} {C ea t : Addr} {B : Heap} {x : Str} {np hpos : Pos} {rest : List ExceptHandler} {name : Option Str} {suite : List Stmt} {Q : Flow → Shared → Prop}
    (hex : X.ex = []) (hst : X.stack = X.env :: X.outer ∧ X.env.frame = some X.env.locals) (xc : XCls X.K C) (hg : Gl X x) (hm : X.mg x = some (.ref C)) (hdb : (x == ("__debug__" : Str)) = false)
    (I0 : Inv X pins σ0 H0 s0) (F : Fly X.prog X.w X.stack H0 H' s0 C ea t B s1)
    (h : ∀ (s3 : Shared), (∀ {Q' : Unit → Shared → Prop} {E' : Value → Shared → Prop}, (∀ s4 oe, Inv X pins σ0 H' s4 → Inv X pins σ0 (upd H' ea (.frz oe (.own 0))) s4 → H' ea = none → IsExc X.K C oe → Q' () s4) → wpAny (model X.prog X.w) (X.A.mark (some (.ref ea))) (setFlight (.ref ea) none) Q' E' s3) →
      codeAny (model X.prog X.w) (X.A.mark (some (.ref ea))) (.handlers (.ref ea) [.ExceptHandler none name suite hpos] X.env) (fun r s₂ => match r with
        | .ok f => match name with
          | none => Q f s₂
          | some n => wpAny (model X.prog X.w) X.A (do bindName X.env n Value.none; unbindBehindTheSuite X.env n hpos) (fun _ s₃ => Q f s₃) X.xe s₂
        | .error x => cameBackBy (model X.prog X.w) X.A X.env X.xe x s₂) s3) :
    wpAny (model X.prog X.w) X.A (noteFrame (.ref ea) X.env) (fun _ s₂ => wpAny (model X.prog X.w) X.A (setFlight (.ref ea) none) (fun _ s₃ => wpAny (model X.prog X.w) X.A (handleBy (.ref ea) X.env (.ExceptHandler (some (.Name x np)) name suite hpos :: rest)) Q X.xe s₃) X.xe s₂) X.xe s1 := by
  have hfl : B.FlyingW (X.env :: X.outer) ea (.ref C) (.ref t) s1.heap := by rw [← hst.1]; exact F.fly
  refine wpAny_looks_onW (base := B) (env := X.env) (outer := X.outer) (by rw [I0.ok.frames, hst.1]) hst.2 hfl fun h2 held up => ?_
  refine wpAny_landsW (s := { s1 with heap := h2 }) held fun h3 fly3 up3 => ?_
  have up13 : s1.heap.UpToSlots h3 := UpToSlots.trans up up3
  have I3 : Inv X pins σ0 H' { s1 with heap := h3 } := I0.fly F fly3.1 up13
  obtain ⟨st3, hne, ff3, tr3⟩ := id fly3
  obtain ⟨oe, vs, T, oT, ts, he, ⟨hc, h0⟩, hd, _⟩ := id tr3
  obtain ⟨nm, q, N, bs, bm, bmB, hdct, sn, sub, ab, col, dd, k0, k1, k2, k3, k5, newId, B', nid, initId, Bn, inN, bmN, lk, qn, tl, has, F1, F2, F3, F4⟩ := xc.ex
  refine wpAny_handleBy_cons (codeAny_handlers_test ?_) (by nofun)
  refine ld_glob (X := X.hand ea) (I3.hand ea) hg hm ?_ hdb
  refine wpAny_excMatches_sub_self (I3.kIn _ _ lk) he hc has ?_
  refine h { s1 with heap := h3 } fun {Q' E'} k => ?_
  refine wpAny_setFlight_noneW (s := { s1 with heap := h3 }) (base := B) (l := X.env :: X.outer) (fl := .none) st3 ff3 tr3 fun h4 st4 ff4 tr4 k4 => ?_
  have up34 : h3.UpToSlots h4 := fun b o e d => ⟨o.slots, k4 b o e d⟩
  have I4 : Inv X pins σ0 H' { s1 with heap := h4 } := I0.fly F st4 (UpToSlots.trans up13 up34)
  obtain ⟨oe4, vs4, T4, oT4, ts4, he4, ⟨hc4, h04⟩, hd4, _⟩ := id tr4
  have n0 : H' ea = none := by
    cases z : H' ea with
    | none => rfl
    | some u =>
      obtain ⟨_, y⟩ := F.trk ea u z
      obtain ⟨_, _, _, tr⟩ := F.fly
      obtain ⟨o1, _, _, _, _, e1, _⟩ := tr
      have := y _ e1
      rw [F.fly.2.1] at this; cases this
  have nst : ea ∉ frs X.stack := fun z => by
    obtain ⟨_, o, e, d⟩ := I4.stack.mem z
    have e' : h4.get? ea = some o := e
    rw [he4] at e'; cases e'
    exact d _ hd4
  have nall : s0.heap.get? ea = none := by
    cases z : s0.heap.get? ea with
    | none => rfl
    | some o =>
      rcases F.all ea o z with y | ⟨o', y⟩
      · exact absurd y nst
      · rw [F.fly.2.1] at y; cases y
  refine k _ oe4 I4 (I4.track' he4 n0 (fun z => ?_) (fun y c e z => ?_) (fun p hp z => ?_) ?_) n0 ⟨xc, hc4⟩
  · obtain ⟨m, ⟨o, es, ep, e, d, _⟩, _⟩ := I4.loc
    have e' : h4.get? X.env.locals = some o := e
    rw [← z, he4] at e'; cases e'
    rw [hd4] at d; cases d
  · obtain ⟨v, o, e', d⟩ := I4.cell y c e
    have e' : h4.get? c = some o := e'
    rw [z, he4] at e'; cases e'
    rw [hd4] at d; cases d
  · obtain ⟨e, _⟩ := I0.pin p hp
    rw [z, nall] at e; cases e
  · cases z : X.s₀.heap.get? ea with
    | none => rfl
    | some o =>
      obtain ⟨o', e⟩ := I0.base.there ea o z (by rw [hex]; simp)
      rw [nall] at e; cases e
def tTry0 (C : Addr) (tb : TSx) (th : TS) : TS := fun D σ H => tb D (fun σ' C' H' => C' = C ∧ th D σ' H') σ H
theorem ps_try0 {x : Str} {C : Addr} {body suite : List Stmt} {b₀ : Stmt} {tb : TSx} {th : TS} {np hpos pos : Pos} (hex : X.ex = []) (hst : X.stack = X.env :: X.outer ∧ X.env.frame = some X.env.locals)
    (xc : XCls X.K C) (hg : Gl X x) (hm : X.mg x = some (.ref C)) (hb : PSsx X body tb) (hh : ∀ e, PSs (X.hand e).nox (b₀ :: suite) th) (hdb : (x == ("__debug__" : Str)) = false := by decide) :
    PS X (.Try body [.ExceptHandler (some (.Name x np)) none (b₀ :: suite) hpos] [] [] pos) (tTry0 C tb th) := by
  intro pins s σ H D I h
  refine wpAny_Try_except (wpAny_mono (hb pins s σ H D _ I h) (fun f s1 q => ?_) fun e s1 q => ?_)
  · cases f with
    | next => exact wpAny_execs_nil q
    | brk => exact q
    | cont => exact q
    | ret u => exact q
  · obtain ⟨ea, t, C', B, H0, H', σ', s0, rfl, I0, F, rfl, q⟩ := q
    refine land_ok hex hst xc hg hm hdb I0 F fun s3 k => codeAny_handlers_suite (k fun s4 oe I4 I5 n0 ix => ?_)
    refine wpAny_mono (hh ea pins s4 _ _ D ((I4.hand ea).wish _) q) (fun f s7 q7 => ?_) fun _ _ z => z.elim
    cases f with
    | next => obtain ⟨σ7, H7, I7, q⟩ := q7; exact ⟨_, _, I7.unwish.unhand I0.ok, q⟩
    | brk => obtain ⟨σ7, H7, I7, q⟩ := q7; exact ⟨_, _, I7.unwish.unhand I0.ok, q⟩
    | cont => obtain ⟨σ7, H7, I7, q⟩ := q7; exact ⟨_, _, I7.unwish.unhand I0.ok, q⟩
    | ret u => obtain ⟨v, σ7, H7, I7, r, q⟩ := q7; exact ⟨v, _, _, I7.unwish.unhand I0.ok, r, q⟩
end
end L2
namespace L2
open PySem PySem.Spec PyProof.Rows
theorem stop_ok {α : Type} {M : Model} {A : Around} {E : Value → Shared → Prop} {s : Shared} {Q : α → Shared → Prop} (hh : A.handled = none)
    (h : ∀ (h' : Heap) (e : Addr), (∀ b o, s.heap.get? b = some o → h'.get? b = some o) → (∃ o, h'.get? e = some o ∧ o.cls = .type "StopIteration") → E (.ref e) { s with heap := h' }) :
    wpAny M A (Builtin.SmallTypes.stopIteration : Sem α) Q E s := by
  unfold Builtin.SmallTypes.stopIteration newExc
  refine wpAny_bind (wpAny_bind (wpAny_newTuple ?_))
  rw [firstArgMember.eq_1]
  refine wpAny_bind (wpAny_bind (wpAny_pure (wpAny_pure ?_)))
  refine wpAny_newObj_type ?_ (by show sizeOk (.fields _); unfold sizeOk; rw [show ownMembersOf (Value.type "StopIteration") [] = #[] by kernel_rfl]; show (6 : Nat) ≤ _; decide)
  refine wpAny_raiseNew_none hh (h _ _ (fun b o e => Heap.get?_push_of_some _ (Heap.get?_push_of_some _ e)) ⟨_, Heap.get?_push_size _ rfl, rfl⟩)
theorem next_rev_item {prog : Program} {w : World} {A : Around} {E : Value → Shared → Prop} {s : Shared} {it l : Addr} {i : Nat} {items : Array Value} {x : Value} {Q : Value → Shared → Prop}
    (st : s.heap.IsRevIter it l i) (p : s.heap.IsList l items) (hx : items[i]? = some x) (h : ∀ h' : Heap, h'.IsRevIter it l ((i : Int) - 1) → Heap.SameBut it s.heap h' → Q x { s with heap := h' }) :
    wpAny (model prog w) A (Builtin.SmallTypes.nextOf (.ref it)) Q E s := by
  unfold Builtin.SmallTypes.nextOf
  obtain ⟨⟨oc, od, oda, osl⟩, e, c, d⟩ := id st
  cases d
  refine wpAny_bind (wpAny_callSpecial?_slot (T := "list_reverseiterator") ⟨_, e, c⟩ F.slot_lri_next ?_)
  refine wpAny_call (codeAny_call_builtin F.slot_lri_next.plain F.entry_lri_next ?_)
  refine F.slot_lri_next.check _ _ _ _ _ _ _ _ ⟨_, e, c⟩ (F.args_lri_next_1 _) ?_
  unfold Builtin.«list_reverseiterator.__next__»
  refine wpAny_bind (wpAny_pure ?_)
  refine wpAny_bind (wpAny_field e rfl rfl ?_)
  show wpAny _ _ (ite _ _ _) _ _ _
  rw [if_neg (by omega)]
  refine wpAny_bind (wpAny_field e rfl rfl ?_)
  obtain ⟨ol, el, cl, nl, dl⟩ := id p
  refine wpAny_bind (wpAny_seqItems el dl ?_)
  dsimp only
  rw [show items[(i : Int).toNat]? = some x from hx]
  refine wpAny_bind (wpAny_setField e rfl (by simp) ?_)
  refine wpAny_pure ?_
  refine wpAny_pure ?_
  have gs := Heap.get?_update_self (h := s.heap) (Obj.mapFields fun y => y.setIfInBounds 1 (rawInt ((i : Int) - 1))) e rfl
  exact h _ ⟨_, gs, c, rfl⟩ (Heap.SameBut.update _ _ _)
theorem next_rev_end {prog : Program} {w : World} {A : Around} {E : Value → Shared → Prop} {s : Shared} {it l : Addr} {Q : Value → Shared → Prop} (hh : A.handled = none)
    (st : s.heap.IsRevIter it l (-1)) (h : ∀ (h' : Heap) (e : Addr), (∀ b o, s.heap.get? b = some o → h'.get? b = some o) → (∃ o, h'.get? e = some o ∧ o.cls = .type "StopIteration") → E (.ref e) { s with heap := h' }) :
    wpAny (model prog w) A (Builtin.SmallTypes.nextOf (.ref it)) Q E s := by
  unfold Builtin.SmallTypes.nextOf
  obtain ⟨⟨oc, od, oda, osl⟩, e, c, d⟩ := id st
  cases d
  refine wpAny_bind (wpAny_callSpecial?_slot (T := "list_reverseiterator") ⟨_, e, c⟩ F.slot_lri_next ?_)
  refine wpAny_call (codeAny_call_builtin F.slot_lri_next.plain F.entry_lri_next ?_)
  refine F.slot_lri_next.check _ _ _ _ _ _ _ _ ⟨_, e, c⟩ (F.args_lri_next_1 _) ?_
  unfold Builtin.«list_reverseiterator.__next__»
  refine wpAny_bind (wpAny_pure ?_)
  refine wpAny_bind (wpAny_field e rfl rfl ?_)
  show wpAny _ _ (ite _ _ _) _ _ _
  rw [if_pos (by decide)]
  refine wpAny_bind (wpAny_rule ?_)
  refine wpAny_bind (stop_ok hh fun h' e' k x => ?_)
  exact h h' e' k x
structure ZipSt (h : Heap) (z TI TO i1 i2 l1 l2 : Addr) (k1 : Int) (k2 : Nat) (f0 : Value) : Prop where
  z : IsZip h z TI TO f0
  ti : IsPair h TI (.ref i1) (.ref i2)
  to : ∃ a b, IsPair h TO a b
  r : h.IsRevIter i1 l1 k1
  l : h.IsListIter i2 l2 k2
theorem zip_item {prog : Program} {w : World} {A : Around} {E : Value → Shared → Prop} {s : Shared} {z TI TO i1 i2 l1 l2 : Addr} {k1 k2 : Nat} {xs ys : Array Value} {x y : Value} {Q : Option Value → Shared → Prop}
    (ap : ZipApart z TI TO i1 i2 l1 l2) (st : ZipSt s.heap z TI TO i1 i2 l1 l2 k1 k2 .none) (p1 : s.heap.IsList l1 xs) (p2 : s.heap.IsList l2 ys) (hx : xs[k1]? = some x) (hy : ys[k2]? = some y)
    (h : ∀ h' : Heap, ZipSt h' z TI TO i1 i2 l1 l2 ((k1 : Int) - 1) (k2 + 1) (rawInt s.heap.objs.size) → IsPair h' s.heap.objs.size x y → (∀ c o, c ≠ z → c ≠ TO → c ≠ i1 → c ≠ i2 → s.heap.get? c = some o → h'.get? c = some o) → Q (some (.ref s.heap.objs.size)) { s with heap := h' }) :
    wpAny (model prog w) A (pyNext (.ref z)) Q E s := by
  obtain ⟨hz, hti, ⟨a, b, hto⟩, hr, hl⟩ := st
  unfold pyNext
  refine wpAny_bind (wpAny_attempt (wpAny_callSpecial?_slot (T := "zip") ⟨_, hz, rfl⟩ F.slot_zip_next ?_))
  refine wpAny_call (codeAny_call_builtin F.slot_zip_next.plain F.entry_zip_next ?_)
  refine F.slot_zip_next.check _ _ _ _ _ _ _ _ ⟨_, hz, rfl⟩ (F.args_zip_next_1 _) ?_
  unfold Builtin.«zip.__next__»
  refine wpAny_bind (wpAny_pure ?_)
  refine wpAny_bind (wpAny_field hz rfl rfl ?_)
  refine wpAny_bind (wpAny_field hz rfl rfl ?_)
  refine wpAny_bind (wpAny_seqItems hti rfl ?_)
  dsimp only
  rw [if_neg (by simp)]
  refine wpAny_bind ?_
  unfold Builtin.SmallTypes.ownedTupleIsFree
  refine wpAny_bind (wpAny_field hz rfl rfl ?_)
  refine wpAny_pure ?_
  rw [if_pos rfl]
  refine wpAny_bind (wpAny_rule ?_)
  refine wpAny_bind (wpAny_field hz rfl rfl ?_)
  refine wpAny_bind (wpAny_setField_rec hz (by simp) fun h1 hz1 sb1 => ?_)
  refine wpAny_bind ?_
  show wpAny _ _ (forIn [(Value.ref i1, 0), (Value.ref i2, 1)] _ _) _ _ _
  rw [List.forIn_cons]
  refine wpAny_bind ?_
  refine wpAny_bind (wpAny_onRaise ?_)
  show wpAny _ _ (do let v ← Builtin.SmallTypes.nextOf (.ref i1); pure (some v)) _ _ _
  have hr1 : h1.IsRevIter i1 l1 k1 := hr.at fun o e => (sb1.2 i1 ap.i1z).trans e
  have p11 : h1.IsList l1 xs := by obtain ⟨o, e, r⟩ := p1; exact ⟨o, (sb1.2 l1 ap.l1z).trans e, r⟩
  refine wpAny_bind (next_rev_item (s := { s with heap := h1 }) hr1 p11 hx fun h2 hr2 sb2 => ?_)
  refine wpAny_pure ?_
  have hto2 : IsPair h2 TO a b := (sb2.2 TO ap.TOi1).trans ((sb1.2 TO ap.TOz).trans hto)
  refine wpAny_bind (wpAny_seqItems hto2 rfl ?_)
  refine wpAny_bind (wpAny_updateSeq_pair (s := { s with heap := h2 }) hto2 fun h3 hto3 sb3 => ?_)
  refine wpAny_bind (wpAny_letGo ?_)
  refine wpAny_pure ?_
  show wpAny _ _ (forIn [(Value.ref i2, 1)] _ _) _ _ _
  rw [List.forIn_cons]
  refine wpAny_bind ?_
  refine wpAny_bind (wpAny_onRaise ?_)
  show wpAny _ _ (do let v ← Builtin.SmallTypes.nextOf (.ref i2); pure (some v)) _ _ _
  have k13 : ∀ c o, c ≠ z → c ≠ TO → c ≠ i1 → s.heap.get? c = some o → h3.get? c = some o := fun c o n1 n2 n3 e => (sb3.2 c n2).trans ((sb2.2 c n3).trans ((sb1.2 c n1).trans e))
  have hl3 : h3.IsListIter i2 l2 k2 := by obtain ⟨o, e, r⟩ := hl; exact ⟨o, k13 i2 o ap.i2z (Ne.symm ap.TOi2) (Ne.symm ap.i12) e, r⟩
  have p23 : h3.IsList l2 ys := by obtain ⟨o, e, r⟩ := p2; exact ⟨o, k13 l2 o ap.l2z ap.l2TO ap.l2i1 e, r⟩
  refine wpAny_bind (wpAny_nextOf_list_item (s := { s with heap := h3 }) hl3 p23 hy fun h4 hl4 sb4 => ?_)
  refine wpAny_pure ?_
  have hto4 : IsPair h4 TO x b := (sb4.2 TO ap.TOi2).trans hto3
  refine wpAny_bind (wpAny_seqItems hto4 rfl ?_)
  refine wpAny_bind (wpAny_updateSeq_pair (s := { s with heap := h4 }) hto4 fun h5 hto5 sb5 => ?_)
  refine wpAny_bind (wpAny_letGo ?_)
  refine wpAny_pure ?_
  show wpAny _ _ (forIn ([] : List (Value × Nat)) _ _) _ _ _
  rw [List.forIn_nil]
  refine wpAny_pure ?_
  have hto5 : IsPair h5 TO x y := hto5
  refine wpAny_bind (wpAny_seqItems hto5 rfl ?_)
  refine wpAny_bind (wpAny_newTuple ?_)
  have hz5 : h5.get? z = some { cls := .type "zip", data := .fields #[.ellipsis, .bool false, .bool false, .ref TI, .ref TO] } :=
    (sb5.2 z (Ne.symm ap.TOz)).trans ((sb4.2 z (Ne.symm ap.i2z)).trans ((sb3.2 z (Ne.symm ap.TOz)).trans ((sb2.2 z (Ne.symm ap.i1z)).trans hz1)))
  refine wpAny_bind ?_
  unfold Builtin.SmallTypes.ownedTupleHandOut
  refine wpAny_bind (wpAny_setField_rec (Heap.get?_push_of_some _ hz5) (by simp) fun h6 hz6 sb6 => ?_)
  refine wpAny_setField_rec (s := { s with heap := h6 }) hz6 (by simp) fun h7 hz7 sb7 => ?_
  refine wpAny_pure ?_
  refine wpAny_pure ?_
  have sz : h5.objs.size = s.heap.objs.size := by rw [sb5.1, show _ = _ from sb4.1, show _ = _ from sb3.1, show _ = _ from sb2.1, sb1.1]
  have k15 : ∀ c o, c ≠ z → c ≠ TO → c ≠ i1 → c ≠ i2 → s.heap.get? c = some o → h5.get? c = some o := fun c o n1 n2 n3 n4 e => (sb5.2 c n2).trans ((sb4.2 c n4).trans (k13 c o n1 n2 n3 e))
  have k57 : ∀ c o, c ≠ z → h5.get? c = some o → h7.get? c = some o := fun c o n1 e => (sb7.2 c n1).trans ((sb6.2 c n1).trans (Heap.get?_push_of_some _ e))
  have nz : h5.objs.size ≠ z := fun e => absurd (Heap.lt_size hz5) (by rw [← e]; exact Nat.lt_irrefl _)
  have fin := h h7 ⟨by rw [← sz]; exact hz7, k57 _ _ ap.TIz (k15 _ _ ap.TIz ap.TITO ap.TIi1 ap.TIi2 hti), ⟨x, y, k57 _ _ ap.TOz hto5⟩, ?_, ?_⟩ ?_ fun c o n1 n2 n3 n4 e => k57 c o n1 (k15 c o n1 n2 n3 n4 e)
  · show Q (some (.ref h5.objs.size)) _
    rw [sz]; exact fin
  · obtain ⟨o, e, r⟩ := hr2
    exact ⟨o, k57 _ _ ap.i1z ((sb5.2 i1 (Ne.symm ap.TOi1)).trans ((sb4.2 i1 ap.i12).trans ((sb3.2 i1 (Ne.symm ap.TOi1)).trans e))), r⟩
  · obtain ⟨o, e, r⟩ := hl4
    exact ⟨o, k57 _ _ ap.i2z ((sb5.2 i2 (Ne.symm ap.TOi2)).trans e), r⟩
  · rw [← sz]
    exact (sb7.2 _ nz).trans ((sb6.2 _ nz).trans (Heap.get?_push_size _ rfl))
theorem zip_end {prog : Program} {w : World} {A : Around} {E : Value → Shared → Prop} {s : Shared} {z TI TO i1 i2 l1 l2 : Addr} {k2 : Nat} {Q : Option Value → Shared → Prop} (hh : A.handled = none)
    (ap : ZipApart z TI TO i1 i2 l1 l2) (st : ZipSt s.heap z TI TO i1 i2 l1 l2 (-1) k2 .none) (h : ∀ h' : Heap, (∀ c o, c ≠ z → s.heap.get? c = some o → h'.get? c = some o) → Q none { s with heap := h' }) :
    wpAny (model prog w) A (pyNext (.ref z)) Q E s := by
  obtain ⟨hz, hti, ⟨a, b, hto⟩, hr, hl⟩ := st
  unfold pyNext
  refine wpAny_bind (wpAny_attempt (wpAny_callSpecial?_slot (T := "zip") ⟨_, hz, rfl⟩ F.slot_zip_next ?_))
  refine wpAny_call (codeAny_call_builtin F.slot_zip_next.plain F.entry_zip_next ?_)
  refine F.slot_zip_next.check _ _ _ _ _ _ _ _ ⟨_, hz, rfl⟩ (F.args_zip_next_1 _) ?_
  unfold Builtin.«zip.__next__»
  refine wpAny_bind (wpAny_pure ?_)
  refine wpAny_bind (wpAny_field hz rfl rfl ?_)
  refine wpAny_bind (wpAny_field hz rfl rfl ?_)
  refine wpAny_bind (wpAny_seqItems hti rfl ?_)
  dsimp only
  rw [if_neg (by simp)]
  refine wpAny_bind ?_
  unfold Builtin.SmallTypes.ownedTupleIsFree
  refine wpAny_bind (wpAny_field hz rfl rfl ?_)
  refine wpAny_pure ?_
  rw [if_pos rfl]
  refine wpAny_bind (wpAny_rule ?_)
  refine wpAny_bind (wpAny_field hz rfl rfl ?_)
  refine wpAny_bind (wpAny_setField_rec hz (by simp) fun h1 hz1 sb1 => ?_)
  refine wpAny_bind ?_
  show wpAny _ _ (forIn [(Value.ref i1, 0), (Value.ref i2, 1)] _ _) _ _ _
  rw [List.forIn_cons]
  refine wpAny_bind ?_
  refine wpAny_bind (wpAny_onRaise ?_)
  show wpAny _ _ (do let v ← Builtin.SmallTypes.nextOf (.ref i1); pure (some v)) _ _ _
  have hr1 : h1.IsRevIter i1 l1 (-1) := hr.at fun o e => (sb1.2 i1 ap.i1z).trans e
  refine wpAny_bind (next_rev_end (s := { s with heap := h1 }) hh hr1 fun h2 e k2 ⟨oe, he, hc⟩ => ?_)
  refine wpAny_setField_rec (s := { s with heap := h2 }) (k2 _ _ hz1) (by simp) fun h3 hz3 sb3 => ?_
  have ne : e ≠ z := fun q => by
    have q1 := k2 _ _ hz1
    rw [← q, he] at q1
    have q2 := congrArg Obj.cls (Option.some.inj q1)
    rw [hc] at q2
    exact absurd q2 (by simp)
  have he3 : h3.get? e = some oe := (sb3.2 e ne).trans he
  dsimp only
  refine wpAny_bind ?_
  unfold isInstance
  refine wpAny_bind (wpAny_typeOf_ref (s := { s with heap := h3 }) he3 ?_)
  rw [hc, isSubtype_stop]
  refine wpAny_pure ?_
  refine wpAny_pure ?_
  exact h h3 fun c o n e => (sb3.2 c n).trans (k2 _ _ ((sb1.2 c n).trans e))
theorem call_zip_rev {prog : Program} {w : World} {A : Around} {E : Value → Shared → Prop} {s : Shared} {r l1 l2 : Addr} {k1 : Int} {ys : Array Value} {Q : Value → Shared → Prop} (hr : s.heap.IsRevIter r l1 k1) (hl : s.heap.IsList l2 ys)
    (h : ∀ (h' : Heap), ZipSt h' (s.heap.objs.size + 3) (s.heap.objs.size + 1) (s.heap.objs.size + 2) r s.heap.objs.size l1 l2 k1 0 .none → (∀ c o, s.heap.get? c = some o → h'.get? c = some o) → Q (.ref (s.heap.objs.size + 3)) { s with heap := h' }) :
    wpAny (model prog w) A (call (.type "zip") [.ref r, .ref l2]) Q E s := by
  refine callType_new F.called_zip (by decide) (F.typeCall_zip_2 _ _) (F.newCall_zip_2 _ _) (fun obj => F.args_object_init_3 obj _ _) F.entry_zip_new
    (S := fun _ R s => s.heap.IsRevIter r l1 k1 ∧ s.heap.IsList l2 ys ∧ ∀ (h' : Heap), ZipSt h' (s.heap.objs.size + 3) (s.heap.objs.size + 1) (s.heap.objs.size + 2) r s.heap.objs.size l1 l2 k1 0 .none → (∀ c o, s.heap.get? c = some o → h'.get? c = some o) → R (.ok (.ret (.ref (s.heap.objs.size + 3)))) { s with heap := h' }) ?_ ⟨hr, hl, fun h' z k => ⟨⟨_, z.z, rfl⟩, h h' z k⟩⟩
  intro prog w A R s ⟨hr, hl, h⟩
  unfold Builtin.«zip.__new__»
  refine wpAny_bind ?_
  unfold Builtin.SmallTypes.newClass
  dsimp only
  refine wpAny_bind (wpAny_pure ?_)
  rw [if_neg (by simp)]
  rw [sub_zip]
  refine wpAny_bind (wpAny_pure ?_)
  rw [if_neg (by simp)]
  refine wpAny_pure ?_
  dsimp only
  rw [if_neg (by simp)]
  refine wpAny_bind ?_
  unfold Builtin.SmallTypes.iterAll
  refine wpAny_bind ?_
  rw [List.forIn_cons]
  refine wpAny_bind (wpAny_bind (wpAny_holding (wpAny_pyIter_revIter hr (wpAny_pure ?_))))
  show wpAny _ _ (forIn [Value.ref l2] _ _) _ _ _
  rw [List.forIn_cons]
  refine wpAny_bind (wpAny_bind (wpAny_holding (wpAny_pyIter_list hl (wpAny_pure ?_))))
  show wpAny _ _ (forIn ([] : List Value) _ _) _ _ _
  rw [List.forIn_nil]
  refine wpAny_pure (wpAny_pure ?_)
  refine wpAny_bind (wpAny_newTuple ?_ (by show (2 : Nat) ≤ _; decide))
  refine wpAny_bind (wpAny_newTuple ?_ (by show (2 : Nat) ≤ _; decide))
  refine wpAny_bind ?_
  unfold Builtin.SmallTypes.newRecord
  refine wpAny_newObj_type ?_ (by show (5 : Nat) ≤ _; decide)
  refine wpAny_pure ?_
  have sz1 : ∀ (h : Heap) (o : Obj), (h.push o).objs.size = h.objs.size + 1 := fun h o => by simp [Heap.push]
  have e0 : ∀ (h : Heap) (o : Obj), o.isFreed = false → (h.push o).get? h.objs.size = some o := fun h o q => Heap.get?_push_size _ q
  dsimp only
  simp only [sz1]
  refine h _ ⟨?_, ?_, ⟨.none, .none, ?_⟩, ?_, ?_⟩ (fun c o e => Heap.get?_push_of_some _ (Heap.get?_push_of_some _ (Heap.get?_push_of_some _ (Heap.get?_push_of_some _ e))))
  · have := e0 (((s.heap.push { cls := .type "list_iterator", data := .fields #[.ref l2, .int 0 0] }).push { cls := .type "tuple", data := .seq #[.ref r, .ref s.heap.objs.size] }).push { cls := .type "tuple", data := .seq #[.none, .none] })
      { cls := .type "zip", data := .fields #[.none, .bool false, .bool false, .ref (s.heap.objs.size + 1), .ref (s.heap.objs.size + 1 + 1)] } rfl
    simp only [sz1] at this
    exact this
  · have := e0 ((s.heap.push { cls := .type "list_iterator", data := .fields #[.ref l2, .int 0 0] })) { cls := .type "tuple", data := .seq #[.ref r, .ref s.heap.objs.size] } rfl
    simp only [sz1] at this
    exact Heap.get?_push_of_some _ (Heap.get?_push_of_some _ this)
  · have := e0 ((s.heap.push { cls := .type "list_iterator", data := .fields #[.ref l2, .int 0 0] }).push { cls := .type "tuple", data := .seq #[.ref r, .ref s.heap.objs.size] }) { cls := .type "tuple", data := .seq #[.none, .none] } rfl
    simp only [sz1] at this
    exact Heap.get?_push_of_some _ this
  · exact hr.at fun o e => Heap.get?_push_of_some _ (Heap.get?_push_of_some _ (Heap.get?_push_of_some _ (Heap.get?_push_of_some _ e)))
  · exact ⟨_, Heap.get?_push_of_some _ (Heap.get?_push_of_some _ (Heap.get?_push_of_some _ (Heap.get?_push_size _ rfl))), rfl, rfl⟩
def Itz (K : PySem.W.Frag) (a b : Addr) (n : Nat) : It :=
  ⟨fun i H => i < n ∧ (∃ xs, SqL K H a xs ∧ xs.length = n) ∧ ∃ ys, SqL K H b ys ∧ ys.length = n,
   fun i H x H' => ∃ p u v, x = .ref p ∧ H p = none ∧ (∀ xs, SqL K H a xs → xs[n - 1 - i]? = some u) ∧ (∀ ys, SqL K H b ys → ys[i]? = some v) ∧ H' = upd H p (.tup [u, v]),
   fun i _ => i = n⟩
theorem ZipSt.at {h h' : Heap} {z TI TO i1 i2 l1 l2 : Addr} {k1 : Int} {k2 : Nat} {f0 : Value} (st : ZipSt h z TI TO i1 i2 l1 l2 k1 k2 f0) (k : ∀ b ∈ [z, TI, TO, i1, i2], ∀ o, h.get? b = some o → h'.get? b = some o) : ZipSt h' z TI TO i1 i2 l1 l2 k1 k2 f0 := by
  obtain ⟨a1, a2, ⟨x, y, a3⟩, a4, ⟨o, e, r⟩⟩ := st
  exact ⟨k z (by simp) _ a1, k TI (by simp) _ a2, ⟨x, y, k TO (by simp) _ a3⟩, a4.at fun o e => k i1 (by simp) _ e, ⟨o, k i2 (by simp) _ e, r⟩⟩
theorem turn_zip {P : Program} {w : World} {K : PySem.W.Frag} {es : List Expr} {kk : Nat} {tp : Pos} (a b z TI TO i1 i2 : Addr) (n : Nat) (ap : ZipApart z TI TO i1 i2 a b) :
    Turn P w K (.Tuple es kk tp) (Itz K a b n) [z, TI, TO, i1, i2] z (fun i h => ZipSt h z TI TO i1 i2 a b ((n : Int) - 1 - (i : Nat)) i .none) where
  mem := by simp
  obj := fun i h st c hc => by
    obtain ⟨a1, a2, ⟨x, y, a3⟩, ⟨o, e, _, d⟩, ⟨o', e', _, d'⟩⟩ := st
    simp only [List.mem_cons, List.not_mem_nil, or_false] at hc
    rcases hc with rfl | rfl | rfl | rfl | rfl
    · exact ⟨_, a1, fun v q => by cases q⟩
    · exact ⟨_, a2, fun v q => by cases q⟩
    · exact ⟨_, a3, fun v q => by cases q⟩
    · exact ⟨o, e, fun v q => by rw [d] at q; cases q⟩
    · exact ⟨o', e', fun v q => by rw [d'] at q; cases q⟩
  keep := fun i h h' st k => st.at k
  item := by
    intro X hP hw hK hc i pins s σ H E I hf st hg
    subst hP hw hK
    obtain ⟨hi, ⟨xs, hq1, hn1⟩, ⟨ys, hq2, hn2⟩⟩ := hg
    obtain ⟨its1, rv1, p1, hz1⟩ := I.list hq1
    obtain ⟨its2, rv2, p2, hz2⟩ := I.list hq2
    have hl1 := rv1.length
    have hl2 := rv2.length
    have hx : xs[n - 1 - i]? = some (xs[n - 1 - i]'(by omega)) := List.getElem?_eq_getElem (by omega)
    have hy : ys[i]? = some (ys[i]'(by omega)) := List.getElem?_eq_getElem (by omega)
    obtain ⟨u, hu, ru⟩ := rv1.get hx
    obtain ⟨v, hv, rv⟩ := rv2.get hy
    have st : ZipSt s.heap z TI TO i1 i2 a b ((n : Int) - 1 - (i : Nat)) i .none := st
    rw [show (n : Int) - 1 - (i : Nat) = ((n - 1 - i : Nat) : Int) by omega] at st
    refine zip_item ap st p1.isList p2.isList (x := u) (y := v) (by simpa using hu) (by simpa using hv) fun h' st' pr k => ⟨_, rfl, ?_⟩
    refine wpAny_letOwnedTupleGo_zip st'.z fun h2 hz2' sb => ?_
    have hp : H s.heap.objs.size = none := I.hok.fresh (Nat.le_refl _)
    have nz : s.heap.objs.size ≠ z := fun e => absurd (Heap.lt_size st.z) (by rw [← e]; exact Nat.lt_irrefl _)
    have k2 : ∀ c o, c ∉ [z, TI, TO, i1, i2] → s.heap.get? c = some o → h2.get? c = some o := fun c o nc e => by
      simp only [List.mem_cons, List.not_mem_nil, or_false, not_or] at nc
      exact (sb.2 c nc.1).trans (k c o nc.1 nc.2.2.1 nc.2.2.2.1 nc.2.2.2.2 e)
    have pr2 : IsPair h2 s.heap.objs.size u v := (sb.2 _ nz).trans pr
    have nfp : ∀ c o, H c = some o → c ∉ [z, TI, TO, i1, i2] := fun c o e hc => by rw [(hf c hc).1] at e; cases e
    have hne : ∀ c o, H c = some o → c ≠ s.heap.objs.size := fun c o e => ne_of_none e hp
    have I2 : Inv X pins σ (upd H s.heap.objs.size (.tup [xs[n - 1 - i]'(by omega), ys[i]'(by omega)])) { s with heap := h2 } := by
      refine I.call' (s' := { s with heap := h2 }) (ch := [z, TI, TO, i1, i2]) rfl ⟨fun c o e n nf nc => k2 c o nc e, fun c o e n hc nc => ⟨o.slots, k2 c o nc e⟩, fun c o e n nc => ?_, fun c o e nc => ⟨o, k2 c o nc e⟩, fun c xs e => ?_, fun c o u e => ?_, fun c ps e => ⟨#[], ?_⟩⟩ (fun c o e => ?_) I.bare fun c hc => ?_
      · rw [upd_ne (Nat.ne_of_lt (Heap.lt_size e))]; exact n
      · rw [upd_ne (hne _ _ e)]; exact e
      · rw [upd_ne (hne _ _ e)]; exact e
      · rw [upd_ne (hne _ _ e), Array.append_empty]; exact e
      · by_cases hc : c = s.heap.objs.size
        · subst hc
          rw [upd_same] at e; cases e
          exact ⟨by show (2 : Nat) ≤ _; decide, [u, v], .cons ru (.cons rv .nil), _, pr2, rfl, _, rfl⟩
        · rw [upd_ne hc] at e
          refine (I.hok c o e).stay (fun d w' hd q => k2 d w' ?_ q) (fun d q => by rw [upd_ne (hne _ _ q)]; exact q) fun d xs q => by rw [upd_ne (hne _ _ q)]; exact q
          rcases hd with rfl | hd
          · exact nfp _ _ e
          · exact nfp _ _ hd
      · obtain ⟨f0, f1, f2, f3, f4, f5⟩ := hf c hc
        exact ⟨f3, f1, f4, f5⟩
    refine ⟨.ref s.heap.objs.size, _, I2, rfl, ⟨_, _, _, rfl, hp, fun xs' h' => by rw [I.list_inj h' hq1]; exact hx, fun ys' h' => by rw [I.list_inj h' hq2]; exact hy, rfl⟩, ?_, fun c hc => ?_⟩
    · have st2 : ZipSt h2 z TI TO i1 i2 a b (((n - 1 - i : Nat) : Int) - 1) (i + 1) .none := by
        obtain ⟨_, a2, ⟨x, y, a3⟩, ⟨o, e, r⟩, ⟨o', e', r'⟩⟩ := st'
        exact ⟨hz2', (sb.2 _ ap.TIz).trans a2, ⟨x, y, (sb.2 _ ap.TOz).trans a3⟩, ⟨o, (sb.2 _ ap.i1z).trans e, r⟩, ⟨o', (sb.2 _ ap.i2z).trans e', r'⟩⟩
      rw [show ((n - 1 - i : Nat) : Int) - 1 = (n : Int) - 1 - ((i + 1 : Nat) : Int) by omega] at st2
      exact st2
    · have lt : c < s.heap.objs.size := by
        simp only [List.mem_cons, List.not_mem_nil, or_false] at hc
        obtain ⟨a1, a2, ⟨x, y, a3⟩, ⟨o, e, _⟩, ⟨o', e', _⟩⟩ := st
        rcases hc with rfl | rfl | rfl | rfl | rfl
        · exact Heap.lt_size a1
        · exact Heap.lt_size a2
        · exact Heap.lt_size a3
        · exact Heap.lt_size e
        · exact Heap.lt_size e'
      rw [upd_ne (Nat.ne_of_lt lt)]; exact (hf c hc).1
  done := by
    intro X hP hw hK hc i pins s σ H E I hf st hg
    subst hP hw hK
    have hg : i = n := hg
    have st : ZipSt s.heap z TI TO i1 i2 a b ((n : Int) - 1 - (i : Nat)) i .none := st
    rw [show (n : Int) - 1 - (i : Nat) = -1 by omega] at st
    obtain ⟨f0, f1, f2, f3, f4, f5⟩ := hf z (by simp)
    exact zip_end (I.ok.hd hc) ap st fun h' k => ⟨rfl, I.turned (t' := s.toks) (fun b o hb e => k b o hb e) f0 f1 f3 f4 f5⟩
  self := fun _ _ _ _ _ st h => wpAny_pyIter_zip st.z h
theorem zipApart_of {n r a b : Nat} (h1 : r < n) (h2 : a < n) (h3 : b < n) (h4 : a ≠ r) (h5 : b ≠ r) : ZipApart (n + 3) (n + 1) (n + 2) r n a b := by
  constructor <;> first | assumption | (show (_ : Nat) ≠ (_ : Nat); omega)
def iZipR (K : PySem.W.Frag) (ta tb : TE) : TI := fun σ H R => ta σ H fun x H1 => ∃ la xs, x = .ref la ∧ SqL K H1 la xs ∧ tb σ H1 fun y H2 => ∃ lb ys, y = .ref lb ∧ SqL K H2 la xs ∧ SqL K H2 lb ys ∧ xs.length = ys.length ∧ R (Itz K la lb xs.length) H2
theorem pi_zipRev {X : Cx} {es : List Expr} {kk : Nat} {tp : Pos} {a b : Expr} {ta tb : TE} {p pos p2 pos2 : Pos} (hg : Gl X "zip") (hm : X.mg "zip" = none) (hg2 : Gl X "reversed") (hm2 : X.mg "reversed" = none) (ha : PE X a ta) (hb : PE X b tb)
    (hs : starEach [.Call (.Name "reversed" p2) [a] [] pos2, b] X.env = [(false, eval (.Call (.Name "reversed" p2) [a] [] pos2) X.env), (false, eval b X.env)] := by rfl) (hs1 : starEach [b] X.env = [(false, eval b X.env)] := by rfl) (hs2 : starEach [a] X.env = [(false, eval a X.env)] := by rfl) :
    PI X (.Tuple es kk tp) (.Call (.Name "zip" p) [.Call (.Name "reversed" p2) [a] [] pos2, b] [] pos) (iZipR X.K ta tb) := by
  intro pins s σ H R I h
  refine Call_ (ld_blt I hg hm boot_zip (PyProof.Rows.callWith_type1 ?_ (by rw [hs, hs1]) (by rw [hs1]; rfl)))
  rw [hs]
  show wpAny _ _ (spliced ((false, eval _ X.env) :: backTo pos [(false, eval b X.env)])) _ _ s
  refine Calls.spliced_cons (Call_ (ld_blt I hg2 hm2 boot_reversed (PyProof.Rows.callWith_type1 ?_ hs2 rfl)))
  refine thn (pa_cons ha pa_nil hs2 pos2 pins s σ H (fun vs H1 => match vs with
    | [x] => ∃ la xs, x = .ref la ∧ SqL X.K H1 la xs ∧ tb σ H1 fun y H2 => ∃ lb ys, y = .ref lb ∧ SqL X.K H2 la xs ∧ SqL X.K H2 lb ys ∧ xs.length = ys.length ∧ R (Itz X.K la lb xs.length) H2
    | _ => False) I h) fun us s1 ⟨vs, H1, I1, r1, q1⟩ => ?_
  match vs, r1, q1 with
  | [x], .cons r .nil, ⟨la, xs, ex, hq, q⟩ =>
  subst ex
  cases r
  obtain ⟨its, rv, pl, hz⟩ := I1.list hq
  have hl := rv.length
  refine call_reversed_list pl.isList ?_
  have e1 : ((its.toArray.size : Nat) : Int) - 1 = (xs.length : Int) - 1 - ((0 : Nat) : Int) := by simp; omega
  have gr : (s1.heap.push (revObj la ((its.toArray.size : Int) - 1))).get? s1.heap.objs.size = some (revObj la ((its.toArray.size : Int) - 1)) := Heap.get?_push_size _ rfl
  have I2 : Inv X (pins ++ [(s1.heap.objs.size, revObj la ((its.toArray.size : Int) - 1))]) σ H1 { s1 with heap := s1.heap.push (revObj la ((its.toArray.size : Int) - 1)) } := by
    have I2 : Inv X pins σ H1 { s1 with heap := s1.heap.push (revObj la ((its.toArray.size : Int) - 1)) } := I1.kept (t' := s1.toks) fun b o e => Heap.get?_push_of_some _ e
    refine I2.pins_of fun p hp => ?_
    rcases List.mem_append.mp hp with hp | hp
    · exact I2.pin p (List.mem_append_right _ hp)
    · have : p = (s1.heap.objs.size, revObj la ((its.toArray.size : Int) - 1)) := by simpa using hp
      subst this
      exact ⟨gr, I1.hok.fresh (Nat.le_refl _), Nat.ne_of_gt I1.lt, I1.nofs (Nat.le_refl _), fun v z => by cases z⟩
  rw [← hs1]
  refine thn (pa_cons hb pa_nil hs1 pos _ _ σ H1 (fun vs H2 => match vs with
    | [y] => ∃ lb ys, y = .ref lb ∧ SqL X.K H2 la xs ∧ SqL X.K H2 lb ys ∧ xs.length = ys.length ∧ R (Itz X.K la lb xs.length) H2
    | _ => False) I2 q) fun us s2 ⟨vs, H2, I3, r2, q2⟩ => ?_
  match vs, r2, q2 with
  | [y], .cons r .nil, ⟨lb, ys, ey, hq1, hq2, hn, q⟩ =>
  subst ey
  cases r
  obtain ⟨its1, rv1, pl1, hz1⟩ := I3.list hq1
  obtain ⟨its2, rv2, pl2, hz2⟩ := I3.list hq2
  obtain ⟨g3, n3, _⟩ := I3.pin (s1.heap.objs.size, revObj la ((its.toArray.size : Int) - 1)) (by simp)
  have g3 : s2.heap.get? s1.heap.objs.size = some (revObj la ((its.toArray.size : Int) - 1)) := g3
  have hr3 : s2.heap.IsRevIter s1.heap.objs.size la ((xs.length : Int) - 1 - ((0 : Nat) : Int)) := by rw [← e1]; exact ⟨_, g3, rfl, rfl⟩
  have lr := Heap.lt_size g3
  have nl : ∀ c its, s2.heap.IsList c its → c ≠ s1.heap.objs.size ∧ c < s2.heap.objs.size := fun c its ⟨o, e, cc, _⟩ => ⟨fun z => by
    rw [z, g3] at e; cases e; exact absurd cc (by show ¬ (Value.type _ = Value.type _); simp), Heap.lt_size e⟩
  obtain ⟨na1, na2⟩ := nl _ _ pl1.isList
  obtain ⟨nb1, nb2⟩ := nl _ _ pl2.isList
  refine call_zip_rev hr3 pl2.isList fun h' st k => ?_
  refine wpAny_pyIter_zip st.z ?_
  have I4 : Inv X pins σ H2 { s2 with heap := h' } := Inv.unpinned (pl := [(s1.heap.objs.size, revObj la ((its.toArray.size : Int) - 1))]) (I3.kept (t' := s2.toks) k)
  refine ⟨_, [s2.heap.objs.size + 3, s2.heap.objs.size + 1, s2.heap.objs.size + 2, s1.heap.objs.size, s2.heap.objs.size], _, _, H2, rfl, I4, turn_zip la lb _ _ _ _ _ xs.length (zipApart_of lr na2 nb2 na1 nb1), st, fun c hc => ?_, q⟩
  have fr : ∀ c, s2.heap.objs.size ≤ c → FpOk X pins H2 c := fun c hc => (Inv.unpinned I3).fpOk hc (I3.hok.fresh hc)
  simp only [List.mem_cons, List.not_mem_nil, or_false] at hc
  rcases hc with rfl | rfl | rfl | rfl | rfl
  · exact fr _ (by omega)
  · exact fr _ (by omega)
  · exact fr _ (by omega)
  · obtain ⟨_, f1, f2, f3, f4, f5⟩ := I1.fpOk (Nat.le_refl _) (I1.hok.fresh (Nat.le_refl _))
    exact ⟨n3, f1, f2, f3, f4, f5⟩
  · exact fr _ (by omega)
theorem for_zipR {K : PySem.W.Frag} {a b : Addr} {xs ys : List V} {g : TG} {tb : TS} {D : Ends} {σ : St} {H : Hp} (hn : xs.length = ys.length) (Pv : Nat → St → Hp → Prop) (h0 : Pv 0 σ H) (hl : ∀ i σ H, i ≤ xs.length → Pv i σ H → SqL K H a xs ∧ SqL K H b ys)
    (hs : ∀ i u v p σ H, i < xs.length → xs[xs.length - 1 - i]? = some u → ys[i]? = some v → H p = none → Pv i σ H → g (.ref p) σ (upd H p (.tup [u, v])) fun σ2 H2 => tb { D with nx := Pv (i + 1), ct := Pv (i + 1), bk := D.nx } σ2 H2) (hd : ∀ σ H, Pv xs.length σ H → D.nx σ H) :
    ∃ W : Nat → Nat → St → Hp → Prop, (∃ m, W 0 m σ H) ∧ ∀ i m σ H, W i m σ H →
      ((Itz K a b xs.length).stop i H ∧ D.nx σ H) ∨ ((Itz K a b xs.length).go i H ∧ ∃ N : St → Hp → Prop, (∀ σ' H', N σ' H' → ∃ m', m' < m ∧ W (i + 1) m' σ' H') ∧ ∀ x H', (Itz K a b xs.length).yld i H x H' → g x σ H' fun σ2 H2 => tb { D with nx := N, ct := N, bk := D.nx } σ2 H2) := by
  refine ⟨fun i m σ H => m = xs.length - i ∧ i ≤ xs.length ∧ Pv i σ H, ⟨xs.length, by simp, Nat.zero_le _, h0⟩, ?_⟩
  rintro i m σ H ⟨rfl, hi, p⟩
  obtain ⟨q1, q2⟩ := hl i σ H hi p
  by_cases hlt : i < xs.length
  · refine .inr ⟨⟨hlt, ⟨xs, q1, rfl⟩, ⟨ys, q2, hn.symm⟩⟩, Pv (i + 1), fun σ' H' p' => ⟨xs.length - (i + 1), by omega, rfl, hlt, p'⟩, fun x H' y => ?_⟩
    obtain ⟨pp, u, v, rfl, hp, y1, y2, rfl⟩ := y
    exact hs i u v pp σ _ hlt (y1 xs q1) (y2 ys q2) hp p
  · have e : i = xs.length := by omega
    subst e
    exact .inl ⟨rfl, hd σ H p⟩
end L2
namespace L2
open PySem PySem.Spec PyProof.Rows
section
variable {X : Cx}
end
end L2
namespace L2
open PySem PySem.Spec PyProof.Rows
abbrev bmVE : List Value := [Value.type "ValueError", Value.type "Exception", Value.type "BaseException", Value.type "object"]
structure QuietAt (K : PySem.W.Frag) (N : Addr) : Prop where
  ok : PySem.W.nsOkIn K N = true
  a : PySem.W.nsIn K N "__init__" = some none
  b : PySem.W.nsIn K N "__getattribute__" = some none
  c : PySem.W.nsIn K N "__getattr__" = some none
  d : PySem.W.nsIn K N "args" = some none
theorem QuietAt.q {K : PySem.W.Frag} {N : Addr} (x : QuietAt K N) : quietIn K N = true := by
  unfold quietIn quietNames
  rw [x.ok]
  simp only [List.all_cons, List.all_nil, Bool.and_true, Bool.true_and]
  rw [x.a, x.b, x.c, x.d]
  simp
theorem nsOk_of {K : PySem.W.Frag} {N : Addr} {c : Value} {d : Option Addr} {es : Array DictEntry} {ep : Nat} {sl : Array (Option Value)} (l : K.lookup N = some ⟨c, d, .dict es ep, sl⟩) (h : (es.toList.all fun e => match e.key with | .str _ _ => true | _ => false) = true) : PySem.W.nsOkIn K N = true := by
  unfold PySem.W.nsOkIn; rw [l]
  show (es.all fun e => match e.key with | .str _ _ => true | _ => false) = true
  rw [← Array.all_toList]; exact h
theorem tailQ_one {K : PySem.W.Frag} {B : Addr} {c : Value} {d : Option Addr} {cd : ClassData} {sl : Array (Option Value)} (l : K.lookup B = some ⟨c, d, .cls cd, sl⟩) (q : QuietAt K cd.ns) : tailQ K bmVE (.ref B :: bmVE) = true := by
  unfold tailQ
  rw [Bool.or_eq_true_iff]
  right
  show (match List.lookup B K with | some ⟨_, _, .cls cd, _⟩ => quietIn K cd.ns && tailQ K bmVE bmVE | _ => false) = true
  rw [show List.lookup B K = _ from l]
  show (quietIn K cd.ns && tailQ K bmVE bmVE) = true
  rw [q.q]; rfl
theorem kit_ref {K : PySem.W.Frag} {c C : Addr} {b : Bool} {d : Option Addr} {cd : ClassData} {sl : Array (Option Value)} (ne : c ≠ C) (l : K.lookup C = some ⟨.type "type", d, .cls cd, sl⟩) (m : PySem.W.mroIn K c (.ref C) = some b) : PySem.W.kitOne K (.ref c) (.ref C) = some b := by
  unfold PySem.W.kitOne
  rw [if_neg (by simpa using ne)]
  have e1 : PySem.W.clsIn K C = some cd := by unfold PySem.W.clsIn; rw [show List.lookup C K = _ from l]
  have e2 : PySem.W.typeIn K (.ref C) = some (.type "type") := by show Option.map (fun x => x.cls) (List.lookup C K) = _; rw [show List.lookup C K = _ from l]; rfl
  show (if ((PySem.W.clsIn K C).isSome && PySem.W.typeIn K (.ref C) == some (.type "type")) = true then PySem.W.mroIn K c (.ref C) else none) = _
  rw [e1, e2]
  rw [if_pos (by simp)]
  exact m
theorem kit_ll {K : PySem.W.Frag} : PySem.W.kitOne K (.type "list") (.type "list") = some true := by unfold PySem.W.kitOne; rw [if_pos (by simp)]
theorem kit_tl {K : PySem.W.Frag} : PySem.W.kitOne K (.type "tuple") (.type "list") = some false := by
  unfold PySem.W.kitOne
  rw [if_neg (by simp)]
  kernel_rfl
end L2
namespace L2
open PySem PySem.Spec PyProof.Rows
section
variable {α β : Type} {f : Nat → Nat → Bool} {n : Nat}
def wpT (f : Nat → Nat → Bool) (n : Nat) : W.KasT α → (α → Prop) → Prop
  | .ret a, C => C a
  | .ask i j k, C => i < n ∧ j < n ∧ i ≠ j ∧ wpT f n (k (f i j)) C
theorem wpT_mono {C D : α → Prop} (h : ∀ a, C a → D a) : ∀ {T : W.KasT α}, wpT f n T C → wpT f n T D
  | .ret a, q => h a q
  | .ask i j k, q => ⟨q.1, q.2.1, q.2.2.1, wpT_mono h q.2.2.2⟩
theorem wpT_bind {g : α → W.KasT β} {C : β → Prop} : ∀ {T : W.KasT α}, wpT f n T (fun a => wpT f n (g a) C) → wpT f n (T.bind g) C
  | .ret a, q => q
  | .ask i j k, q => ⟨q.1, q.2.1, q.2.2.1, wpT_bind q.2.2.2⟩
theorem kasWp_of {cmp : Nat → Nat → (Bool → Shared → Prop) → Shared → Prop} {s : Shared} {D : α → Shared → Prop} (h : ∀ i j (C : Bool → Shared → Prop), i < n → j < n → i ≠ j → C (f i j) s → cmp i j C s) :
    ∀ {T : W.KasT α}, wpT f n T (fun a => D a s) → W.KasT.kasWp cmp T D s
  | .ret a, q => q
  | .ask i j k, q => h i j _ q.1 q.2.1 q.2.2.1 (kasWp_of h q.2.2.2)
end
abbrev gd (p : Array Nat) (x : Nat) : Nat := p.getD x 0
theorem gd_of {p : Array Nat} {x v : Nat} (h : p[x]? = some v) : gd p x = v := by unfold gd; rw [Array.getD_eq_getD_getElem?, h]; rfl
theorem gd_eq {p q : Array Nat} {x y : Nat} (h : p[x]? = q[y]?) : gd p x = gd q y := by unfold gd; rw [Array.getD_eq_getD_getElem?, Array.getD_eq_getD_getElem?, h]
structure Gd (n : Nat) (p : Array Nat) : Prop where
  sz : p.size = n
  pm : p.Perm (List.range n).toArray
theorem Gd.lt {n x : Nat} {p : Array Nat} (g : Gd n p) (h : x < n) : gd p x < n := by
  have hx : x < p.size := by rw [g.sz]; exact h
  have e : p[x]? = some p[x] := Array.getElem?_eq_getElem hx
  rw [gd_of e]
  have m : p[x] ∈ (List.range n).toArray := (g.pm.mem_iff).mp (Array.getElem_mem hx)
  simpa using m
theorem Gd.ne {n x y : Nat} {p : Array Nat} (g : Gd n p) (hx : x < n) (hy : y < n) (h : x ≠ y) : gd p x ≠ gd p y := by
  have hx' : x < p.toList.length := by rw [Array.length_toList, g.sz]; exact hx
  have hy' : y < p.toList.length := by rw [Array.length_toList, g.sz]; exact hy
  have nd : p.toList.Nodup := (g.pm.toList.nodup_iff).mpr (by simpa using List.nodup_range)
  have e1 : gd p x = p.toList[x] := gd_of (by rw [Array.getElem?_eq_getElem (by rw [g.sz]; exact hx)]; simp)
  have e2 : gd p y = p.toList[y] := gd_of (by rw [Array.getElem?_eq_getElem (by rw [g.sz]; exact hy)]; simp)
  rw [e1, e2]
  intro e
  exact h ((List.getElem_inj nd).mp e)
section
variable {key : Nat → Int} {n : Nat}
def Asc (key : Nat → Int) (p : Array Nat) (m : Nat) : Prop := ∀ i j, i < j → j < m → key (gd p i) < key (gd p j)
def Dsc (key : Nat → Int) (p : Array Nat) (m : Nat) : Prop := ∀ i j, i < j → j < m → key (gd p j) < key (gd p i)
abbrev fK (key : Nat → Int) : Nat → Nat → Bool := fun i j => decide (key i < key j)
def Inj (key : Nat → Int) (n : Nat) : Prop := ∀ i j, i < n → j < n → key i = key j → i = j
theorem asc_ok (inj : Inj key n) {p : Array Nat} (g : Gd n p) : ∀ (fuel m : Nat), 1 ≤ m → m + fuel ≤ n → Asc key p m →
    wpT (fK key) n (W.kas_asc p fuel m) fun r => m ≤ r ∧ r ≤ m + fuel ∧ Asc key p r ∧ (r < m + fuel → key (gd p r) < key (gd p (r - 1)))
  | 0, m, h1, h2, a => by rw [W.kas_asc.eq_1]; exact ⟨Nat.le_refl _, Nat.le_refl _, a, fun z => absurd z (Nat.lt_irrefl _)⟩
  | fuel + 1, m, h1, h2, a => by
    rw [W.kas_asc.eq_2]
    have ne := g.ne (x := m) (y := m - 1) (by omega) (by omega) (by omega)
    refine ⟨g.lt (by omega), g.lt (by omega), ne, ?_⟩
    by_cases c : key (gd p m) < key (gd p (m - 1))
    · rw [show fK key (p.getD m 0) (p.getD (m - 1) 0) = true from decide_eq_true c]
      dsimp only
      rw [if_pos rfl]
      exact ⟨Nat.le_refl _, by omega, a, fun _ => c⟩
    · rw [show fK key (p.getD m 0) (p.getD (m - 1) 0) = false from decide_eq_false c]
      dsimp only
      rw [if_neg Bool.false_ne_true]
      have hne : key (gd p m) ≠ key (gd p (m - 1)) := fun e => ne (inj _ _ (g.lt (by omega)) (g.lt (by omega)) e)
      have a' : Asc key p (m + 1) := fun i j hij hj => by
        by_cases hjm : j < m
        · exact a i j hij hjm
        · have e : j = m := by omega
          subst e
          by_cases hi : i = j - 1
          · subst hi; omega
          · have := a i (j - 1) (by omega) (by omega)
            omega
      refine wpT_mono (fun r q => ⟨by omega, by omega, q.2.2.1, fun z => q.2.2.2 (by omega)⟩) (asc_ok inj g fuel (m + 1) (by omega) (by omega) a')
theorem desc_ok (inj : Inj key n) {p : Array Nat} (g : Gd n p) : ∀ (fuel m : Nat), 1 ≤ m → m + fuel ≤ n → Dsc key p m →
    wpT (fK key) n (W.kas_desc fuel p m 0) fun r => r.1 = p ∧ r.2.2 = 0 ∧ m ≤ r.2.1 ∧ r.2.1 ≤ m + fuel ∧ Dsc key p r.2.1
  | 0, m, h1, h2, a => by rw [W.kas_desc.eq_1]; exact ⟨rfl, rfl, Nat.le_refl _, Nat.le_refl _, a⟩
  | fuel + 1, m, h1, h2, a => by
    rw [W.kas_desc.eq_2]
    have ne := g.ne (x := m) (y := m - 1) (by omega) (by omega) (by omega)
    refine ⟨g.lt (by omega), g.lt (by omega), ne, ?_⟩
    by_cases c : key (gd p m) < key (gd p (m - 1))
    · rw [show fK key (p.getD m 0) (p.getD (m - 1) 0) = true from decide_eq_true c]
      dsimp only
      rw [if_pos rfl, if_neg (by omega)]
      have a' : Dsc key p (m + 1) := fun i j hij hj => by
        by_cases hjm : j < m
        · exact a i j hij hjm
        · have e : j = m := by omega
          subst e
          by_cases hi : i = j - 1
          · subst hi; exact c
          · have := a i (j - 1) (by omega) (by omega)
            omega
      exact wpT_mono (fun r q => ⟨q.1, q.2.1, by omega, by omega, q.2.2.2.2⟩) (desc_ok inj g fuel (m + 1) (by omega) (by omega) a')
    · rw [show fK key (p.getD m 0) (p.getD (m - 1) 0) = false from decide_eq_false c]
      dsimp only
      rw [if_neg Bool.false_ne_true]
      have hne : key (gd p m) ≠ key (gd p (m - 1)) := fun e => ne (inj _ _ (g.lt (by omega)) (g.lt (by omega)) e)
      refine ⟨g.lt (by omega), g.lt (by omega), Ne.symm ne, ?_⟩
      rw [show fK key (p.getD (m - 1) 0) (p.getD m 0) = true from decide_eq_true (by show key (gd p (m - 1)) < key (gd p m); omega)]
      dsimp only
      rw [if_pos rfl]
      exact ⟨rfl, rfl, Nat.le_refl _, by show m ≤ m + (fuel + 1); omega, a⟩
theorem count_ok (inj : Inj key n) {p : Array Nat} (g : Gd n p) (h2 : 2 ≤ n) : wpT (fK key) n (W.kas_count n p) fun r => Gd n r.2 ∧ 1 ≤ r.1 ∧ r.1 ≤ n ∧ Asc key r.2 r.1 := by
  unfold W.kas_count
  refine wpT_bind (wpT_mono (fun r q => ?_) (asc_ok inj g (n - 1) 1 (Nat.le_refl _) (by omega) (fun i j _ _ => by omega)))
  obtain ⟨q1, q2, q3, q4⟩ := q
  by_cases e : r = n
  · rw [if_pos (by simpa using e)]
    exact ⟨g, q1, by omega, q3⟩
  rw [if_neg (by simpa using e)]
  by_cases e1 : r > 1
  · rw [if_pos e1]
    refine ⟨g.lt (by omega), g.lt (by omega), g.ne (by omega) (by omega) (by omega), ?_⟩
    rw [show fK key (p.getD 0 0) (p.getD (r - 1) 0) = true from decide_eq_true (q3 0 (r - 1) (by omega) (by omega))]
    dsimp only
    rw [if_pos rfl]
    exact ⟨g, q1, by omega, q3⟩
  rw [if_neg e1]
  have er : r = 1 := by omega
  subst er
  have q4 := q4 (by omega)
  unfold W.kas_descPart
  refine wpT_bind (wpT_mono (fun r q => ?_) (desc_ok inj g (n - (1 + 1)) (1 + 1) (by omega) (by omega) (fun i j hij hj => by
    have : i = 0 := by omega
    have : j = 1 := by omega
    subst i j; exact q4)))
  obtain ⟨d1, d2, d3, d4, d5⟩ := q
  rw [d1, d2, if_neg (by omega)]
  unfold W.kas_tail3
  have gm : ∀ k, gd (W.kas_rev p 0 r.2.1) k = if k < r.2.1 then gd p (r.2.1 - 1 - k) else gd p k := fun k => by
    have z := getElem?_mirror_all (xs := p) (i := 0) (j := r.2.1) (by rw [g.sz]; omega) k
    unfold W.kas_rev
    by_cases hk : k < r.2.1
    · rw [if_pos hk]
      rw [if_pos ⟨Nat.zero_le _, hk⟩] at z
      exact gd_eq (by rw [z]; congr 1; omega)
    · rw [if_neg hk]
      rw [if_neg (fun y => hk y.2)] at z
      exact gd_eq z
  have g' : Gd n (W.kas_rev p 0 r.2.1) := ⟨by unfold W.kas_rev; rw [mirror_size, g.sz], by unfold W.kas_rev; exact (mirror_perm _ _ _ _).trans g.pm⟩
  have a' : Asc key (W.kas_rev p 0 r.2.1) r.2.1 := fun i j hij hj => by
    rw [gm, gm, if_pos (by omega), if_pos hj]
    exact d5 _ _ (by omega) (by omega)
  refine wpT_bind (wpT_mono (fun m q => ?_) (asc_ok inj g' (n - r.2.1) r.2.1 (by omega) (by omega) a'))
  exact ⟨g', by omega, by omega, q.2.2.1⟩
theorem place_ok (inj : Inj key n) {p : Array Nat} (g : Gd n p) {k : Nat} (hk : k < n) (a : Asc key p k) : ∀ (fuel lo hi : Nat), hi - lo ≤ fuel → lo ≤ hi → hi ≤ k → (∀ i, i < lo → key (gd p i) < key (gd p k)) → (∀ i, hi ≤ i → i < k → key (gd p k) < key (gd p i)) →
    wpT (fK key) n (W.kas_place p k fuel lo hi) fun l => l ≤ k ∧ (∀ i, i < l → key (gd p i) < key (gd p k)) ∧ ∀ i, l ≤ i → i < k → key (gd p k) < key (gd p i)
  | 0, lo, hi, h1, h2, h3, h4, h5 => by
    rw [W.kas_place.eq_1]
    have e : hi = lo := by omega
    subst e
    exact ⟨h3, h4, h5⟩
  | fuel + 1, lo, hi, h1, h2, h3, h4, h5 => by
    rw [W.kas_place.eq_2]
    by_cases e : lo ≥ hi
    · rw [if_pos e]
      have e : hi = lo := by omega
      subst e
      exact ⟨h3, h4, h5⟩
    rw [if_neg e]
    have ne := g.ne (x := k) (y := (lo + hi) / 2) hk (by omega) (by omega)
    refine ⟨g.lt hk, g.lt (by omega), ne, ?_⟩
    by_cases c : key (gd p k) < key (gd p ((lo + hi) / 2))
    · rw [show fK key (p.getD k 0) (p.getD ((lo + hi) / 2) 0) = true from decide_eq_true c]
      dsimp only
      rw [if_pos rfl]
      refine place_ok inj g hk a fuel lo ((lo + hi) / 2) (by omega) (by omega) (by omega) h4 fun i hi1 hi2 => ?_
      by_cases z : i = (lo + hi) / 2
      · rw [z]; exact c
      · have := a ((lo + hi) / 2) i (by omega) hi2; omega
    · rw [show fK key (p.getD k 0) (p.getD ((lo + hi) / 2) 0) = false from decide_eq_false c]
      dsimp only
      rw [if_neg Bool.false_ne_true]
      have hne : key (gd p k) ≠ key (gd p ((lo + hi) / 2)) := fun e => ne (inj _ _ (g.lt hk) (g.lt (by omega)) e)
      refine place_ok inj g hk a fuel ((lo + hi) / 2 + 1) hi (by omega) (by omega) h3 (fun i hi1 => ?_) h5
      by_cases z : i = (lo + hi) / 2
      · rw [z]; omega
      · have := a i ((lo + hi) / 2) (by omega) (by omega); omega
theorem bin_ok (inj : Inj key n) : ∀ (fuel k : Nat) (p : Array Nat), Gd n p → k + fuel = n → Asc key p k → wpT (fK key) n (W.kas_bin fuel p k) fun p' => Gd n p' ∧ Asc key p' n
  | 0, k, p, g, h, a => by
    rw [W.kas_bin.eq_1]
    have e : k = n := by omega
    rw [← e]; exact ⟨by rw [e]; exact g, a⟩
  | fuel + 1, k, p, g, h, a => by
    rw [W.kas_bin.eq_2]
    refine wpT_bind (wpT_mono (fun l q => ?_) (place_ok inj g (k := k) (by omega) a k 0 k (by omega) (by omega) (Nat.le_refl _) (fun i z => absurd z (Nat.not_lt_zero _)) (fun i z1 z2 => absurd z2 (by omega))))
    obtain ⟨q1, q2, q3⟩ := q
    have gm : ∀ j, gd (bubble p k (k - l)) j = if j = l then gd p k else if l < j ∧ j ≤ k then gd p (j - 1) else gd p j := fun j => by
      have z := getElem?_bubble (xs := p) (src := k) (by rw [g.sz]; omega) (k - l) (by omega) j
      rw [show k - (k - l) = l by omega] at z
      by_cases c1 : j = l
      · rw [if_pos c1] at z ⊢; exact gd_eq z
      · rw [if_neg c1] at z ⊢
        by_cases c2 : l < j ∧ j ≤ k
        · rw [if_pos c2] at z ⊢; exact gd_eq z
        · rw [if_neg c2] at z ⊢; exact gd_eq z
    refine bin_ok inj fuel (k + 1) _ ⟨by rw [bubble_size, g.sz], (bubble_perm _ _ _).trans g.pm⟩ (by omega) fun i j hij hj => ?_
    rw [gm, gm]
    by_cases c1 : i = l
    · rw [if_pos c1, if_neg (by omega), if_pos (by omega)]
      exact q3 _ (by omega) (by omega)
    · rw [if_neg c1]
      by_cases c2 : j = l
      · rw [if_pos c2, if_neg (by omega)]
        exact q2 i (by omega)
      · rw [if_neg c2]
        by_cases c3 : l < i ∧ i ≤ k
        · rw [if_pos c3, if_pos (by omega)]
          exact a _ _ (by omega) (by omega)
        · rw [if_neg c3]
          by_cases c4 : l < j ∧ j ≤ k
          · rw [if_pos c4]
            exact a _ _ (by omega) (by omega)
          · rw [if_neg c4]
            exact a _ _ hij (by omega)
theorem sort_ok (inj : Inj key n) (h2 : 2 ≤ n) : wpT (fK key) n (W.kas_sort n) fun p => Gd n p ∧ Asc key p n := by
  unfold W.kas_sort
  have g0 : Gd n (List.range n).toArray := ⟨by simp, .refl _⟩
  refine wpT_bind (wpT_mono (fun r q => ?_) (count_ok inj g0 h2))
  obtain ⟨q1, q2, q3, q4⟩ := q
  by_cases c : r.1 < n
  · rw [if_pos c, show max r.1 1 = r.1 by omega]
    exact bin_ok inj _ _ _ q1 (by omega) q4
  · rw [if_neg c]
    have e : r.1 = n := by omega
    rw [e] at q4
    exact ⟨q1, q4⟩
end
end L2
namespace L2
open PySem PySem.Spec PyProof.Rows
theorem sort_free {prog : Program} {w : World} {A : Around} {E : Value → Shared → Prop} {s : Shared} {a : Addr} {vs : List Value} {n : Nat} {key : Nat → Int} {P : PySem.Fin → Shared → Prop}
    (ha : s.heap.get? a = some (seqObj "list" vs.toArray n)) (hl : vs.length < 64) (inj : Inj key vs.length)
    (hk : ∀ h' : Heap, (∀ b o, b ≠ a → s.heap.get? b = some o → h'.get? b = some o) → 2 ≤ vs.length → ∃ κ, (∀ {Q : SortKind → Shared → Prop} {E : Value → Shared → Prop}, Q κ { s with heap := h' } → wpAny (model prog w) A (keyKind' vs.toArray) Q E { s with heap := h' }) ∧
      ∀ i j (C : Bool → Shared → Prop), i < vs.length → j < vs.length → i ≠ j → C (fK key i j) { s with heap := h' } → W.kas_ask prog w A κ vs i j C { s with heap := h' })
    (h : ∀ (h' : Heap) (p : Array Nat) (k : Nat), Gd vs.length p → Asc key p vs.length → (∀ b o, b ≠ a → s.heap.get? b = some o → h'.get? b = some o) → h'.get? a = some (seqObj "list" (p.toList.map fun i => vs.getD i .none).toArray k) → P (.done (.ret .none)) { s with heap := h' }) :
    wpAny (model prog w) A (Builtin.«list.sort» { pos := [.ref a] }) P E s := by
  unfold Builtin.«list.sort»
  dsimp only
  rw [if_neg (by simp), if_neg (by simp)]
  refine wpAny_bind ?_
  rw [List.forIn_nil]
  refine wpAny_pure ?_
  refine wpAny_bind (wpAny_pure ?_)
  refine wpAny_bind (listItems_at ha rfl ?_)
  refine wpAny_bind (listUpdate_at ha rfl ?_ (by simp; have : sizeLine = 16777216 := (by decide); omega) (by simp))
  obtain ⟨k1, gs⟩ : ∃ k1, (s.heap.update a (Obj.mapSeq fun _ => #[])).get? a = some (seqObj "list" #[] k1) := ⟨_, Heap.get?_update_self _ ha rfl⟩
  have kp1 : ∀ b o, b ≠ a → s.heap.get? b = some o → (s.heap.update a (Obj.mapSeq fun _ => #[])).get? b = some o := fun b o n e => by rw [Heap.get?_update_ne _ _ _ _ n]; exact e
  generalize s.heap.update a (Obj.mapSeq fun _ => #[]) = h1 at gs kp1 ⊢
  have hsz : sizeLine = 16777216 := by decide
  refine wpAny_bind (seqEpoch_at gs rfl ?_)
  refine wpAny_bind (wpAny_newTuple ?_ (by simp; omega))
  refine wpAny_bind (wpAny_newList ?_ (by simp))
  refine wpAny_holding ?_
  have kp3 : ∀ b o, b ≠ a → s.heap.get? b = some o → ((h1.push { cls := .type "tuple", data := .seq vs.toArray.toList.toArray }).push { cls := .type "list", data := .seq ([] : List Value).toArray }).get? b = some o := fun b o n e => Heap.get?_push_of_some _ (Heap.get?_push_of_some _ (kp1 b o n e))
  have gs3 : ((h1.push { cls := .type "tuple", data := .seq vs.toArray.toList.toArray }).push { cls := .type "list", data := .seq ([] : List Value).toArray }).get? a = some (seqObj "list" #[] k1) := Heap.get?_push_of_some _ (Heap.get?_push_of_some _ gs)
  generalize (h1.push { cls := .type "tuple", data := .seq vs.toArray.toList.toArray }).push { cls := .type "list", data := .seq ([] : List Value).toArray } = h3 at kp3 gs3 ⊢
  have hkf : ((List.lookup (Str.ofString "key") ([] : List (Str × Value))).getD Value.none != Value.none) = false := by decide
  have fin : ∀ (st : SortSt) (p : Array Nat) (s' : Shared), s' = { s with heap := h3 } → Gd vs.length p → Asc key p vs.length → arrOf st = Array.map (W.kas_item (vs.toArray.zip vs.toArray)) p → failedOf st = none →
      wpAny (model prog w) A (do
        let __do_lift ← seqEpoch a
        Builtin.List.listUpdate (.ref a) fun x => Array.map (fun x => x.snd) (arrOf st)
        match failedOf st with
          | some e => do
            rule "list.sort.comparison-raised"
            throw e
            if (__do_lift != k1) = true then do
                rule "list.sort.modified"
                raiseErrorWords "ValueError" "list modified during sort"
                ret Value.none
              else ret Value.none
          | x =>
            if (__do_lift != k1) = true then do
              rule "list.sort.modified"
              raiseErrorWords "ValueError" "list modified during sort"
              ret Value.none
            else ret Value.none) P E s' := fun st p s' es g as har hf => by
    subst es
    refine wpAny_bind (seqEpoch_at gs3 rfl ?_)
    have em : Array.map (fun x => x.snd) (arrOf st) = (p.toList.map fun i => vs.getD i .none).toArray := by
      rw [har]
      apply Array.ext'
      simp only [Array.toList_map, List.map_map]
      refine List.map_congr_left fun i _ => ?_
      show (W.kas_item (pairsOf vs) i).2 = _
      rw [W.kas_item_eq]
    refine wpAny_bind (listUpdate_at gs3 rfl ?_ (by simp) (by rw [em]; simp; rw [g.sz]; omega))
    rw [hf]
    show wpAny _ _ (if (k1 != k1) = true then _ else _) _ _ _
    rw [if_neg (by simp)]
    refine wpAny_pure ?_
    obtain ⟨k2, z⟩ : ∃ k2, (h3.update a (Obj.mapSeq fun x => Array.map (fun x => x.snd) (arrOf st))).get? a = some (seqObj "list" (Array.map (fun x => x.snd) (arrOf st)) k2) := ⟨_, Heap.get?_update_self _ gs3 rfl⟩
    have z : (h3.update a (Obj.mapSeq fun x => Array.map (fun x => x.snd) (arrOf st))).get? a = some (seqObj "list" (p.toList.map fun i => vs.getD i .none).toArray k2) := by rw [z, em]
    exact h _ p k2 g as (fun b o n e => by
      show (h3.update a _).get? b = some o
      rw [Heap.get?_update_ne _ _ _ _ n]; exact kp3 b o n e) z
  simp only [hkf, Bool.false_eq_true, if_false]
  refine wpAny_bind (wpAny_pure ?_)
  by_cases h2 : vs.length < 2
  · simp only [show (vs.toArray.size < 2) = True from eq_true (by simpa using h2), if_true]
    refine wpAny_bind (wpAny_pure ?_)
    refine wpAny_bind (wpAny_pure ?_)
    refine fin _ (List.range vs.length).toArray _ rfl ⟨by simp, .refl _⟩ (fun i j z1 z2 => absurd z2 (by omega)) ?_ rfl
    show vs.toArray.zip vs.toArray = _
    have := W.kas_range (vs.toArray.zip vs.toArray)
    rw [show (vs.toArray.zip vs.toArray).size = vs.length by simp] at this
    exact this.symm
  · simp only [show (vs.toArray.size < 2) = False from eq_false (by simpa using h2), if_false]
    obtain ⟨κ, hk1, hk2⟩ := hk h3 kp3 (by omega)
    refine wpAny_bind (hk1 ?_)
    refine wpAny_bind ?_
    refine thn (W.kat_run (vs := vs) (ks := vs) (κ := κ) (Q := fun st s' => ∃ p, s' = { s with heap := h3 } ∧ Gd vs.length p ∧ Asc key p vs.length ∧ arrOf st = Array.map (W.kas_item (vs.toArray.zip vs.toArray)) p ∧ failedOf st = none) (G := fun p s' => s' = { s with heap := h3 } ∧ Gd vs.length p ∧ Asc key p vs.length) rfl (by omega) hl (fun p st' s' hp ha' hf hg => ⟨p, hg.1, hg.2.1, hg.2.2, ha', hf⟩) ?_) fun r s' ⟨p, e1, e2, e3, e4, e5⟩ => ?_
    · exact kasWp_of (f := fK key) (n := vs.length) hk2 (wpT_mono (fun p q => ⟨rfl, q⟩) (sort_ok inj (by omega)))
    · exact fin r.2 p s' e1 e2 e3 e4 e5
end L2
namespace L2
open PySem PySem.Spec PyProof.Rows
theorem sorted_free {prog : Program} {w : World} {A : Around} {E : Value → Shared → Prop} {s : Shared} {v : Value} {Q : Value → Shared → Prop}
    (hc : ∀ {R : List Value → Shared → Prop} {E' : Value → Shared → Prop}, (∀ (vs : List Value) (s1 : Shared), (∃ key, vs.length < 64 ∧ Inj key vs.length ∧ (∀ b o, s.heap.get? b = some o → s1.heap.get? b = some o) ∧ s1.gens = s.gens ∧ s1.drawn = s.drawn ∧ s1.os = s.os ∧
        (∀ h' : Heap, (∀ b o, s1.heap.get? b = some o → h'.get? b = some o) → 2 ≤ vs.length → ∃ κ, (∀ {Q : SortKind → Shared → Prop} {E : Value → Shared → Prop}, Q κ { s1 with heap := h' } → wpAny (model prog w) A.in1.in1 (keyKind' vs.toArray) Q E { s1 with heap := h' }) ∧
          ∀ i j (C : Bool → Shared → Prop), i < vs.length → j < vs.length → i ≠ j → C (fK key i j) { s1 with heap := h' } → W.kas_ask prog w A.in1.in1 κ vs i j C { s1 with heap := h' }) ∧
        (∀ (h' : Heap) (l : Addr) (p : Array Nat) (k : Nat), Gd vs.length p → Asc key p vs.length → s1.heap.objs.size ≤ l → (∀ b o, s1.heap.get? b = some o → h'.get? b = some o) → h'.get? l = some (seqObj "list" (p.toList.map fun i => vs.getD i .none).toArray k) → Q (.ref l) { s1 with heap := h' })) → R vs s1) →
      wpAny (model prog w) A.in1 (collect v) R E' s) :
    wpAny (model prog w) A (call (.builtin "sorted") [v]) Q E s := by
  refine Calls.call_function_entry kind_sorted plain_sorted entry_sorted (args_sorted1 _) ?_
  unfold Builtin.sorted
  refine wpAny_bind (wpAny_pure ?_)
  refine wpAny_bind (hc fun vs s1 h => ?_)
  obtain ⟨key, hl, inj, kp, e1, e2, e3, hk, h⟩ := h
  have hsz : sizeLine = 16777216 := by decide
  refine wpAny_bind (wpAny_newList ?_ (by omega))
  refine wpAny_bind (wpAny_holding ?_)
  have ty : Shared.TypeIs { s1 with heap := s1.heap.push { cls := .type "list", data := .seq vs.toArray } } (.ref s1.heap.objs.size) "list" := ⟨_, Heap.get?_push_size _ rfl, rfl⟩
  refine wpAny_call (codeAny_call_builtin PySem.F.slot_list_sort.plain PySem.F.entry_list_sort ?_)
  refine PySem.F.slot_list_sort.check _ _ _ _ _ _ _ _ ty (PySem.F.args_list_sort_1 _) ?_
  have gl : (s1.heap.push { cls := .type "list", data := .seq vs.toArray }).get? s1.heap.objs.size = some (seqObj "list" vs.toArray 0) := Heap.get?_push_size _ rfl
  have nl : ∀ b o, s1.heap.get? b = some o → b ≠ s1.heap.objs.size := fun b o e => Nat.ne_of_lt (Heap.lt_size e)
  refine sort_free (s := { s1 with heap := s1.heap.push { cls := .type "list", data := .seq vs.toArray } }) (key := key) gl hl inj (fun h' k' h2 => ?_) (fun h' p k g as k' gl' => ?_)
  · exact hk h' (fun b o e => k' b o (nl b o e) (Heap.get?_push_of_some _ e)) h2
  · exact wpAny_pure ⟨_, rfl, h h' _ p k g as (Nat.le_refl _) (fun b o e => k' b o (nl b o e) (Heap.get?_push_of_some _ e)) gl'⟩
section
variable {X : Cx} {pins : List (Addr × Obj)} {σ : St} {H H' : Hp} {s : Shared} {h' : Heap}
theorem Inv.more {t' : Nat} (I : Inv X pins σ H s) (k : ∀ b o, s.heap.get? b = some o → h'.get? b = some o) (e : ∀ b o, H b = some o → H' b = some o) (f : ∀ b o, H' b = some o → H b = none → s.heap.get? b = none)
    (hok : ∀ b o, H b = none → H' b = some o → ObjOk X.prog X.w H' h' b o) : Inv X pins σ H' { s with heap := h', toks := t' } := by
  refine I.un ⟨fun b o q _ _ _ => k b o q, fun b o q _ _ _ => ⟨o.slots, k b o q⟩, fun b o q n _ => ?_, fun b o q _ => ⟨o, k b o q⟩, fun b xs q => e b _ q, fun b o u q => e b _ q, fun b ps q => ⟨#[], by rw [Array.append_empty]; exact e b _ q⟩⟩ (fun b o q => ?_)
  · cases z : H' b with
    | none => rfl
    | some u => rw [f b u z n] at q; cases q
  · cases z : H b with
    | none => exact hok b o z q
    | some u =>
      have := e b u z
      rw [q] at this; cases this
      exact (I.hok b o z).stay (fun c v _ y => k c v y) (fun c y => e c _ y) fun c xs y => e c _ y
end
def IntK (kvs : List (Key × V)) : Prop := ∀ p ∈ kvs, ∃ i, p.1 = .inl i
def keyI : Key → Int
  | .inl i => i
  | .inr _ => 0
theorem nodup_key {kvs : List (Key × V)} (hi : IntK kvs) (nd : (kvs.map (·.1)).Nodup) : Inj (fun j => keyI ((kvs.map (·.1)).getD j (.inl 0))) kvs.length := fun i j h1 h2 e => by
  have l : (kvs.map (·.1)).length = kvs.length := by simp
  have e1 : (kvs.map (·.1)).getD i (.inl 0) = (kvs.map (·.1))[i]'(by omega) := by rw [List.getD_eq_getElem?_getD, List.getElem?_eq_getElem (by omega)]; rfl
  have e2 : (kvs.map (·.1)).getD j (.inl 0) = (kvs.map (·.1))[j]'(by omega) := by rw [List.getD_eq_getElem?_getD, List.getElem?_eq_getElem (by omega)]; rfl
  have e : keyI ((kvs.map (·.1)).getD i (.inl 0)) = keyI ((kvs.map (·.1)).getD j (.inl 0)) := e
  rw [e1, e2] at e
  obtain ⟨a, ha⟩ := hi kvs[i] (List.getElem_mem h1)
  obtain ⟨b, hb⟩ := hi kvs[j] (List.getElem_mem h2)
  have f1 : (kvs.map (·.1))[i]'(by omega) = .inl a := by rw [List.getElem_map]; exact ha
  have f2 : (kvs.map (·.1))[j]'(by omega) = .inl b := by rw [List.getElem_map]; exact hb
  rw [f1, f2] at e
  have e : a = b := e
  refine (List.getElem_inj nd (h₀ := by omega) (h₁ := by omega)).mp ?_
  rw [f1, f2, e]
end L2
namespace L2
open PySem PySem.Spec PyProof.Rows
theorem KV.at {kvs : List (Key × V)} {vs : List (Key × Value)} (r : KV kvs vs) : ∀ {j : Nat} {k : Key} {x : Value}, vs[j]? = some (k, x) → ∃ v, kvs[j]? = some (k, v) ∧ RelV v x := by
  induction r with
  | nil => intro j k x h; simp at h
  | cons h t ih =>
    intro j k x e
    cases j with
    | zero =>
      simp only [List.getElem?_cons_zero, Option.some.injEq] at e
      rename_i a b _ _
      refine ⟨a.2, ?_, ?_⟩
      · simp only [List.getElem?_cons_zero, Option.some.injEq]
        have := h.1
        rw [e] at this
        exact Prod.ext this rfl
      · have := h.2
        rw [e] at this; exact this
    | succ j => exact ih (by simpa using e)
theorem KV.len {kvs : List (Key × V)} {vs : List (Key × Value)} (r : KV kvs vs) : kvs.length = vs.length := Paired.length r
theorem KV.fsts {kvs : List (Key × V)} {vs : List (Key × Value)} (r : KV kvs vs) : kvs.map (·.1) = vs.map (·.1) := by
  induction r with
  | nil => rfl
  | cons h t ih => rw [List.map_cons, List.map_cons, ih, h.1]
abbrev kAt (kvs : List (Key × V)) (j : Nat) : Int := keyI ((kvs.map (·.1)).getD j (.inl 0))
theorem kAt_of {kvs : List (Key × V)} {j : Nat} {i : Int} {v : V} (h : kvs[j]? = some (.inl i, v)) : kAt kvs j = i := by
  unfold kAt
  rw [List.getD_eq_getElem?_getD, List.getElem?_map, h]; rfl
theorem is_int {P : Program} {w : World} {i : Int} {v : Value} (h : (mixKind P w).is (.inl i) v = true) : ∃ t, v = .int i t := by
  rw [mixKind_is] at h
  have h : Value.isInt i v = true := h
  cases v <;> first
    | (simp [Value.isInt] at h; done)
    | (simp only [Value.isInt, beq_iff_eq] at h; exact ⟨_, by rw [h]⟩)
theorem asc_pairwise {key : Nat → Int} {n : Nat} {p : Array Nat} (g : Gd n p) (a : Asc key p n) : (p.toList.map key).Pairwise (· < ·) := by
  rw [List.pairwise_iff_getElem]
  intro i j hi hj hij
  rw [List.length_map, Array.length_toList, g.sz] at hi hj
  have z := a i j hij hj
  have e : ∀ k, (hk : k < n) → gd p k = p.toList[k]'(by rw [Array.length_toList, g.sz]; exact hk) := fun k hk => gd_of (by rw [Array.getElem?_eq_getElem (by rw [g.sz]; exact hk)]; simp)
  rw [e i hi, e j hj] at z
  simpa using z
section
variable {X : Cx}
def viewO (d : Addr) : Obj := { cls := .type "dict_items", data := .fields #[.ref d] }
theorem mt_items : MtR X "dict.items" (fun x vs H Q => ∃ d kvs, x = .ref d ∧ vs = [] ∧ H d = some (.dK kvs) ∧ ∀ p, H p = none → Q (.ref p) (upd H p (.frz (viewO d) (.own 0)))) := by
  intro pins s σ H x vs v us Q I rx rv h
  obtain ⟨d, kvs, rfl, rfl, hd, q⟩ := h
  obtain rfl : v = Value.ref d := rx
  cases rv.zero
  obtain ⟨hz, hS, ws, rel, dd⟩ := dk_of I.hok hd
  refine call_meetsIn PySem.F.slot_dict_items dd.typeIs PySem.F.entry_dict_items (PySem.F.args_dict_items_1 _) (meets_dict_items (mixKind X.prog X.w) d hS) ⟨⟨_, dd⟩, ?_⟩
  have hf : H s.heap.objs.size = none := I.hok.fresh (Nat.le_refl _)
  have g : (s.heap.push (viewO d)).get? s.heap.objs.size = some (viewO d) := Heap.get?_push_size _ rfl
  refine ⟨.ref s.heap.objs.size, _, I.laid (t' := s.toks) (fun b u e => Heap.get?_push_of_some _ e) (Nat.le_refl _) ?_, rfl, q _ hf⟩
  exact ⟨g, _, g⟩
theorem katTups_of {h : Heap} {PF : Value → Prop} : ∀ (vs : List Value), (∀ v ∈ vs, ∃ a o xs n f, v = Value.ref a ∧ h.get? a = some o ∧ o.cls = .type "tuple" ∧ o.data = .seq xs n ∧ xs[0]? = some f ∧ PF f) → ∃ fs, W.KatTups h vs fs ∧ fs.length = vs.length ∧ ∀ f ∈ fs, PF f
  | [], _ => ⟨[], by rw [W.KatTups.eq_1]; trivial, rfl, by simp⟩
  | v :: vs, hv => by
    obtain ⟨a, o, xs, n, f, e1, e2, e3, e4, e5, e6⟩ := hv v (by simp)
    obtain ⟨fs, i1, i2, i3⟩ := katTups_of vs fun u hu => hv u (by simp [hu])
    refine ⟨f :: fs, ?_, by simp [i2], fun g hg => ?_⟩
    · rw [W.KatTups.eq_2]
      exact ⟨⟨a, o, xs, n, e1, e2, e3, e4, e5⟩, i1⟩
    · rcases List.mem_cons.mp hg with rfl | hg
      · exact e6
      · exact i3 g hg
theorem lookup_zip {as : List Addr} {kvs : List (Key × V)} (nd : as.Nodup) (hl : as.length = kvs.length) {j : Nat} {a : Addr} (h : as[j]? = some a) : (as.zip kvs).lookup a = kvs[j]? := by
  induction as generalizing kvs j with
  | nil => simp at h
  | cons b r ih =>
    cases kvs with
    | nil => simp at hl
    | cons kv kr =>
      rw [List.zip_cons_cons, List.lookup_cons]
      cases j with
      | zero =>
        simp at h; subst h; simp
      | succ j =>
        have h' : r[j]? = some a := by simpa using h
        have hne : a ≠ b := fun e => by
          have := (List.nodup_cons.mp nd).1
          exact this (e ▸ List.mem_of_getElem? h')
        rw [show (a == b) = false by simpa using hne]
        simpa using ih (List.nodup_cons.mp nd).2 (by simpa using hl) h'
theorem lookup_none {as : List Addr} {kvs : List (Key × V)} {b : Addr} (h : b ∉ as) : (as.zip kvs).lookup b = none := by
  induction as generalizing kvs with
  | nil => simp
  | cons c r ih =>
    cases kvs with
    | nil => simp
    | cons kv kr =>
      rw [List.zip_cons_cons, List.lookup_cons]
      have : b ≠ c := fun e => h (by simp [e])
      rw [show (b == c) = false by simpa using this]
      exact ih fun z => h (by simp [z])
abbrev vAt (kvs : List (Key × V)) (j : Nat) : V := (kvs.map (·.2)).getD j .non
theorem vAt_of {kvs : List (Key × V)} {j : Nat} {k : Key} {v : V} (h : kvs[j]? = some (k, v)) : vAt kvs j = v := by
  unfold vAt
  rw [List.getD_eq_getElem?_getD, List.getElem?_map, h]; rfl
theorem perm_rows {kvs : List (Key × V)} {p : Array Nat} (g : Gd kvs.length p) : (p.toList.map fun i => (kAt kvs i, vAt kvs i)).Perm (kvs.map fun q => (keyI q.1, q.2)) := by
  have h1 : (p.toList.map fun i => (kAt kvs i, vAt kvs i)).Perm ((List.range kvs.length).map fun i => (kAt kvs i, vAt kvs i)) := by
    have := g.pm.toList
    exact List.Perm.map _ (by simpa using this)
  refine h1.trans (List.Perm.of_eq ?_)
  apply List.ext_getElem?
  intro j
  rw [List.getElem?_map, List.getElem?_map]
  by_cases h : j < kvs.length
  · rw [List.getElem?_range h, List.getElem?_eq_getElem h]
    show some (kAt kvs j, vAt kvs j) = some (keyI kvs[j].1, kvs[j].2)
    unfold kAt vAt
    rw [List.getD_eq_getElem?_getD, List.getElem?_map, List.getElem?_eq_getElem h, List.getD_eq_getElem?_getD, List.getElem?_map, List.getElem?_eq_getElem h]; rfl
  · rw [List.getElem?_eq_none (by simp; omega), List.getElem?_eq_none (by omega)]; rfl
theorem call_sortedI (hcm : X.calm = true) : CallR X (.builtin "sorted") (fun xs H Q => ∃ v d kvs, xs = [.ref v] ∧ H v = some (.frz (viewO d) (.own 0)) ∧ H d = some (.dK kvs) ∧ IntK kvs ∧ kvs.length < 64 ∧
    ∀ l (as : List Addr) (rows : List (Int × V)) H', (∀ b o, H b = some o → H' b = some o) → H l = none → H' l = some (.lst (as.map V.ref)) → Paired (fun a (r : Int × V) => H' a = some (.tup [.int r.1, r.2])) as rows →
      (rows.map (·.1)).Pairwise (· < ·) → rows.Perm (kvs.map fun q => (keyI q.1, q.2)) → Q (.ref l) H') := by
  intro pins s σ H xs us Q I r h
  obtain ⟨v, d, kvs, rfl, hv, hd, hi, hl, q⟩ := h
  obtain ⟨u, rfl, ru⟩ := vals1 r
  obtain rfl : u = Value.ref v := ru
  obtain ⟨hz, hS, vs, rel, o, es, ep, dd⟩ := dk_of I.hok hd
  have hlen := rel.len
  have nd : (kvs.map (·.1)).Nodup := by rw [rel.fsts]; exact dd.2.2.2.2.2
  have hh : X.A.in1.handled = none := I.ok.hd hcm
  have hview : s.heap.IsItemsView v d := ⟨_, (I.hok _ _ hv).1, rfl, rfl⟩
  refine sorted_free fun {R E'} k => W.kdx_collect (knd := mixKind X.prog X.w) hh hview ⟨o, es, dd⟩ (by rw [← hlen]; exact hz) fun h1 tk as kp la G => ?_
  have la' : as.length = kvs.length := by rw [la, hlen]
  have nda : as.Nodup := G.rise.imp fun z => Nat.ne_of_lt z
  have at_ : ∀ j, j < kvs.length → ∃ a t x i vv, as[j]? = some a ∧ kvs[j]? = some (.inl i, vv) ∧ RelV vv x ∧ kAt kvs j = i ∧ h1.get? a = some { cls := .type "tuple", data := .seq #[.int i t, x] } ∧ s.heap.objs.size < a := fun j hj => by
    have e : as[j]? = some (as[j]'(by omega)) := List.getElem?_eq_getElem (by omega)
    obtain ⟨key, kk, x, e1, e2, e3⟩ := G.pairs j _ e
    obtain ⟨vv, e4, rv⟩ := rel.at e1
    obtain ⟨i, e5⟩ := hi _ (List.mem_of_getElem? e4)
    have e5 : kk = .inl i := e5
    subst e5
    obtain ⟨t, rfl⟩ := is_int e2
    exact ⟨_, t, x, i, vv, e, e4, rv, kAt_of e4, e3, G.above _ (List.getElem_mem _)⟩
  have gd_ : ∀ j a, as[j]? = some a → (as.map Value.ref).getD j Value.none = .ref a := fun j a e => by
    rw [List.getD_eq_getElem?_getD, List.getElem?_map, e]; rfl
  refine k (as.map Value.ref) { s with heap := h1, toks := tk } ⟨kAt kvs, by simp; omega, by rw [List.length_map, la']; exact nodup_key hi nd, kp, rfl, rfl, rfl, fun h' kp' h2 => ⟨tuples' true, ?_, ?_⟩, ?_⟩
  · intro Q E q
    obtain ⟨fs, f1, f2, f3⟩ := katTups_of (h := h') (PF := fun f => ∃ i t, f = Value.int i t) (as.map Value.ref) fun w' hw => by
      obtain ⟨a, ha, rfl⟩ := List.mem_map.mp hw
      obtain ⟨j, hj, rfl⟩ := List.mem_iff_getElem.mp ha
      obtain ⟨a, t, x, i, vv, e1, e2, e3, e4, e5, e6⟩ := at_ j (by omega)
      rw [List.getElem?_eq_getElem hj] at e1
      cases e1
      exact ⟨_, _, _, _, _, rfl, kp' _ _ e5, rfl, rfl, rfl, i, t, rfl⟩
    refine W.kat_kind f1 (by rw [f2]; omega) (fun f hf => ?_) rfl q (T := .type "int")
    obtain ⟨i, t, rfl⟩ := f3 f hf
    intro A Q E s _ q
    exact wpAny_pure q
  · intro i j C h1' h2' hne c
    rw [List.length_map, la'] at h1' h2'
    unfold W.kas_ask
    obtain ⟨a1, t1, x1, i1, v1, e11, e12, e13, e14, e15, e16⟩ := at_ i h1'
    obtain ⟨a2, t2, x2, i2, v2, e21, e22, e23, e24, e25, e26⟩ := at_ j h2'
    rw [gd_ i a1 e11, gd_ j a2 e21]
    refine W.kat_lt (kp' _ _ e15) rfl (kp' _ _ e25) rfl ?_
    refine W.kat_cons (wpAny_eqBool_int ?_)
    have ne : i1 ≠ i2 := fun z => hne (nodup_key hi nd i j h1' h2' (by show kAt kvs i = kAt kvs j; rw [e14, e24, z]))
    rw [show (i1 == i2) = false by simpa using ne]
    refine W.kat_no ?_
    show wpAny _ _ (oneLt' true _ _) _ _ _
    rw [← keyLt'_oneType]
    refine W.kat_lt_int ?_
    have : fK (kAt kvs) i j = decide (i1 < i2) := by show decide (kAt kvs i < kAt kvs j) = _; rw [e14, e24]
    rw [this] at c
    exact c
  · intro h' l p kk g as' hle kp' gl
    rw [List.length_map, la'] at g as'
    have pin : ∀ i ∈ p.toList, i < kvs.length := fun i hi => by
      have := (g.pm.mem_iff).mp (show i ∈ p by simpa using hi)
      simpa using this
    have sl : s.heap.get? l = none := by
      cases z : s.heap.get? l with
      | none => rfl
      | some o => exact absurd (Heap.lt_size (kp l o z)) (Nat.not_lt.mpr hle)
    have hnl : H l = none := by
      cases z : H l with
      | none => rfl
      | some u =>
        obtain ⟨o, e⟩ := (I.hok l u z).there
        rw [sl] at e; cases e
    have inas : ∀ a ∈ as, ∃ j, j < kvs.length ∧ as[j]? = some a := fun a ha => by
      obtain ⟨j, hj, e⟩ := List.mem_iff_getElem.mp ha
      exact ⟨j, by omega, by rw [List.getElem?_eq_getElem hj, e]⟩
    have asz : ∀ a ∈ as, s.heap.objs.size < a ∧ a < h1.objs.size := fun a ha => by
      obtain ⟨j, hj, e⟩ := inas a ha
      obtain ⟨a', t, x, i, vv, e1, e2, e3, e4, e5, e6⟩ := at_ j hj
      rw [e] at e1; cases e1
      exact ⟨e6, Heap.lt_size e5⟩
    have lnas : l ∉ as := fun z => absurd (asz l z).2 (Nat.not_lt.mpr hle)
    have anl : ∀ a ∈ as, a ≠ l := fun a ha e => lnas (e ▸ ha)
    generalize hH' : (fun b => if b = l then some (HO.lst ((p.toList.map fun i => as.getD i 0).map V.ref)) else match (as.zip kvs).lookup b with | some kv => some (HO.tup [V.int (keyI kv.1), kv.2]) | none => H b : Hp) = H'
    have H'l : H' l = some (.lst ((p.toList.map fun i => as.getD i 0).map V.ref)) := by rw [← hH']; exact if_pos rfl
    have H'a : ∀ (j : Nat) (a : Addr) (i : Int) (vv : V), as[j]? = some a → kvs[j]? = some (Sum.inl i, vv) → H' a = some (.tup [.int i, vv]) := fun j a i vv e1 e2 => by
      rw [← hH']
      show (if a = l then _ else _) = _
      rw [if_neg (anl a (List.mem_of_getElem? e1)), lookup_zip nda la' e1, e2]; rfl
    have H'o : ∀ b, b ≠ l → b ∉ as → H' b = H b := fun b n1 n2 => by
      rw [← hH']
      show (if b = l then _ else _) = _
      rw [if_neg n1, lookup_none n2]
    have ext : ∀ b o, H b = some o → H' b = some o := fun b o e => by
      rw [H'o b (ne_of_none e hnl) fun z => by
        have := I.hok.fresh (Nat.le_of_lt (asz b z).1)
        rw [this] at e; cases e]
      exact e
    have pr : ∀ L : List Nat, (∀ i ∈ L, i < kvs.length) → Paired (fun a (r : Int × V) => H' a = some (.tup [.int r.1, r.2])) (L.map fun i => as.getD i 0) (L.map fun i => (kAt kvs i, vAt kvs i)) := by
      intro L
      induction L with
      | nil => intro _; exact .nil
      | cons i r ih =>
        intro hL
        obtain ⟨a, t, x, ii, vv, e1, e2, e3, e4, e5, e6⟩ := at_ i (hL i (by simp))
        refine .cons ?_ (ih fun j hj => hL j (by simp [hj]))
        show H' (as.getD i 0) = some (.tup [.int (kAt kvs i), vAt kvs i])
        rw [e4, vAt_of e2, List.getD_eq_getElem?_getD, e1]
        exact H'a i a ii vv e1 e2
    have hV : ∀ L : List Nat, (∀ i ∈ L, i < kvs.length) → Vals ((L.map fun i => as.getD i 0).map V.ref) (L.map fun i => (as.map Value.ref).getD i .none) := by
      intro L
      induction L with
      | nil => intro _; exact .nil
      | cons i r ih =>
        intro hL
        obtain ⟨a, t, x, ii, vv, e1, e2, e3, e4, e5, e6⟩ := at_ i (hL i (by simp))
        refine .cons ?_ (ih fun j hj => hL j (by simp [hj]))
        show RelV (.ref (as.getD i 0)) ((as.map Value.ref).getD i .none)
        rw [gd_ i a e1, List.getD_eq_getElem?_getD, e1]
        rfl
    have hsz : sizeLine = 16777216 := by decide
    refine ⟨.ref l, H', I.more (t' := tk) (fun b o e => kp' b o (kp b o e)) ext (fun b o e n => ?_) (fun b o n e => ?_), rfl, q l _ (p.toList.map fun i => (kAt kvs i, vAt kvs i)) H' ext hnl H'l (pr _ pin) ?_ (perm_rows g)⟩
    · by_cases hb : b = l
      · rw [hb]; exact sl
      · by_cases hb2 : b ∈ as
        · exact Heap.get?_none_of_le (Nat.le_of_lt (asz b hb2).1)
        · rw [H'o b hb hb2, n] at e; cases e
    · by_cases hb : b = l
      · subst hb
        rw [H'l] at e; cases e
        exact ⟨by simp [g.sz]; omega, _, _, hV _ pin, gl⟩
      · by_cases hb2 : b ∈ as
        · obtain ⟨j, hj, e0⟩ := inas b hb2
          obtain ⟨a, t, x, ii, vv, e1, e2, e3, e4, e5, e6⟩ := at_ j hj
          rw [e0] at e1; cases e1
          rw [H'a j b ii vv e0 e2] at e; cases e
          exact ⟨by show (2 : Nat) ≤ _; decide, [.int ii t, x], .cons ⟨t, rfl⟩ (.cons e3 .nil), _, kp' _ _ e5, rfl, _, rfl⟩
        · rw [H'o b hb hb2, n] at e; cases e
    · have := asc_pairwise g as'
      rw [List.map_map]
      exact this
end
end L2
namespace L2
open PySem PySem.Spec PyProof.Rows
abbrev Rw := Int × Str
def bitAt (k : Int) (b : Nat) : Int := k / 2 ^ b % 2
def prt (rows : List Rw) (b : Nat) (s : Int) : List Rw := rows.filter fun r => decide (bitAt r.1 b = s)
abbrev rwT (r : Rw) : Tm := .nd "row" (.int r.1) (.str r.2)
abbrev fkT : Tm → Tm → Tm := .nd "fork"
def topP : Nat → List Rw → Tm
  | _, [] => nlT
  | _, [r] => rwT r
  | 0, _ :: _ :: _ => nlT
  | b + 1, x :: y :: r => fkT (topP b (prt (x :: y :: r) b 0)) (topP b (prt (x :: y :: r) b 1))
theorem topP_nil (b : Nat) : topP b [] = nlT := by cases b <;> rfl
theorem topP_one (b : Nat) (r : Rw) : topP b [r] = rwT r := by cases b <;> rfl
theorem topP_more {b : Nat} {rows : List Rw} (h : 2 ≤ rows.length) : topP (b + 1) rows = fkT (topP b (prt rows b 0)) (topP b (prt rows b 1)) := by
  match rows, h with
  | x :: y :: r, _ => rfl
theorem div_step (k : Int) (b : Nat) : k / 2 ^ (b + 1) = k / 2 ^ b / 2 := by
  rw [Int.pow_succ, Int.ediv_ediv_of_nonneg (two_pow_nn b)]
theorem prt_mem {rows : List Rw} {b : Nat} {s : Int} {r : Rw} (h : r ∈ prt rows b s) : r ∈ rows ∧ bitAt r.1 b = s := by
  have := List.mem_filter.mp h
  exact ⟨this.1, of_decide_eq_true this.2⟩
structure OKR (b : Nat) (rows : List Rw) : Prop where
  nd : (rows.map (·.1)).Nodup
  al : ∀ r ∈ rows, ∀ r' ∈ rows, r.1 / 2 ^ b = r'.1 / 2 ^ b
theorem OKR.zero {rows : List Rw} (h : OKR 0 rows) : rows.length ≤ 1 := by
  match rows, h with
  | [], _ => simp
  | [_], _ => simp
  | x :: y :: r, h =>
    have e := h.al x (by simp) y (by simp)
    simp at e
    have n := h.nd
    simp [e] at n
theorem OKR.prt {b : Nat} {rows : List Rw} (h : OKR (b + 1) rows) (s : Int) : OKR b (prt rows b s) := by
  refine ⟨h.nd.sublist (List.Sublist.map _ List.filter_sublist), fun r hr r' hr' => ?_⟩
  obtain ⟨m1, e1⟩ := prt_mem hr
  obtain ⟨m2, e2⟩ := prt_mem hr'
  have e := h.al r m1 r' m2
  rw [div_step, div_step] at e
  unfold bitAt at e1 e2
  omega
theorem OKR.of {b : Nat} {rows : List Rw} (nd : (rows.map (·.1)).Nodup) (h : ∀ r ∈ rows, 0 ≤ r.1 ∧ r.1 < 2 ^ b) : OKR b rows :=
  ⟨nd, fun r hr r' hr' => by rw [Int.ediv_eq_zero_of_lt (h r hr).1 (h r hr).2, Int.ediv_eq_zero_of_lt (h r' hr').1 (h r' hr').2]⟩
def cstP : Nat → List Rw → Nat
  | 0, _ => 1
  | b + 1, rows => if rows.length ≤ 1 then 1 else 1 + cstP b (prt rows b 0) + cstP b (prt rows b 1)
theorem cstP_pos (b : Nat) (rows : List Rw) : 1 ≤ cstP b rows := by
  cases b with
  | zero => exact Nat.le_refl _
  | succ b => unfold cstP; split <;> omega
theorem cstP_more {b : Nat} {rows : List Rw} (h : 2 ≤ rows.length) : cstP (b + 1) rows = 1 + cstP b (prt rows b 0) + cstP b (prt rows b 1) := by
  show (if _ then _ else _) = _
  rw [if_neg (by omega)]
def RowAt (H : Hp) (r : Rw) (v : V) : Prop := ∃ p, v = .ref p ∧ H p = some (.tup [.int r.1, .str r.2])
abbrev RowsAt (H : Hp) : List Rw → List V → Prop := Paired (RowAt H)
theorem RowAt.up {S : Sl} {n : Nat} {H H' : Hp} {r : Rw} {v : V} (h : RowAt H r v) (g : Gn S n H H') : RowAt H' r v := by
  obtain ⟨p, e, q⟩ := h
  exact ⟨p, e, g.keep _ _ q rfl⟩
theorem RowsAt.up {S : Sl} {n : Nat} {H H' : Hp} {rows : List Rw} {vs : List V} (h : RowsAt H rows vs) (g : Gn S n H H') : RowsAt H' rows vs := Paired.imp2 (fun _ _ q => RowAt.up q g) h
theorem pr_snoc {α β : Type} {F : α → β → Prop} {l : List α} {m : List β} {a : α} {b : β} (h : Paired F l m) (r : F a b) : Paired F (l ++ [a]) (m ++ [b]) := pr_app h (.cons r .nil)
theorem filter_take {α : Type} {f : α → Bool} {l : List α} {i : Nat} {a : α} (h : l[i]? = some a) : (l.take (i + 1)).filter f = (l.take i).filter f ++ (if f a = true then [a] else []) := by
  rw [List.take_succ, h, List.filter_append]
  congr 1
  show [a].filter f = _
  cases e : f a <;> simp [e]
theorem comp_rows {K : PySem.W.Frag} {S : Sl} {js : List Nat} {tt : TT} {σ : St} {H : Hp} {R : Addr → Hp → Prop} {a : Addr} {rows : List Rw} {ws : List V} (f : Rw → Bool) (ts : Told S H) (hq : SqL K H a ws) (hw : RowsAt H rows ws) (hz : rows.length ≤ 100000)
    (htt : ∀ (p : Addr) (r : Rw) (H' : Hp) (Qb : Bool → Hp → Prop), H' p = some (.tup [.int r.1, .str r.2]) → Qb (f r) H' → tt (some (.ref p) :: capt js σ) H' Qb)
    (hQ : ∀ D H' ws', Gr S 0 H H' → H D = none → H' D = some (.lst ws') → RowsAt H' (rows.filter f) ws' → R D H') :
    ∀ D, H D = none → ∃ W : Nat → Nat → List V → Hp → Prop, (∃ m, W 0 m [] (upd H D (.lst []))) ∧ ∀ i m ys H, W i m ys H →
      ((Itl K a).stop i H ∧ R D H) ∨ ((Itl K a).go i H ∧ ∀ x H', (Itl K a).yld i H x H' → tt (some x :: capt js σ) H' fun b H2 => if b = true then tVar 0 (some x :: capt js σ) H2 fun y H3 => H3 D = some (.lst ys) ∧ ys.length < sizeLine ∧ ∃ m', m' < m ∧ W (i + 1) m' (ys ++ [y]) (upd H3 D (.lst (ys ++ [y])))
        else ∃ m', m' < m ∧ W (i + 1) m' ys H2) := by
  intro D hD
  refine ⟨fun i m ys H' => m = rows.length - i ∧ i ≤ rows.length ∧ H' D = some (.lst ys) ∧ Gr S 0 H H' ∧ RowsAt H' ((rows.take i).filter f) ys, ⟨rows.length, by simp, by omega, upd_same, Gr.new ts hD, .nil⟩, ?_⟩
  rintro i m ys H' ⟨rfl, hi, hD', g, ry⟩
  have hq' := g.sq hq
  have hl := pr_len hw
  by_cases hlt : i < rows.length
  · have hlt' : i < ws.length := by omega
    refine .inr ⟨⟨_, ws[i], hq', List.getElem?_eq_getElem hlt'⟩, fun x H2 ⟨e2, hx⟩ => ?_⟩
    subst e2
    have er : rows[i]? = some rows[i] := List.getElem?_eq_getElem hlt
    have ex := hx _ hq'
    obtain ⟨p, rfl, hp⟩ := pr_get hw er ex
    have hp' := g.gn.keep _ _ hp rfl
    refine htt p rows[i] H2 _ hp' ?_
    have ef := filter_take (f := f) er
    have ylen : ys.length ≤ i := by rw [← pr_len ry]; refine Nat.le_trans (List.length_filter_le _ _) ?_; rw [List.length_take]; omega
    cases e : f rows[i] with
    | true =>
      rw [if_pos rfl]
      rw [e, if_pos rfl] at ef
      have g4 : Gn S 0 H2 (upd H2 D (.lst (ys ++ [.ref p]))) := Gn.chg g.gn.told2 hD' rfl (fun _ e => nomatch e)
      refine ⟨_, rfl, hD', by rw [sizeLine_eq]; omega, rows.length - (i + 1), by omega, rfl, by omega, upd_same, g.own hD, ?_⟩
      rw [ef]
      exact RowsAt.up (pr_snoc ry ⟨p, rfl, hp'⟩) g4
    | false =>
      rw [if_neg (by simp)]
      rw [e, if_neg (by simp), List.append_nil] at ef
      exact ⟨rows.length - (i + 1), by omega, rfl, by omega, hD', g, by rw [ef]; exact ry⟩
  · have e : i = rows.length := by omega
    subst e
    refine .inl ⟨⟨_, hq', by omega⟩, ?_⟩
    rw [List.take_length] at ry
    exact hQ D H' ys g hD hD' ry
end L2
namespace L2
open PySem PySem.Spec PyProof.Rows
section
variable {X : Cx}
end
structure FunD (K : PySem.W.Frag) (x qual : Str) (st : Stmt) (f : Addr) (fd : FuncData) (ds : List Int) : Prop where
  ex : ∃ (oc : Value) (od : Option Addr) (T : Addr) (kV doc pm : Value) (an : Option Addr) (cdv ct : Value) (osl : Array (Option Value)) (oT : Obj) (its : List Value) (n : Nat),
    fd = PySem.W.fnOf x qual (defArgs st) (defBody st) (defScope st) (.ref T) kV doc pm an cdv ct ∧ K.lookup f = some ⟨oc, od, .func fd, osl⟩ ∧ PySem.W.codeIn K cdv qual = true ∧ K.lookup T = some oT ∧ oT.data = .seq its.toArray n ∧ IntsAre its ds
  kp : PySem.W.keepIn K (.ref f) = true
def MethD (K : PySem.W.Frag) (C : Addr) (m qual : Str) (st : Stmt) (ds : List Int) : Prop := ∃ f fd, Meth K C m f ∧ FunD K m qual st f fd ds
theorem methD_mk {K : PySem.W.Frag} {C : Addr} {m qual : Str} {st : Stmt} {f T : Addr} {oc oc2 : Value} {od an od2 : Option Addr} {osl osl2 : Array (Option Value)} {kV doc pm cdv ct : Value} {d : Int} {t : Tok} {n : Nat} (a : PySem.W.findIn K (.ref C) m = some (some (.ref f))) (i : PySem.W.isFn K (.ref f) = true)
    (l : K.lookup f = some ⟨oc, od, .func (PySem.W.fnOf m qual (defArgs st) (defBody st) (defScope st) (.ref T) kV doc pm an cdv ct), osl⟩) (c : PySem.W.codeIn K cdv qual = true) (k : PySem.W.keepIn K (.ref f) = true)
    (lT : K.lookup T = some ⟨oc2, od2, .seq #[.int d t] n, osl2⟩) : MethD K C m qual st [d] :=
  ⟨f, _, ⟨a, i, k⟩, ⟨⟨oc, od, T, kV, doc, pm, an, cdv, ct, osl, _, [.int d t], n, rfl, l, c, lT, rfl, .cons d t .nil⟩, k⟩⟩
section
variable {P : Program} {w : World} {K : PySem.W.Frag} {mg : Str → Option Value} {base : Heap}
theorem FunD.ok {x qual : Str} {st : Stmt} {f : Addr} {fd : FuncData} {ds : List Int} {N ps : List Str} {k : Nat} {sp : Sp} (F : FunD K x qual st f fd ds) (S : FnScope N ps (defScope st)) (len : ∀ vs H Q E, sp vs H Q E → vs.length = ps.length)
    (hbody : ∀ (cdv : Value) (A : Around) (outer : List Env) (s : Shared) (H : Hp) (vs : List V) (Q : VK) (E : XK), Room k (A.deeper (envOfC qual (defScope st) s.heap.objs.size f cdv)) → sp vs H Q E →
      ∃ t, PSs (cxOf CX0 P w K mg base N qual (defScope st) f cdv A outer s H E).nox (defBody st) t ∧ t { nx := fun _ H' => Q .non H', rt := Q } (start N vs) H) : FnOk P w K mg base CX0 (k + 1) f fd ps sp := by
  obtain ⟨oc, od, T, kV, doc, pm, an, cdv, ct, osl, oT, its, n, rfl, lk, hcd, _⟩ := F.ex
  refine fn_of lk hcd S len fun A outer s H vs Q E hr hsp => ?_
  obtain ⟨t, h, q⟩ := hbody cdv A outer s H vs Q E hr hsp
  exact ⟨t, h.nox, q⟩
theorem FunD.binds {x qual : Str} {st : Stmt} {f : Addr} {fd : FuncData} {d : Int} {ps : List Str} (F : FunD K x qual st f fd [d])
    (h : ∀ (T : Addr) (kV doc pm : Value) (an : Option Addr) (cdv ct : Value) (t : Tok) (us : List Value), us.length = ps.length → ∃ k, bindArgs (PySem.W.fnOf x qual (defArgs st) (defBody st) (defScope st) (.ref T) kV doc pm an cdv ct) ⟨us, []⟩ = seqItems? (.ref T) >>= k ∧ k (some #[.int d t]) = pure (ps.zip us)) : Binds K fd ps [] := by
  obtain ⟨oc, od, T, kV, doc, pm, an, cdv, ct, osl, oT, its, n, rfl, lk, hcd, lT, hs, hi⟩ := F.ex
  intro s us KX hl
  rw [List.append_nil] at hl ⊢
  obtain ⟨t, rfl⟩ : ∃ t, its = [.int d t] := by
    cases hi with
    | cons _ t r => cases r; exact ⟨t, rfl⟩
  obtain ⟨k, h1, h2⟩ := h T kV doc pm an cdv ct t us hl
  exact BindsTo.of_defaults rfl (KX _ _ lT) hs h1 h2
end
inductive IntCs : List Expr → List Int → Prop
  | nil : IntCs [] []
  | cons {n : Int} {j p} {es : List Expr} {ns : List Int} (h : IntCs es ns) : IntCs (.Constant (.int n) j p :: es) (n :: ns)
def tInts (ns : List Int) : TA := fun _ H Q => Q (ns.map V.int) H
theorem pa_ints {X : Cx} {es : List Expr} {ns : List Int} (h : IntCs es ns) : PA X es (tInts ns) := by
  induction h with
  | nil => exact pa_nil
  | cons h ih => exact pa_cons pe_int ih
theorem FnP.any {P : Program} {w : World} {K : PySem.W.Frag} {mg : Str → Option Value} {base : Heap} {n k : Nat} {x : Str} {ps : List Str} {sp : Nat → Sp} (h : ∀ b, b ≤ n → FnP P w K mg base k x ps (sp b)) : FnP P w K mg base k x ps (fun vs H Q E => ∃ b, b ≤ n ∧ sp b vs H Q E) := by
  obtain ⟨f, fd, h1, h2, h3, h4, oc, od, sl, h5⟩ := h 0 (Nat.zero_le _)
  refine ⟨f, fd, h1, h2, h3, ⟨fun vs H Q E ⟨b, hb, q⟩ => ?_, fun A outer s H args us vs Q E hr e0 hbd r ⟨b, hb, q⟩ => ?_⟩, oc, od, sl, h5⟩
  · obtain ⟨f', fd', a1, a2, a3, a4, _⟩ := h b hb
    exact a4.len _ _ _ _ q
  · obtain ⟨f', fd', a1, a2, a3, a4, oc', od', sl', a5⟩ := h b hb
    have e := h1.symm.trans a1
    cases e
    rw [h5] at a5
    cases a5
    exact a4.run A outer s H args us vs Q E hr e0 hbd r q
theorem sorted_eq {α : Type} : ∀ {l₁ l₂ : List (Int × α)}, l₁.Perm l₂ → (l₁.map (·.1)).Pairwise (· < ·) → (l₂.map (·.1)).Pairwise (· < ·) → l₁ = l₂
  | [], l₂, p, _, _ => p.nil_eq
  | a :: r, [], p, _, _ => by cases p.symm.nil_eq
  | a :: r, b :: t, p, h1, h2 => by
    have h1' := List.pairwise_cons.mp (show ((a.1 :: r.map (·.1)).Pairwise (· < ·)) from h1)
    have h2' := List.pairwise_cons.mp (show ((b.1 :: t.map (·.1)).Pairwise (· < ·)) from h2)
    have e : a = b := by
      have m1 : a ∈ b :: t := p.mem_iff.mp (by simp)
      have m2 : b ∈ a :: r := p.mem_iff.mpr (by simp)
      rcases List.mem_cons.mp m1 with z | z
      · exact z
      rcases List.mem_cons.mp m2 with y | y
      · exact y.symm
      have z1 := h2'.1 a.1 (List.mem_map.mpr ⟨a, z, rfl⟩)
      have z2 := h1'.1 b.1 (List.mem_map.mpr ⟨b, y, rfl⟩)
      omega
    subst e
    rw [sorted_eq ((List.perm_cons a).mp p) h1'.2 h2'.2]
structure Rws (D : Nat) (kvs : List (Key × V)) : Prop where
  all : ∀ p ∈ kvs, ∃ i x, p = (.inl i, .str x) ∧ 0 ≤ i ∧ i < 2 ^ D
  nd : (kvs.map (·.1)).Nodup
theorem Rws.nil {D : Nat} : Rws D [] := ⟨fun _ h => (nomatch h), List.nodup_nil⟩
theorem Rws.ints {D : Nat} {kvs : List (Key × V)} (h : Rws D kvs) : IntK kvs := fun p hp => by
  obtain ⟨i, x, rfl, _⟩ := h.all p hp
  exact ⟨i, rfl⟩
def SrtOf (kvs : List (Key × V)) (rows : List Rw) : Prop := (rows.map (·.1)).Pairwise (· < ·) ∧ (rows.map fun r => (r.1, V.str r.2)).Perm (kvs.map fun q => (keyI q.1, q.2))
theorem SrtOf.len {kvs : List (Key × V)} {rows : List Rw} (h : SrtOf kvs rows) : rows.length = kvs.length := by
  have := h.2.length_eq
  simpa using this
theorem SrtOf.uniq {kvs : List (Key × V)} {rows : List Rw} (h : SrtOf kvs rows) {rs : List (Int × V)} (h1 : (rs.map (·.1)).Pairwise (· < ·)) (h2 : rs.Perm (kvs.map fun q => (keyI q.1, q.2))) : rs = rows.map fun r => (r.1, V.str r.2) :=
  sorted_eq (h2.trans h.2.symm) h1 (by rw [List.map_map]; exact h.1)
theorem SrtOf.okr {D : Nat} {kvs : List (Key × V)} {rows : List Rw} (h : SrtOf kvs rows) (hw : Rws D kvs) : OKR D rows := by
  refine OKR.of (h.1.imp fun z => by omega) fun r hr => ?_
  have m : (r.1, V.str r.2) ∈ kvs.map fun q => (keyI q.1, q.2) := h.2.mem_iff.mp (List.mem_map.mpr ⟨r, hr, rfl⟩)
  obtain ⟨q, hq, e⟩ := List.mem_map.mp m
  obtain ⟨i, x, rfl, h0, h1⟩ := hw.all q hq
  have e1 : i = r.1 := congrArg Prod.fst e
  rw [← e1]; exact ⟨h0, h1⟩
end L2
namespace L2
open PySem PySem.Spec PyProof.Rows
section
variable {P : Program} {w : World} {K : PySem.W.Frag} {mg : Str → Option Value} {base : Heap} {C : Addr}
end
section
variable {X : Cx} {C : Addr} {k : Nat} {ps : List Str} {sp : Sp} {m x : Str} {o e : Expr} {es : List Expr} {ta : TE} {t : TA} {p apos pos : Pos} {E : XK}
end
end L2
namespace L2
open PySem PySem.Spec PyProof.Rows
def isTup (H : Hp) (x : V) : Prop := ∃ a xs, x = .ref a ∧ H a = some (.tup xs)
def isLst (H : Hp) (x : V) : Prop := ∃ a xs, x = .ref a ∧ H a = some (.lst xs)
def EqB0 (H : Hp) (x y : V) (b : Bool) : Prop :=
  (flatV x = true ∧ flatV y = true ∧ b = eqV x y) ∨ (b = false ∧ ((flatV x = true ∧ (isTup H y ∨ isLst H y)) ∨ ((isTup H x ∨ isLst H x) ∧ flatV y = true) ∨ (isTup H x ∧ isLst H y) ∨ (isLst H x ∧ isTup H y)))
def EqB (H : Hp) : Nat → V → V → Bool → Prop
  | 0, x, y, b => EqB0 H x y b
  | n + 1, x, y, b => EqB0 H x y b ∨
    (∃ a c xs ys, ∃ e : Nat → Bool, x = .ref a ∧ y = .ref c ∧ H a = some (.tup xs) ∧ H c = some (.tup ys) ∧ (∀ (i : Nat) u v, xs[i]? = some u → ys[i]? = some v → EqB H n u v (e i)) ∧ b = ((List.range (min xs.length ys.length)).all e && xs.length == ys.length)) ∨
    (∃ a c xs ys, ∃ e : Nat → Bool, x = .ref a ∧ y = .ref c ∧ H a = some (.lst xs) ∧ H c = some (.lst ys) ∧ (∀ (i : Nat) u v, xs[i]? = some u → ys[i]? = some v → EqB H n u v (e i)) ∧ b = (xs.length == ys.length && (List.range xs.length).all e))
theorem EqB.base {H : Hp} {x y : V} {b : Bool} (h : EqB0 H x y b) : ∀ n, EqB H n x y b
  | 0 => h
  | _ + 1 => .inl h
theorem EqB.up {H : Hp} : ∀ {n m : Nat} {x y : V} {b : Bool}, n ≤ m → EqB H n x y b → EqB H m x y b
  | 0, m, x, y, b, _, h => EqB.base h m
  | n + 1, 0, _, _, _, h, _ => by omega
  | n + 1, m + 1, x, y, b, h, q => by
    rcases q with q | ⟨a, c, xs, ys, e, e1, e2, e3, e4, e5, e6⟩ | ⟨a, c, xs, ys, e, e1, e2, e3, e4, e5, e6⟩
    · exact .inl q
    · exact .inr (.inl ⟨a, c, xs, ys, e, e1, e2, e3, e4, fun i u v h1 h2 => EqB.up (Nat.le_of_succ_le_succ h) (e5 i u v h1 h2), e6⟩)
    · exact .inr (.inr ⟨a, c, xs, ys, e, e1, e2, e3, e4, fun i u v h1 h2 => EqB.up (Nat.le_of_succ_le_succ h) (e5 i u v h1 h2), e6⟩)
theorem EqB0.self {H : Hp} {x : V} {b : Bool} (h : EqB0 H x x b) : b = true := by
  have no : ∀ {x : V}, flatV x = true → (isTup H x ∨ isLst H x) → False := fun {x} f q => by
    rcases q with ⟨a, xs, rfl, _⟩ | ⟨a, xs, rfl, _⟩ <;> cases f
  have no2 : isTup H x → isLst H x → False := fun ⟨a, xs, e1, e2⟩ ⟨c, ys, e3, e4⟩ => by
    rw [e1] at e3; cases e3; rw [e2] at e4; cases e4
  rcases h with ⟨f, _, rfl⟩ | ⟨_, ⟨f, q⟩ | ⟨q, f⟩ | ⟨q, p⟩ | ⟨p, q⟩⟩
  · exact eqV_self f
  · exact (no f q).elim
  · exact (no f q).elim
  · exact (no2 q p).elim
  · exact (no2 q p).elim
theorem EqB.self {H : Hp} : ∀ {n : Nat} {x : V} {b : Bool}, EqB H n x x b → b = true
  | 0, x, b, h => EqB0.self h
  | n + 1, x, b, h => by
    rcases h with h | ⟨a, c, xs, ys, e, e1, e2, e3, e4, e5, rfl⟩ | ⟨a, c, xs, ys, e, e1, e2, e3, e4, e5, rfl⟩
    · exact EqB0.self h
    · rw [e1] at e2; cases e2
      rw [e3] at e4; cases e4
      have : (List.range (min xs.length xs.length)).all e = true := by
        rw [List.all_eq_true]
        intro i hi
        have hi : i < xs.length := by simpa using hi
        exact EqB.self (e5 i xs[i] xs[i] (List.getElem?_eq_getElem hi) (List.getElem?_eq_getElem hi))
      rw [this]; simp
    · rw [e1] at e2; cases e2
      rw [e3] at e4; cases e4
      have : (List.range xs.length).all e = true := by
        rw [List.all_eq_true]
        intro i hi
        have hi : i < xs.length := by simpa using hi
        exact EqB.self (e5 i xs[i] xs[i] (List.getElem?_eq_getElem hi) (List.getElem?_eq_getElem hi))
      rw [this]; simp
section
variable {X : Cx}
theorem Inv.tupV {pins : List (Addr × Obj)} {σ : St} {H : Hp} {s : Shared} {a : Addr} {xs : List V} (I : Inv X pins σ H s) (h : H a = some (.tup xs)) : ∃ its, Vals xs its ∧ s.heap.IsTuple a its.toArray := by
  obtain ⟨_, its, r, p⟩ := I.hok _ _ h
  exact ⟨its, r, p⟩
theorem Inv.lstV {pins : List (Addr × Obj)} {σ : St} {H : Hp} {s : Shared} {a : Addr} {xs : List V} (I : Inv X pins σ H s) (h : H a = some (.lst xs)) : ∃ its, Vals xs its ∧ s.heap.IsList a its.toArray := by
  obtain ⟨its, r, p, _⟩ := I.list (SqL.of h)
  exact ⟨its, r, p.isList⟩
theorem eqAt_B0 {pins : List (Addr × Obj)} {σ : St} {H : Hp} {s : Shared} {A : Around} {x y : V} {u v : Value} {b : Bool} (I : Inv X pins σ H s) (h : EqB0 H x y b) (rx : RelV x u) (ry : RelV y v) (hu : A.units < cLine) : SeqAt.EqAt A s u v b := by
  rcases h with ⟨f, g, rfl⟩ | ⟨rfl, ⟨f, ⟨a, xs, rfl, e⟩ | ⟨a, xs, rfl, e⟩⟩ | ⟨⟨a, xs, rfl, e⟩ | ⟨a, xs, rfl, e⟩, f⟩ | ⟨⟨a, xs, rfl, e⟩, ⟨c, ys, rfl, e2⟩⟩ | ⟨⟨a, xs, rfl, e⟩, ⟨c, ys, rfl, e2⟩⟩⟩
  · exact eqAt_V rx ry f g
  · obtain rfl : v = Value.ref a := ry
    obtain ⟨its, _, p⟩ := I.tupV e
    cases x with
    | non => cases rx; exact SeqAt.EqAt.none_tuple p hu
    | bl b => cases rx; exact SeqAt.EqAt.bool_tuple b p hu
    | int i => obtain ⟨t, rfl⟩ := rx; exact SeqAt.EqAt.int_tuple i t p hu
    | str z => obtain ⟨t, rfl⟩ := rx; exact SeqAt.EqAt.str_tuple z t p hu
    | _ => cases f
  · obtain rfl : v = Value.ref a := ry
    obtain ⟨its, _, p⟩ := I.lstV e
    cases x with
    | non => cases rx; exact SeqAt.EqAt.none_list p hu
    | bl b => cases rx; exact SeqAt.EqAt.bool_list b p hu
    | int i => obtain ⟨t, rfl⟩ := rx; exact SeqAt.EqAt.int_list i t p hu
    | str z => obtain ⟨t, rfl⟩ := rx; exact SeqAt.EqAt.str_list z t p hu
    | _ => cases f
  · obtain rfl : u = Value.ref a := rx
    obtain ⟨its, _, p⟩ := I.tupV e
    cases y with
    | non => cases ry; exact SeqAt.EqAt.tuple_none p hu
    | bl b => cases ry; exact SeqAt.EqAt.tuple_bool b p hu
    | int i => obtain ⟨t, rfl⟩ := ry; exact SeqAt.EqAt.tuple_int i t p hu
    | str z => obtain ⟨t, rfl⟩ := ry; exact SeqAt.EqAt.tuple_str z t p hu
    | _ => cases f
  · obtain rfl : u = Value.ref a := rx
    obtain ⟨its, _, p⟩ := I.lstV e
    cases y with
    | non => cases ry; exact SeqAt.EqAt.list_none p hu
    | bl b => cases ry; exact SeqAt.EqAt.list_bool b p hu
    | int i => obtain ⟨t, rfl⟩ := ry; exact SeqAt.EqAt.list_int i t p hu
    | str z => obtain ⟨t, rfl⟩ := ry; exact SeqAt.EqAt.list_str z t p hu
    | _ => cases f
  · obtain rfl : u = Value.ref a := rx
    obtain rfl : v = Value.ref c := ry
    obtain ⟨its, _, p⟩ := I.tupV e
    obtain ⟨its2, _, p2⟩ := I.lstV e2
    exact SeqAt.EqAt.tuple_list p p2 hu
  · obtain rfl : u = Value.ref a := rx
    obtain rfl : v = Value.ref c := ry
    obtain ⟨its, _, p⟩ := I.lstV e
    obtain ⟨its2, _, p2⟩ := I.tupV e2
    exact SeqAt.EqAt.list_tuple p p2 hu
theorem eqAt_B {pins : List (Addr × Obj)} {σ : St} {H : Hp} {s : Shared} (I : Inv X pins σ H s) : ∀ (n : Nat) (x y : V) (u v : Value) (b : Bool) (A : Around), EqB H n x y b → RelV x u → RelV y v → A.units + n < cLine → SeqAt.EqAt A s u v b
  | 0, x, y, u, v, b, A, h, rx, ry, hu => eqAt_B0 I h rx ry (by omega)
  | n + 1, x, y, u, v, b, A, h, rx, ry, hu => by
    rcases id h with h | ⟨a, c, xs, ys, e, rfl, rfl, ha, hc, hi, eb⟩ | ⟨a, c, xs, ys, e, rfl, rfl, ha, hc, hi, eb⟩
    · exact eqAt_B0 I h rx ry (by omega)
    · obtain rfl : u = Value.ref a := rx
      obtain rfl : v = Value.ref c := ry
      by_cases hac : a = c
      · subst hac
        rw [EqB.self h]; exact SeqAt.EqAt.same _
      obtain ⟨its, r, pa⟩ := I.tupV ha
      obtain ⟨its2, r2, pb⟩ := I.tupV hc
      have q := SeqAt.RcAt.tuples (A := A) (s := s) (e := e) pa pb (by omega) fun j h1 h2 => by
        obtain ⟨x1, e1, q1⟩ := r.at h1
        obtain ⟨y1, e2, q2⟩ := r2.at h2
        exact eqAt_B I n x1 y1 _ _ _ A.in1 (hi j x1 y1 e1 e2) q1 q2 (by show A.units + 1 + n < cLine; omega)
      have l1 := r.length; have l2 := r2.length
      rw [List.size_toArray, List.size_toArray, ← l1, ← l2, ← eb] at q
      exact SeqAt.EqAt.of_refs hac q
    · obtain rfl : u = Value.ref a := rx
      obtain rfl : v = Value.ref c := ry
      by_cases hac : a = c
      · subst hac
        rw [EqB.self h]; exact SeqAt.EqAt.same _
      obtain ⟨its, r, pa⟩ := I.lstV ha
      obtain ⟨its2, r2, pb⟩ := I.lstV hc
      have l1 := r.length; have l2 := r2.length
      by_cases hl : xs.length = ys.length
      · have q := SeqAt.RcAt.lists (A := A) (s := s) (e := e) pa pb (by simp; omega) (by omega) fun j h1 h2 => by
          obtain ⟨x1, e1, q1⟩ := r.at h1
          obtain ⟨y1, e2, q2⟩ := r2.at h2
          exact eqAt_B I n x1 y1 _ _ _ A.in1 (hi j x1 y1 e1 e2) q1 q2 (by show A.units + 1 + n < cLine; omega)
        rw [List.size_toArray, ← l1] at q
        have eb' : b = (List.range xs.length).all e := by rw [eb, show (xs.length == ys.length) = true from by simpa using hl, Bool.true_and]
        rw [← eb'] at q
        exact SeqAt.EqAt.of_refs hac q
      · have eb' : b = false := by rw [eb, show (xs.length == ys.length) = false from by simpa using hl, Bool.false_and]
        subst eb'
        exact SeqAt.EqAt.of_refs hac (SeqAt.RcAt.lists_lengths pa pb (by simp; omega) (by omega))
theorem rcAt_V {A : Around} {s : Shared} {x y : V} {u v : Value} (rx : RelV x u) (ry : RelV y v) (fx : flatV x = true) (fy : flatV y = true) : SeqAt.RcAt A s u v (eqV x y) := by
  cases x with
  | non =>
    cases rx
    cases y with
    | non => cases ry; exact SeqAt.RcAt.none_none
    | bl b => cases ry; exact SeqAt.RcAt.none_bool b
    | int i => obtain ⟨t, rfl⟩ := ry; exact SeqAt.RcAt.none_int i t
    | str z => obtain ⟨t, rfl⟩ := ry; exact SeqAt.RcAt.none_str z t
    | _ => cases fy
  | bl a =>
    cases rx
    cases y with
    | non => cases ry; exact SeqAt.RcAt.bool_none a
    | bl b => cases ry; exact SeqAt.RcAt.bool_bool a b
    | int i => obtain ⟨t, rfl⟩ := ry; exact SeqAt.RcAt.bool_int a i t
    | str z => obtain ⟨t, rfl⟩ := ry; exact SeqAt.RcAt.bool_str a z t
    | _ => cases fy
  | int a =>
    obtain ⟨ta, rfl⟩ := rx
    cases y with
    | non => cases ry; exact SeqAt.RcAt.int_none a ta
    | bl b => cases ry; exact SeqAt.RcAt.int_bool a ta b
    | int i => obtain ⟨t, rfl⟩ := ry; exact SeqAt.RcAt.int_int a ta i t
    | str z => obtain ⟨t, rfl⟩ := ry; exact SeqAt.RcAt.int_str a ta z t
    | _ => cases fy
  | str a =>
    obtain ⟨ta, rfl⟩ := rx
    cases y with
    | non => cases ry; exact SeqAt.RcAt.str_none a ta
    | bl b => cases ry; exact SeqAt.RcAt.str_bool a ta b
    | int i => obtain ⟨t, rfl⟩ := ry; exact SeqAt.RcAt.str_int a ta i t
    | str z => obtain ⟨t, rfl⟩ := ry; exact SeqAt.RcAt.str_str a ta z t
    | _ => cases fy
  | _ => cases fx
theorem rcAt_B0 {pins : List (Addr × Obj)} {σ : St} {H : Hp} {s : Shared} {A : Around} {x y : V} {u v : Value} {b : Bool} (I : Inv X pins σ H s) (h : EqB0 H x y b) (rx : RelV x u) (ry : RelV y v) (hu : A.units < cLine) : SeqAt.RcAt A s u v b := by
  rcases h with ⟨f, g, rfl⟩ | ⟨rfl, ⟨f, ⟨a, xs, rfl, e⟩ | ⟨a, xs, rfl, e⟩⟩ | ⟨⟨a, xs, rfl, e⟩ | ⟨a, xs, rfl, e⟩, f⟩ | ⟨⟨a, xs, rfl, e⟩, ⟨c, ys, rfl, e2⟩⟩ | ⟨⟨a, xs, rfl, e⟩, ⟨c, ys, rfl, e2⟩⟩⟩
  · exact rcAt_V rx ry f g
  · obtain rfl : v = Value.ref a := ry
    obtain ⟨its, _, p⟩ := I.tupV e
    cases x with
    | non => cases rx; exact SeqAt.RcAt.none_tuple p hu
    | bl b => cases rx; exact SeqAt.RcAt.bool_tuple b p hu
    | int i => obtain ⟨t, rfl⟩ := rx; exact SeqAt.RcAt.int_tuple i t p hu
    | str z => obtain ⟨t, rfl⟩ := rx; exact SeqAt.RcAt.str_tuple z t p hu
    | _ => cases f
  · obtain rfl : v = Value.ref a := ry
    obtain ⟨its, _, p⟩ := I.lstV e
    cases x with
    | non => cases rx; exact SeqAt.RcAt.none_list p hu
    | bl b => cases rx; exact SeqAt.RcAt.bool_list b p hu
    | int i => obtain ⟨t, rfl⟩ := rx; exact SeqAt.RcAt.int_list i t p hu
    | str z => obtain ⟨t, rfl⟩ := rx; exact SeqAt.RcAt.str_list z t p hu
    | _ => cases f
  · obtain rfl : u = Value.ref a := rx
    obtain ⟨its, _, p⟩ := I.tupV e
    cases y with
    | non => cases ry; exact SeqAt.RcAt.tuple_none p hu
    | bl b => cases ry; exact SeqAt.RcAt.tuple_bool b p hu
    | int i => obtain ⟨t, rfl⟩ := ry; exact SeqAt.RcAt.tuple_int i t p hu
    | str z => obtain ⟨t, rfl⟩ := ry; exact SeqAt.RcAt.tuple_str z t p hu
    | _ => cases f
  · obtain rfl : u = Value.ref a := rx
    obtain ⟨its, _, p⟩ := I.lstV e
    cases y with
    | non => cases ry; exact SeqAt.RcAt.list_none p hu
    | bl b => cases ry; exact SeqAt.RcAt.list_bool b p hu
    | int i => obtain ⟨t, rfl⟩ := ry; exact SeqAt.RcAt.list_int i t p hu
    | str z => obtain ⟨t, rfl⟩ := ry; exact SeqAt.RcAt.list_str z t p hu
    | _ => cases f
  · obtain rfl : u = Value.ref a := rx
    obtain rfl : v = Value.ref c := ry
    obtain ⟨its, _, p⟩ := I.tupV e
    obtain ⟨its2, _, p2⟩ := I.lstV e2
    exact SeqAt.RcAt.tuple_list p p2 hu
  · obtain rfl : u = Value.ref a := rx
    obtain rfl : v = Value.ref c := ry
    obtain ⟨its, _, p⟩ := I.lstV e
    obtain ⟨its2, _, p2⟩ := I.tupV e2
    exact SeqAt.RcAt.list_tuple p p2 hu
theorem op_eqB : OpR X (compareOp .Eq) (fun x y H Q => ∃ n b, EqB H n x y b ∧ X.A.units + n + 1 < cLine ∧ Q (.bl b) H) := by
  intro pins s σ H x y v u Q I rx ry h
  obtain ⟨n, b, h, hu, q⟩ := h
  have done : SeqAt.RcAt X.A s v u b → wpAny (model X.prog X.w) X.A (compareOp .Eq v u) (EP X pins σ Q) X.xe s := fun z => z X.prog X.w X.xe _ ⟨.bl b, H, I, rfl, q⟩
  cases n with
  | zero => exact done (rcAt_B0 I h rx ry (by omega))
  | succ n =>
    rcases id h with h | ⟨a, c, xs, ys, e, rfl, rfl, ha, hc, hi, eb⟩ | ⟨a, c, xs, ys, e, rfl, rfl, ha, hc, hi, eb⟩
    · exact done (rcAt_B0 I h rx ry (by omega))
    · obtain rfl : v = Value.ref a := rx
      obtain rfl : u = Value.ref c := ry
      obtain ⟨its, r, pa⟩ := I.tupV ha
      obtain ⟨its2, r2, pb⟩ := I.tupV hc
      have z := SeqAt.RcAt.tuples (A := X.A) (s := s) (e := e) pa pb (by omega) fun j h1 h2 => by
        obtain ⟨x1, e1, q1⟩ := r.at h1
        obtain ⟨y1, e2, q2⟩ := r2.at h2
        exact eqAt_B I n x1 y1 _ _ _ X.A.in1 (hi j x1 y1 e1 e2) q1 q2 (by show X.A.units + 1 + n < cLine; omega)
      have l1 := r.length; have l2 := r2.length
      rw [List.size_toArray, List.size_toArray, ← l1, ← l2, ← eb] at z
      exact done z
    · obtain rfl : v = Value.ref a := rx
      obtain rfl : u = Value.ref c := ry
      obtain ⟨its, r, pa⟩ := I.lstV ha
      obtain ⟨its2, r2, pb⟩ := I.lstV hc
      have l1 := r.length; have l2 := r2.length
      by_cases hl : xs.length = ys.length
      · have z := SeqAt.RcAt.lists (A := X.A) (s := s) (e := e) pa pb (by simp; omega) (by omega) fun j h1 h2 => by
          obtain ⟨x1, e1, q1⟩ := r.at h1
          obtain ⟨y1, e2, q2⟩ := r2.at h2
          exact eqAt_B I n x1 y1 _ _ _ X.A.in1 (hi j x1 y1 e1 e2) q1 q2 (by show X.A.units + 1 + n < cLine; omega)
        rw [List.size_toArray, ← l1] at z
        have eb' : b = (List.range xs.length).all e := by rw [eb, show (xs.length == ys.length) = true from by simpa using hl, Bool.true_and]
        rw [← eb'] at z
        exact done z
      · have eb' : b = false := by rw [eb, show (xs.length == ys.length) = false from by simpa using hl, Bool.false_and]
        subst eb'
        exact done (SeqAt.RcAt.lists_lengths pa pb (by simp; omega) (by omega))
theorem rcNe_V {A : Around} {s : Shared} {x y : V} {u v : Value} (rx : RelV x u) (ry : RelV y v) (fx : flatV x = true) (fy : flatV y = true) : SeqAt.RcNeAt A s u v (!eqV x y) := by
  cases x with
  | non =>
    cases rx
    cases y with
    | non => cases ry; exact SeqAt.RcNeAt.none_none
    | bl b => cases ry; exact SeqAt.RcNeAt.none_bool b
    | int i => obtain ⟨t, rfl⟩ := ry; exact SeqAt.RcNeAt.none_int i t
    | str z => obtain ⟨t, rfl⟩ := ry; exact SeqAt.RcNeAt.none_str z t
    | _ => cases fy
  | bl a =>
    cases rx
    cases y with
    | non => cases ry; exact SeqAt.RcNeAt.bool_none a
    | bl b => cases ry; exact SeqAt.RcNeAt.bool_bool a b
    | int i => obtain ⟨t, rfl⟩ := ry; exact SeqAt.RcNeAt.bool_int a i t
    | str z => obtain ⟨t, rfl⟩ := ry; exact SeqAt.RcNeAt.bool_str a z t
    | _ => cases fy
  | int a =>
    obtain ⟨ta, rfl⟩ := rx
    cases y with
    | non => cases ry; exact SeqAt.RcNeAt.int_none a ta
    | bl b => cases ry; exact SeqAt.RcNeAt.int_bool a ta b
    | int i => obtain ⟨t, rfl⟩ := ry; exact SeqAt.RcNeAt.int_int a ta i t
    | str z => obtain ⟨t, rfl⟩ := ry; exact SeqAt.RcNeAt.int_str a ta z t
    | _ => cases fy
  | str a =>
    obtain ⟨ta, rfl⟩ := rx
    cases y with
    | non => cases ry; exact SeqAt.RcNeAt.str_none a ta
    | bl b => cases ry; exact SeqAt.RcNeAt.str_bool a ta b
    | int i => obtain ⟨t, rfl⟩ := ry; exact SeqAt.RcNeAt.str_int a ta i t
    | str z => obtain ⟨t, rfl⟩ := ry; exact SeqAt.RcNeAt.str_str a ta z t
    | _ => cases fy
  | _ => cases fx
theorem rcNe_B0 {pins : List (Addr × Obj)} {σ : St} {H : Hp} {s : Shared} {A : Around} {x y : V} {u v : Value} {b : Bool} (I : Inv X pins σ H s) (h : EqB0 H x y b) (rx : RelV x u) (ry : RelV y v) (hu : A.units < cLine) : SeqAt.RcNeAt A s u v (!b) := by
  rcases h with ⟨f, g, rfl⟩ | ⟨rfl, ⟨f, ⟨a, xs, rfl, e⟩ | ⟨a, xs, rfl, e⟩⟩ | ⟨⟨a, xs, rfl, e⟩ | ⟨a, xs, rfl, e⟩, f⟩ | ⟨⟨a, xs, rfl, e⟩, ⟨c, ys, rfl, e2⟩⟩ | ⟨⟨a, xs, rfl, e⟩, ⟨c, ys, rfl, e2⟩⟩⟩
  · exact rcNe_V rx ry f g
  · obtain rfl : v = Value.ref a := ry
    obtain ⟨its, _, p⟩ := I.tupV e
    cases x with
    | non => cases rx; exact SeqAt.RcNeAt.none_tuple p hu
    | bl b => cases rx; exact SeqAt.RcNeAt.bool_tuple b p hu
    | int i => obtain ⟨t, rfl⟩ := rx; exact SeqAt.RcNeAt.int_tuple i t p hu
    | str z => obtain ⟨t, rfl⟩ := rx; exact SeqAt.RcNeAt.str_tuple z t p hu
    | _ => cases f
  · obtain rfl : v = Value.ref a := ry
    obtain ⟨its, _, p⟩ := I.lstV e
    cases x with
    | non => cases rx; exact SeqAt.RcNeAt.none_list p hu
    | bl b => cases rx; exact SeqAt.RcNeAt.bool_list b p hu
    | int i => obtain ⟨t, rfl⟩ := rx; exact SeqAt.RcNeAt.int_list i t p hu
    | str z => obtain ⟨t, rfl⟩ := rx; exact SeqAt.RcNeAt.str_list z t p hu
    | _ => cases f
  · obtain rfl : u = Value.ref a := rx
    obtain ⟨its, _, p⟩ := I.tupV e
    cases y with
    | non => cases ry; exact SeqAt.RcNeAt.tuple_none p hu
    | bl b => cases ry; exact SeqAt.RcNeAt.tuple_bool b p hu
    | int i => obtain ⟨t, rfl⟩ := ry; exact SeqAt.RcNeAt.tuple_int i t p hu
    | str z => obtain ⟨t, rfl⟩ := ry; exact SeqAt.RcNeAt.tuple_str z t p hu
    | _ => cases f
  · obtain rfl : u = Value.ref a := rx
    obtain ⟨its, _, p⟩ := I.lstV e
    cases y with
    | non => cases ry; exact SeqAt.RcNeAt.list_none p hu
    | bl b => cases ry; exact SeqAt.RcNeAt.list_bool b p hu
    | int i => obtain ⟨t, rfl⟩ := ry; exact SeqAt.RcNeAt.list_int i t p hu
    | str z => obtain ⟨t, rfl⟩ := ry; exact SeqAt.RcNeAt.list_str z t p hu
    | _ => cases f
  · obtain rfl : u = Value.ref a := rx
    obtain rfl : v = Value.ref c := ry
    obtain ⟨its, _, p⟩ := I.tupV e
    obtain ⟨its2, _, p2⟩ := I.lstV e2
    exact SeqAt.RcNeAt.tuple_list p p2 hu
  · obtain rfl : u = Value.ref a := rx
    obtain rfl : v = Value.ref c := ry
    obtain ⟨its, _, p⟩ := I.lstV e
    obtain ⟨its2, _, p2⟩ := I.tupV e2
    exact SeqAt.RcNeAt.list_tuple p p2 hu
theorem op_neB : OpR X (compareOp .NotEq) (fun x y H Q => ∃ n b, EqB H n x y b ∧ X.A.units + n + 1 < cLine ∧ Q (.bl !b) H) := by
  intro pins s σ H x y v u Q I rx ry h
  obtain ⟨n, b, h, hu, q⟩ := h
  have done : SeqAt.RcNeAt X.A s v u (!b) → wpAny (model X.prog X.w) X.A (compareOp .NotEq v u) (EP X pins σ Q) X.xe s := fun z => z X.prog X.w X.xe _ ⟨.bl !b, H, I, rfl, q⟩
  cases n with
  | zero => exact done (rcNe_B0 I h rx ry (by omega))
  | succ n =>
    rcases id h with h | ⟨a, c, xs, ys, e, rfl, rfl, ha, hc, hi, eb⟩ | ⟨a, c, xs, ys, e, rfl, rfl, ha, hc, hi, eb⟩
    · exact done (rcNe_B0 I h rx ry (by omega))
    · obtain rfl : v = Value.ref a := rx
      obtain rfl : u = Value.ref c := ry
      obtain ⟨its, r, pa⟩ := I.tupV ha
      obtain ⟨its2, r2, pb⟩ := I.tupV hc
      have z := SeqAt.RcNeAt.tuples (A := X.A) (s := s) (e := e) pa pb (by omega) fun j h1 h2 => by
        obtain ⟨x1, e1, q1⟩ := r.at h1
        obtain ⟨y1, e2, q2⟩ := r2.at h2
        exact eqAt_B I n x1 y1 _ _ _ X.A.in1 (hi j x1 y1 e1 e2) q1 q2 (by show X.A.units + 1 + n < cLine; omega)
      have l1 := r.length; have l2 := r2.length
      rw [List.size_toArray, List.size_toArray, ← l1, ← l2, ← eb] at z
      exact done z
    · obtain rfl : v = Value.ref a := rx
      obtain rfl : u = Value.ref c := ry
      obtain ⟨its, r, pa⟩ := I.lstV ha
      obtain ⟨its2, r2, pb⟩ := I.lstV hc
      have l1 := r.length; have l2 := r2.length
      by_cases hl : xs.length = ys.length
      · have z := SeqAt.RcNeAt.lists (A := X.A) (s := s) (e := e) pa pb (by simp; omega) (by omega) fun j h1 h2 => by
          obtain ⟨x1, e1, q1⟩ := r.at h1
          obtain ⟨y1, e2, q2⟩ := r2.at h2
          exact eqAt_B I n x1 y1 _ _ _ X.A.in1 (hi j x1 y1 e1 e2) q1 q2 (by show X.A.units + 1 + n < cLine; omega)
        rw [List.size_toArray, ← l1] at z
        have eb' : b = (List.range xs.length).all e := by rw [eb, show (xs.length == ys.length) = true from by simpa using hl, Bool.true_and]
        rw [← eb'] at z
        exact done z
      · have eb' : b = false := by rw [eb, show (xs.length == ys.length) = false from by simpa using hl, Bool.false_and]
        subst eb'
        exact done (SeqAt.RcNeAt.lists_lengths pa pb (by simp; omega) (by omega))
end
theorem all3 (e : Nat → Bool) : (List.range (min 3 3)).all e = (e 0 && e 1 && e 2) := by simp [List.range, List.range.loop, Bool.and_assoc]
theorem all4 (e : Nat → Bool) : (List.range (min 4 4)).all e = (e 0 && e 1 && e 2 && e 3) := by simp [List.range, List.range.loop, Bool.and_assoc]
deriving instance DecidableEq for Tm
inductive Srt where
  | int | str | nd
def Ws (g : Str → Srt × Srt) : Tm → Srt → Prop
  | .int _, s => s = .int
  | .str _, s => s = .str
  | .nd m a b, s => s = .nd ∧ Ws g a (g m).1 ∧ Ws g b (g m).2
theorem isT_inj {g : Str → Srt × Srt} {d : Addr} {H : Hp} {kvs : List (List Key × V)} (hd : H d = some (.dT kvs)) (hi : Ints kvs) : ∀ {t t' : Tm} {s : Srt} {v : V}, Ws g t s → Ws g t' s → isT (.num d) H t v → isT (.num d) H t' v → t = t'
  | .int i, t', s, v, w, w', h, h' => by
    have w : s = .int := w
    subst w
    cases t' with
    | int j => have := (show v = _ from h).symm.trans (show v = _ from h'); cases this; rfl
    | str z => cases (show Srt.int = Srt.str from w')
    | nd m a b => cases w'.1
  | .str x, t', s, v, w, w', h, h' => by
    have w : s = .str := w
    subst w
    cases t' with
    | int j => cases (show Srt.str = Srt.int from w')
    | str z => have := (show v = _ from h).symm.trans (show v = _ from h'); cases this; rfl
    | nd m a b => cases w'.1
  | .nd m a b, t', s, v, w, w', h, h' => by
    obtain ⟨rfl, wa, wb⟩ := w
    cases t' with
    | int j => cases (show Srt.nd = Srt.int from w')
    | str z => cases (show Srt.nd = Srt.str from w')
    | nd m' a' b' =>
      obtain ⟨_, wa', wb'⟩ := w'
      obtain ⟨kv1, ka, kb, n, e1, ha, hb, hv, ev⟩ := h
      obtain ⟨kv2, ka', kb', n', e1', ha', hb', hv', ev'⟩ := h'
      rw [hd] at e1 e1'
      cases e1; cases e1'
      rw [ev] at ev'; cases ev'
      have z := hi.inj hv hv'
      simp at z
      obtain ⟨z1, z2, z3⟩ := z
      subst z1 z2 z3
      rw [isT_inj hd hi wa wa' ha ha', isT_inj hd hi wb wb' hb hb']
theorem eqV_dec {x y : V} (kx : ∃ k, x = kV k) (ky : ∃ k, y = kV k) : eqV x y = decide (x = y) := by
  obtain ⟨k, rfl⟩ := kx
  obtain ⟨k', rfl⟩ := ky
  cases k with
  | inl i =>
    cases k' with
    | inl j => show (i == j) = decide (V.int i = V.int j); rw [Bool.eq_iff_iff]; simp
    | inr z => show false = decide (V.int i = V.str z); simp
  | inr w =>
    cases k' with
    | inl j => show false = decide (V.str w = V.int j); simp
    | inr z => show (w == z) = decide (V.str w = V.str z); rw [Bool.eq_iff_iff]; simp
theorem tree_eqB {g : Str → Srt × Srt} {S : Sl} {H : Hp} : ∀ {t t' : Tm} {s : Srt} {x y : V}, (∀ d, S = .num d → Ws g t s ∧ Ws g t' s ∧ ∃ kvs, H d = some (.dT kvs) ∧ Ints kvs) → isT S H t x → isT S H t' y → EqB H t.dep x y (decide (t = t')) := by
  intro t t' s x y hw hx hy
  cases S with
  | num d =>
    obtain ⟨w, w', kvs, hd, hi⟩ := hw d rfl
    obtain ⟨k, ek⟩ := isT_key hx
    obtain ⟨k', ek'⟩ := isT_key hy
    refine EqB.base (.inl ⟨by rw [ek]; exact flat_key k, by rw [ek']; exact flat_key k', ?_⟩) _
    rw [eqV_dec ⟨k, ek⟩ ⟨k', ek'⟩, decide_eq_decide]
    constructor
    · rintro rfl; exact isT_fun hx hy
    · rintro rfl; exact isT_inj hd hi w w' hx hy
  | plain =>
    clear hw
    induction t generalizing t' x y with
    | int i =>
      have hx : x = .int i := hx
      subst hx
      cases t' with
      | int j => have hy : y = .int j := hy; subst hy; exact EqB.base (.inl ⟨rfl, rfl, by show _ = (i == j); rw [Bool.eq_iff_iff]; simp⟩) _
      | str z => have hy : y = .str z := hy; subst hy; exact EqB.base (.inl ⟨rfl, rfl, by show _ = false; simp⟩) _
      | nd m a b => obtain ⟨p, va, vb, rfl, hp, _⟩ := hy; exact EqB.base (.inr ⟨by simp, .inl ⟨rfl, .inl ⟨p, _, rfl, hp⟩⟩⟩) _
    | str w =>
      have hx : x = .str w := hx
      subst hx
      cases t' with
      | int j => have hy : y = .int j := hy; subst hy; exact EqB.base (.inl ⟨rfl, rfl, by show _ = false; simp⟩) _
      | str z => have hy : y = .str z := hy; subst hy; exact EqB.base (.inl ⟨rfl, rfl, by show _ = (w == z); rw [Bool.eq_iff_iff]; simp⟩) _
      | nd m a b => obtain ⟨p, va, vb, rfl, hp, _⟩ := hy; exact EqB.base (.inr ⟨by simp, .inl ⟨rfl, .inl ⟨p, _, rfl, hp⟩⟩⟩) _
    | nd m a b iha ihb =>
      obtain ⟨p, va, vb, rfl, hp, ha, hb⟩ := hx
      cases t' with
      | int j => have hy : y = .int j := hy; subst hy; exact EqB.base (.inr ⟨by simp, .inr (.inl ⟨.inl ⟨p, _, rfl, hp⟩, rfl⟩)⟩) _
      | str z => have hy : y = .str z := hy; subst hy; exact EqB.base (.inr ⟨by simp, .inr (.inl ⟨.inl ⟨p, _, rfl, hp⟩, rfl⟩)⟩) _
      | nd m' a' b' =>
        obtain ⟨p', va', vb', rfl, hp', ha', hb'⟩ := hy
        refine .inr (.inl ⟨p, p', _, _, (fun i => if i = 0 then decide (m = m') else if i = 1 then decide (a = a') else decide (b = b')), rfl, rfl, hp, hp', fun i u v h1 h2 => ?_, ?_⟩)
        · match i, h1, h2 with
          | 0, h1, h2 => simp at h1 h2; subst h1 h2; exact EqB.base (.inl ⟨rfl, rfl, by show _ = (m == m'); rw [Bool.eq_iff_iff]; simp⟩) _
          | 1, h1, h2 => simp at h1 h2; subst h1 h2; exact EqB.up (Nat.le_max_left _ _) (iha ha ha')
          | 2, h1, h2 => simp at h1 h2; subst h1 h2; exact EqB.up (Nat.le_max_right _ _) (ihb hb hb')
          | i + 3, h1, h2 => simp at h1
        · show _ = ((List.range (min 3 3)).all _ && (3 == 3))
          rw [all3, Bool.eq_iff_iff]
          simp [and_assoc]
  | turned =>
    clear hw
    induction t generalizing t' x y with
    | int i =>
      have hx : x = .int i := hx
      subst hx
      cases t' with
      | int j => have hy : y = .int j := hy; subst hy; exact EqB.base (.inl ⟨rfl, rfl, by show _ = (i == j); rw [Bool.eq_iff_iff]; simp⟩) _
      | str z => have hy : y = .str z := hy; subst hy; exact EqB.base (.inl ⟨rfl, rfl, by show _ = false; simp⟩) _
      | nd m a b => obtain ⟨p, va, vb, rfl, hp, _⟩ := hy; exact EqB.base (.inr ⟨by simp, .inl ⟨rfl, .inl ⟨p, _, rfl, hp⟩⟩⟩) _
    | str w =>
      have hx : x = .str w := hx
      subst hx
      cases t' with
      | int j => have hy : y = .int j := hy; subst hy; exact EqB.base (.inl ⟨rfl, rfl, by show _ = false; simp⟩) _
      | str z => have hy : y = .str z := hy; subst hy; exact EqB.base (.inl ⟨rfl, rfl, by show _ = (w == z); rw [Bool.eq_iff_iff]; simp⟩) _
      | nd m a b => obtain ⟨p, va, vb, rfl, hp, _⟩ := hy; exact EqB.base (.inr ⟨by simp, .inl ⟨rfl, .inl ⟨p, _, rfl, hp⟩⟩⟩) _
    | nd m a b iha ihb =>
      obtain ⟨p, va, vb, rfl, hp, ha, hb⟩ := hx
      cases t' with
      | int j => have hy : y = .int j := hy; subst hy; exact EqB.base (.inr ⟨by simp, .inr (.inl ⟨.inl ⟨p, _, rfl, hp⟩, rfl⟩)⟩) _
      | str z => have hy : y = .str z := hy; subst hy; exact EqB.base (.inr ⟨by simp, .inr (.inl ⟨.inl ⟨p, _, rfl, hp⟩, rfl⟩)⟩) _
      | nd m' a' b' =>
        obtain ⟨p', va', vb', rfl, hp', ha', hb'⟩ := hy
        refine .inr (.inl ⟨p, p', _, _, (fun i => if i = 0 then true else if i = 1 then decide (b = b') else if i = 2 then decide (a = a') else decide (m = m')), rfl, rfl, hp, hp', fun i u v h1 h2 => ?_, ?_⟩)
        · match i, h1, h2 with
          | 0, h1, h2 => simp at h1 h2; subst h1 h2; exact EqB.base (.inl ⟨rfl, rfl, by rw [eqV_self rfl]; rfl⟩) _
          | 1, h1, h2 => simp at h1 h2; subst h1 h2; exact EqB.up (Nat.le_max_right _ _) (ihb hb hb')
          | 2, h1, h2 => simp at h1 h2; subst h1 h2; exact EqB.up (Nat.le_max_left _ _) (iha ha ha')
          | 3, h1, h2 => simp at h1 h2; subst h1 h2; exact EqB.base (.inl ⟨rfl, rfl, by show _ = (m == m'); rw [Bool.eq_iff_iff]; simp⟩) _
          | i + 4, h1, h2 => simp at h1
        · show _ = ((List.range (min 4 4)).all _ && (4 == 4))
          rw [all4, Bool.eq_iff_iff]
          simp
          constructor
          · rintro ⟨h1, h2, h3⟩; exact ⟨⟨h3, h2⟩, h1⟩
          · rintro ⟨⟨h3, h2⟩, h1⟩; exact ⟨h1, h2, h3⟩
end L2
namespace Gb
section
variable {α : Type} (pr : α → α → α)
theorem rise_inj (inj : ∀ a b c d, pr a b = pr c d → a = c ∧ b = d) : ∀ {us : List Bool} {os os' : List α} {x x' : α}, us.length = os.length → us.length = os'.length → rise pr us os x = rise pr us os' x' → os = os' ∧ x = x'
  | [], [], [], x, x', _, _, h => ⟨rfl, h⟩
  | u :: us, o :: os, o' :: os', x, x', h1, h2, h => by
    have h : rise pr us os (if u then pr x o else pr o x) = rise pr us os' (if u then pr x' o' else pr o' x') := h
    obtain ⟨e1, e2⟩ := rise_inj inj (by simpa using h1) (by simpa using h2) h
    cases u with
    | true =>
      obtain ⟨a, b⟩ := inj _ _ _ _ e2
      exact ⟨by rw [e1, b], a⟩
    | false =>
      obtain ⟨a, b⟩ := inj _ _ _ _ e2
      exact ⟨by rw [e1, a], b⟩
end
end Gb
namespace Gb
section
variable {α : Type} (nl : α) (pr : α → α → α)
def Sub (ts sub : List α) : Prop := sub.length ≤ ts.length ∧ ∀ x ∈ sub, x ∈ ts
theorem Sub.trans {a b c : List α} (h : Sub a b) (h' : Sub b c) : Sub a c := ⟨Nat.le_trans h'.1 h.1, fun x hx => h.2 x (h'.2 x hx)⟩
theorem Sub.take (ts : List α) (k : Nat) : Sub ts (ts.take k) := ⟨by rw [List.length_take]; omega, fun x h => List.mem_of_mem_take h⟩
theorem Sub.drop (ts : List α) (k : Nat) : Sub ts (ts.drop k) := ⟨by rw [List.length_drop]; omega, fun x h => List.mem_of_mem_drop h⟩
theorem path_sub : ∀ (n : Nat) (ts : List α) (p : Nat), ts.length ≤ n → ∀ t ∈ pathT nl pr ts p, ∃ sub, Sub ts sub ∧ t = topT nl pr sub
  | n, ts, p, hn, t, ht => by
    by_cases h2 : ts.length < 2
    · rw [pathT_few nl pr h2] at ht; cases ht
    have h2' : 2 ≤ ts.length := by omega
    have x1 := spl_lt h2'
    have x2 := spl_pos ts.length
    cases n with
    | zero => omega
    | succ n =>
      by_cases h3 : p < spl ts.length
      · rw [pathT_low nl pr h2' h3] at ht
        rcases List.mem_append.mp ht with ht | ht
        · obtain ⟨sub, h, e⟩ := path_sub n _ p (by simp; omega) t ht
          exact ⟨sub, (Sub.take ts _).trans h, e⟩
        · exact ⟨_, Sub.drop ts _, List.mem_singleton.mp ht⟩
      · rw [pathT_high nl pr h2' h3] at ht
        rcases List.mem_append.mp ht with ht | ht
        · obtain ⟨sub, h, e⟩ := path_sub n _ (p - spl ts.length) (by simp; omega) t ht
          exact ⟨sub, (Sub.drop ts _).trans h, e⟩
        · exact ⟨_, Sub.take ts _, List.mem_singleton.mp ht⟩
theorem grow_sub : ∀ (n : Nat) (ts : List α) (old : Nat), ts.length ≤ n → ∀ t ∈ growT nl pr ts old, ∃ sub, Sub ts sub ∧ t = topT nl pr sub
  | n, ts, old, hn, t, ht => by
    by_cases h0 : old = 0
    · subst h0; rw [growT_zero] at ht; cases ht
    by_cases h1 : ts.length ≤ old
    · rw [growT_all nl pr h0 h1] at ht
      exact ⟨ts, ⟨Nat.le_refl _, fun _ h => h⟩, List.mem_singleton.mp ht⟩
    have h2' : 2 ≤ ts.length := by omega
    have x1 := spl_lt h2'
    have x2 := spl_pos ts.length
    cases n with
    | zero => omega
    | succ n =>
      by_cases h3 : old ≤ spl ts.length
      · rw [growT_low nl pr h0 (by omega) h3] at ht
        rcases List.mem_append.mp ht with ht | ht
        · obtain ⟨sub, h, e⟩ := grow_sub n _ old (by simp; omega) t ht
          exact ⟨sub, (Sub.take ts _).trans h, e⟩
        · exact ⟨_, Sub.drop ts _, List.mem_singleton.mp ht⟩
      · rw [growT_high nl pr h0 (by omega) h3] at ht
        rcases List.mem_append.mp ht with ht | ht
        · obtain ⟨sub, h, e⟩ := grow_sub n _ (old - spl ts.length) (by simp; omega) t ht
          exact ⟨sub, (Sub.drop ts _).trans h, e⟩
        · exact ⟨_, Sub.take ts _, List.mem_singleton.mp ht⟩
theorem top_all {Pd : α → Prop} (h0 : Pd nl) (hp : ∀ a b, Pd a → Pd b → Pd (pr a b)) : ∀ (n : Nat) (ts : List α), ts.length ≤ n → (∀ t ∈ ts, Pd t) → Pd (topT nl pr ts)
  | _, [], _, _ => by rw [topT_nil]; exact h0
  | _, [t], _, h => by rw [topT_one]; exact h t (by simp)
  | 0, a :: b :: r, hl, _ => by simp at hl
  | n + 1, a :: b :: r, hl, h => by
    generalize hts : a :: b :: r = ts at hl h ⊢
    have h2 : 2 ≤ ts.length := by rw [← hts]; simp
    have x1 := spl_lt h2
    have x2 := spl_pos ts.length
    rw [topT_more nl pr h2]
    exact hp _ _ (top_all h0 hp n _ (by simp; omega) fun t ht => h t (List.mem_of_mem_take ht)) (top_all h0 hp n _ (by simp; omega) fun t ht => h t (List.mem_of_mem_drop ht))
theorem rise_all {Pd : α → Prop} (hp : ∀ a b, Pd a → Pd b → Pd (pr a b)) : ∀ (us : List Bool) (os : List α) (x : α), (∀ t ∈ os, Pd t) → Pd x → Pd (rise pr us os x)
  | [], _, x, _, hx => by unfold rise; exact hx
  | u :: us, [], x, _, hx => by unfold rise; exact hx
  | u :: us, o :: os, x, h, hx => by
    show Pd (rise pr us os (if u then pr x o else pr o x))
    refine rise_all hp us os _ (fun t ht => h t (List.mem_cons_of_mem _ ht)) ?_
    have ho := h o List.mem_cons_self
    cases u
    · exact hp _ _ ho hx
    · exact hp _ _ hx ho
end
end Gb
namespace L2
open PySem PySem.Spec PyProof.Rows
theorem lri_nolen : typeLookup (.type "list_reverseiterator") "__len__" = pure none := by rw [typeLookup_type, builtinLookup_eq_fast]; kernel_rfl
theorem lri_hint : typeLookup (.type "list_reverseiterator") "__length_hint__" = pure (some (.builtin "list_reverseiterator.__length_hint__")) := by rw [typeLookup_type, builtinLookup_eq_fast]; kernel_rfl
section
variable {prog : Program} {w : World} {A : Around} {E : Value → Shared → Prop} {s : Shared} {R : Result → Shared → Prop}
theorem walks_rev (hh : A.handled = none) (I ax : Addr) (hne : ax ≠ I) (its : Array Value) :
    Walks prog w A I [I, ax] [I] its.size (fun i v => its[its.size - 1 - i]? = some v) (fun i h => h.IsRevIter I ax ((its.size : Int) - 1 - (i : Nat)) ∧ h.IsList ax its) where
  sub := fun c hc => by rw [List.mem_singleton.mp hc]; exact List.mem_cons_self
  frame := fun _ _ _ z hk => ⟨z.1.at fun o e => hk I (by simp) o e, z.2.at fun o e => hk ax (by simp) o e⟩
  item := fun i s Q E hi z hQ => by
    have z1 := z.1
    have hx : its[its.size - 1 - i]? = some (its[its.size - 1 - i]'(by omega)) := Array.getElem?_eq_getElem (by omega)
    rw [show (its.size : Int) - 1 - (i : Nat) = ((its.size - 1 - i : Nat) : Int) by omega] at z1
    refine wpAny_pyNext_rev_item z1 z.2 hx fun h' y sb => hQ _ h' s.toks hx ⟨?_, z.2.extBut sb.extBut hne⟩ fun b o hb e => sb.extBut b o (fun h => hb (by simp [h])) e
    rw [show ((its.size - 1 - i : Nat) : Int) - 1 = (its.size : Int) - 1 - ((i + 1 : Nat) : Int) by omega] at y
    exact y
  done := fun s Q E z hQ => by
    have z1 := z.1
    rw [show (its.size : Int) - 1 - ((its.size : Nat) : Int) = -1 by omega] at z1
    exact wpAny_pyNext_rev_end hh z1 fun h' eb => hQ h' s.toks fun b o hb e => eb b o (fun h => hb (by simp [h])) e
  self := fun _ _ _ _ z hQ => wpAny_pyIter_revIter z.1 hQ
theorem ext_rev {I : Addr} {fp wr : List Addr} {G : Array GenState → Array GenState → Prop} {n : Nat} {P : Nat → Value → Prop} {St : Nat → Shared → Prop} (W : WalksS prog w A.in1 I fp wr G n P St) (hT : ∀ i s, St i s → s.TypeIs (.ref I) "list_reverseiterator") (S : Addr) (res : Value) (c₀ : Nat) (hst : St 0 s) (hSf : S ∉ fp) (hI : I ∈ fp)
    (hS : s.heap.get? S = some { cls := .type "list", data := .seq #[] c₀ }) (hn : n ≤ sizeLine)
    (hR : ∀ s' acc' c', Moved (S :: wr) G s s' → s'.heap.get? S = some { cls := .type "list", dict := none, data := .seq acc' c', slots := #[] } → ItemsOf P acc' n → R (.ok (.ret res)) s') :
    wpAny (model prog w) A.in1 (Builtin.List.listExtendWith (.ref S) (.ref I) res) (fun fin s' => match fin with | .done f => R (.ok f) s' | .again c' => c'.quiet = true ∧ codeAny (model prog w) A c' R s') (fun e s' => R (.error e) s') s := by
  have hSI : S ≠ I := fun e => hSf (e ▸ hI)
  unfold Builtin.List.listExtendWith
  refine wpAny_bind (wpAny_typeOf (hT 0 _ hst) ?_)
  have q1 : Builtin.List.listSameRef (.ref S) (.ref I) = false := by simp [Builtin.List.listSameRef, hSI]
  rw [if_neg (by rw [q1]; decide)]
  refine wpAny_bind (W.self 0 _ _ _ hst (wpAny_bind (wpAny_holding ?_)))
  unfold Builtin.List.listLengthHint
  refine wpAny_bind (wpAny_specialOf (hT 0 _ hst) lri_nolen ?_)
  show wpAny _ A.in1 (specialOf (Value.ref I) (Str.ofString "__length_hint__") >>= _) _ _ s
  refine wpAny_bind (wpAny_specialOf (hT 0 _ hst) lri_hint ?_)
  generalize hid : ("list_reverseiterator.__length_hint__" : String) = id0
  fail_if_success (clear hid id0)
  wp_delta
  rw [show splitId id0 = some ("list_reverseiterator", "__length_hint__") from by subst hid; decide +kernel]
  subst hid
  refine wpAny_bind (wpAny_isInstance (b := true) (hT 0 _ hst) (by rw [isSubtype_type]; kernel_rfl) (wpAny_pure ?_))
  rw [if_neg (by decide)]
  exact wpAny_pure ⟨plainId_quiet F.plain_extend_loop _, codeAny_extend_loopS W hn _ hSf _ n 0 _ _ _ rfl (Nat.zero_le _) hst hS (ItemsOf.nil P) hR⟩
theorem init_rev {I : Addr} {fp wr : List Addr} {G : Array GenState → Array GenState → Prop} {n : Nat} {P : Nat → Value → Prop} {St : Nat → Shared → Prop} (W : WalksS prog w A.in1 I fp wr G n P St) (hT : ∀ i s, St i s → s.TypeIs (.ref I) "list_reverseiterator") (S : Addr) (hst : St 0 s) (hSf : S ∉ fp) (hI : I ∈ fp)
    (hS : s.heap.get? S = some { cls := .type "list", data := .seq #[] }) (hn : n ≤ sizeLine)
    (hR : ∀ s' acc' c', Moved (S :: wr) G s s' → s'.heap.get? S = some { cls := .type "list", dict := none, data := .seq acc' c', slots := #[] } → ItemsOf P acc' n → R (.ok (.ret .none)) s') :
    wpAny (model prog w) A.in1 (Builtin.«list.__init__» ⟨[.ref S, .ref I], []⟩) (fun fin s' => match fin with | .done f => R (.ok f) s' | .again c' => c'.quiet = true ∧ codeAny (model prog w) A c' R s') (fun e s' => R (.error e) s') s := by
  show wpAny _ A.in1 (do let u0 ← Builtin.List.listItems (.ref S); Builtin.List.listUpdate (.ref S) (fun _ => #[]); letGo u0.toList.reverse; Builtin.List.listExtendWith (.ref S) (.ref I) .none) _ _ s
  refine wpAny_bind ?_
  unfold Builtin.List.listItems
  refine wpAny_bind (wpAny_seqItems hS rfl (wpAny_pure ?_))
  show wpAny _ A.in1 (updateSeq S (fun _ => #[]) >>= fun _ => letGo (#[] : Array Value).toList.reverse >>= fun _ => Builtin.List.listExtendWith (.ref S) (.ref I) .none) _ _ s
  refine wpAny_bind (wpAny_updateSeq hS rfl (wpAny_bind (wpAny_letGo ?_)))
  have q2 := Heap.get?_update_self (Obj.mapSeq (fun _ => (#[] : Array Value))) hS rfl
  have oth : ∀ b o, b ≠ S → s.heap.get? b = some o → (s.heap.update S (Obj.mapSeq (fun _ => (#[] : Array Value)))).get? b = some o := fun b o hb e => by rw [Heap.get?_update_other _ _ (Ne.symm hb)]; exact e
  refine ext_rev W hT S .none _ (W.frame 0 s _ s.toks hst (Nat.le_refl _) fun b hb o e => oth b o (fun h => hSf (h ▸ hb)) e) hSf hI q2 hn fun s' a c hm => ?_
  exact hR s' a c (Moved.trans W.gtrans ((Moved.refl W.grefl).then_heap (Nat.le_refl _) fun b o hb e => oth b o (fun h => hb (by rw [h]; exact List.mem_cons_self)) e) hm)
theorem list_revit {I ax : Addr} {its : Array Value} {Q : Value → Shared → Prop} (hh : A.handled = none) (hne : ax ≠ I) (st : s.heap.IsRevIter I ax ((its.size : Int) - 1)) (hl : s.heap.IsList ax its) (hn : its.size ≤ sizeLine)
    (hQ : ∀ h' tk acc' c', (∀ b o, b ≠ I → s.heap.get? b = some o → h'.get? b = some o) → h'.get? s.heap.objs.size = some { cls := .type "list", dict := none, data := .seq acc' c', slots := #[] } → ItemsOf (fun i v => its[its.size - 1 - i]? = some v) acc' its.size → Q (.ref s.heap.objs.size) { s with heap := h', toks := tk }) :
    wpAny (model prog w) A (call (.type "list") [.ref I]) Q E s := by
  have W := (walks_rev (prog := prog) (w := w) (A := A.in1.in1) hh I ax hne its).toS
  have li : I < s.heap.objs.size := by obtain ⟨o, e, _⟩ := st; exact Heap.lt_size e
  have la : ax < s.heap.objs.size := by obtain ⟨o, e, _⟩ := hl; exact Heap.lt_size e
  refine callType_codes (Q₁ := fun obj s₁ => obj = .ref s.heap.objs.size ∧ s₁ = { s with heap := s.heap.push { cls := .type "list", data := .seq #[] } }) F.called_list (F.typeCall_list_1 _) F.entry_list_init (code_list_new _ ⟨rfl, rfl⟩) fun obj s₁ z => ?_
  obtain ⟨rfl, rfl⟩ := z
  have hS : (s.heap.push { cls := .type "list", data := .seq #[] }).get? s.heap.objs.size = some { cls := .type "list", data := .seq #[] } := Heap.get?_push_size _ rfl
  refine ⟨⟨_, hS, rfl⟩, F.args_list_init_2 _ _, init_rev W (fun i s z => z.1.typeIs) _ ⟨?_, hl.at fun o e => Heap.get?_push_of_some _ e⟩ (fun hm => ?_) List.mem_cons_self hS hn fun s' a c hm hS' ha => ⟨rfl, ?_⟩⟩
  · rw [show (its.size : Int) - 1 - ((0 : Nat) : Int) = (its.size : Int) - 1 by omega]
    exact st.at fun o e => Heap.get?_push_of_some _ e
  · rcases List.mem_cons.mp hm with z | z
    · exact absurd li (by rw [← z]; exact Nat.lt_irrefl _)
    · rw [← List.mem_singleton.mp z] at la; exact Nat.lt_irrefl _ la
  · rw [Moved.eq_with hm]
    refine hQ s'.heap s'.toks a c (fun b o hb e => hm.heap b o (fun z => ?_) (Heap.get?_push_of_some _ e)) hS' ha
    rcases List.mem_cons.mp z with z | z
    · rw [z] at e; exact absurd (Heap.lt_size e) (Nat.lt_irrefl _)
    · exact hb (List.mem_singleton.mp z)
end
def tListRev (K : PySem.W.Frag) (ta : TA) : TE := fun σ H Q => ta σ H fun vs H1 => ∃ a xs, vs = [.ref a] ∧ SqL K H1 a xs ∧ ∀ l, H1 l = none → Q (.ref l) (upd H1 l (.lst xs.reverse))
theorem pe_listRev {X : Cx} {a : Expr} {ta : TA} {p pos p2 pos2 : Pos} (hc : X.calm = true) (hg : Gl X "reversed") (hm : X.mg "reversed" = none) (hg2 : Gl X "list") (hm2 : X.mg "list" = none) (ha : PA X [a] ta) (hs : starEach [a] X.env = [(false, eval a X.env)] := by rfl)
    (hs2 : starEach [.Call (.Name "reversed" p) [a] [] pos] X.env = [(false, eval (.Call (.Name "reversed" p) [a] [] pos) X.env)] := by rfl) : PE X (.Call (.Name "list" p2) [.Call (.Name "reversed" p) [a] [] pos] [] pos2) (tListRev X.K ta) := by
  intro pins s σ H Q I h
  refine wpAny_Call_Name_kw (ld_blt I hg2 hm2 boot_list (PyProof.Rows.callWith_type1 ?_ hs2 rfl))
  rw [hs2]
  refine Calls.spliced_cons ?_
  refine Call_ (ld_blt I hg hm boot_reversed (PyProof.Rows.callWith_type1 (thn (ha pos pins s σ H _ I h) fun us s1 ⟨vs, H1, I1, r1, q1⟩ => ?_) hs rfl))
  obtain ⟨l, xs, e, hq, q⟩ := q1
  subst e
  cases r1 with
  | cons r rr =>
    cases rr
    cases r
    obtain ⟨its, rv, pl, hz⟩ := I1.list hq
    have hl := rv.length
    refine call_reversed_list pl.isList (Calls.spliced_nil ?_)
    have st : (s1.heap.push (revObj l ((its.toArray.size : Int) - 1))).IsRevIter s1.heap.objs.size l ((its.toArray.size : Int) - 1) := ⟨_, Heap.get?_push_size _ rfl, rfl, rfl⟩
    have hne : l ≠ s1.heap.objs.size := by obtain ⟨o, e, _⟩ := pl.isList; exact Nat.ne_of_lt (Heap.lt_size e)
    refine list_revit (s := { s1 with heap := s1.heap.push (revObj l ((its.toArray.size : Int) - 1)) }) (I.ok.hd hc) hne st (pl.isList.at fun o e => Heap.get?_push_of_some _ e) (by simp; omega) fun h' tk acc' c' hk e' hit => ?_
    have hv : Vals xs.reverse acc'.toList := by
      obtain ⟨hs, hi⟩ := hit
      have e1 : acc'.toList = its.reverse := by
        apply List.ext_getElem?
        intro i
        by_cases h : i < its.length
        · have hi2 : i < acc'.size := by rw [hs]; simpa using h
          have z := hi i acc'[i] (Array.getElem?_eq_getElem hi2)
          rw [List.getElem?_reverse h, Array.getElem?_toList, Array.getElem?_eq_getElem hi2, ← z]
          simp
        · rw [List.getElem?_eq_none (by simp [hs]; omega), List.getElem?_eq_none (by simp; omega)]
      rw [e1]; exact rv.reverse
    have e'' : h'.get? (s1.heap.objs.size + 1) = some { cls := .type "list", data := .seq acc'.toList.toArray c' } := by
      have z : (s1.heap.push (revObj l ((its.toArray.size : Int) - 1))).objs.size = s1.heap.objs.size + 1 := by simp [Heap.push]
      rw [← z]; simpa using e'
    have hsz : (s1.heap.push (revObj l ((its.toArray.size : Int) - 1))).objs.size = s1.heap.objs.size + 1 := by simp [Heap.push]
    refine ⟨.ref (s1.heap.objs.size + 1), _, I1.laid (t' := tk) (h' := h') (fun b o e => hk b o (Nat.ne_of_lt (Heap.lt_size e)) (Heap.get?_push_of_some _ e)) (by omega) (show ObjOk X.prog X.w _ h' _ (.lst xs.reverse) from ⟨by simpa using hz, acc'.toList, c', hv, e''⟩), by rw [hsz]; rfl, q _ (I1.hok.fresh (by omega))⟩
theorem strs_of : ∀ {ys : List Str} {its : List Value}, Vals (ys.map V.str) its → StrsAre its ys
  | [], _, r => by cases r; exact .nil
  | y :: ys, _, r => by
    cases r with
    | cons p r => obtain ⟨t, rfl⟩ := p; exact .cons y t (strs_of r)
theorem mt_join {X : Cx} : MtR X "str.join" (fun x vs H Q => ∃ (z : Str) (p : Addr) (ys : List Str), x = .str z ∧ vs = [.ref p] ∧ SqL X.K H p (ys.map V.str) ∧ (ys.map (·.length)).sum + ys.length * z.length ≤ 16777216 ∧ Q (.str (Txt.join z ys)) H) := by
  intro pins s σ H x vs v us Q I rx rv h
  obtain ⟨z, p, ys, rfl, rfl, hq, hok, q⟩ := h
  obtain ⟨t, rfl⟩ := rx
  obtain ⟨u, rfl, ru⟩ := vals1 rv
  cases ru
  obtain ⟨its, r, pl, hz⟩ := I.list hq
  exact PyProof.Rows.join_list pl.isList (strs_of (by simpa using r)) hok fun t' k => ⟨.str _, H, I.tok _, ⟨_, rfl⟩, q⟩
def txSet (i : Nat) (te : TEx) : TSx := fun D R σ H => te σ H (fun v H1 => D.nx (σ.set i (some v)) H1) (R σ)
theorem psx_set {X : Cx} {i : Nat} {x : Str} {e : Expr} {te : TEx} {pos' pos : Pos} (hN : X.N.Nodup) (hi : X.N[i]? = some x) (hx : Loc X.env.scope x) (he : PEx X e te) (hs : swapsWith e (some (.Name x pos')) pos.line X.env = pure false := by rfl) (hf : X.fn x = true ∨ X.env.scope.names.lookup x = some .local := by first | exact .inl rfl | exact .inr rfl | assumption) :
    PSx X (.Assign [.Name x pos'] e pos) (txSet i te) := by
  intro pins s σ H D R I h
  refine wpAny_Assign_Name (wpAny_mono (he pins s σ H _ _ I h) (fun v s1 ⟨y, H1, I1, r1, q1⟩ => store_ok I1 hN hi hx r1 (fun s2 I2 => ⟨_, H1, I2, q1⟩) hf) fun e' s1 ⟨ea, t, C, B, H3, H', σ', s3, e1, I3, F, e2, q⟩ => ?_) hs
  subst e2
  exact ⟨ea, t, C, B, H3, H', _, s3, e1, I3, F, q⟩
theorem comp_range {lo : Int} {n : Nat} {js : List Nat} {te : TE} {σ : St} {H : Hp} {R : Addr → Hp → Prop} (Pv : Addr → Nat → List V → Hp → Prop) (h0 : ∀ D, H D = none → Pv D 0 [] (upd H D (.lst [])))
    (hs : ∀ D (i : Nat) ys H' Qb, H D = none → i < n → Pv D i ys H' → (∀ y H3, H3 D = some (.lst ys) → ys.length < sizeLine → Pv D (i + 1) (ys ++ [y]) (upd H3 D (.lst (ys ++ [y]))) → Qb y H3) → te (some (.int (lo + (i : Nat))) :: capt js σ) H' Qb)
    (hd : ∀ D ys H', H D = none → Pv D n ys H' → R D H') :
    ∀ D, H D = none → ∃ W : Nat → Nat → List V → Hp → Prop, (∃ m, W 0 m [] (upd H D (.lst []))) ∧ ∀ i m ys H, W i m ys H →
      ((Itr lo n).stop i H ∧ R D H) ∨ ((Itr lo n).go i H ∧ ∀ x H', (Itr lo n).yld i H x H' → if true = true then te (some x :: capt js σ) H' fun y H3 => H3 D = some (.lst ys) ∧ ys.length < sizeLine ∧ ∃ m', m' < m ∧ W (i + 1) m' (ys ++ [y]) (upd H3 D (.lst (ys ++ [y])))
        else ∃ m', m' < m ∧ W (i + 1) m' ys H') := by
  intro D hD
  refine ⟨fun i m ys H' => m = n - i ∧ i ≤ n ∧ Pv D i ys H', ⟨n, by simp, by omega, h0 D hD⟩, ?_⟩
  rintro i m ys H' ⟨rfl, hi, hp⟩
  by_cases hlt : i < n
  · refine .inr ⟨hlt, fun x H2 ⟨e2, ex⟩ => ?_⟩
    subst e2 ex
    refine iteT ?_
    exact hs D i ys _ _ hD hlt hp fun y H3 a b c => ⟨a, b, n - (i + 1), by omega, rfl, by omega, c⟩
  · have e : i = n := by omega
    subst e
    exact .inl ⟨Nat.le_refl _, hd D ys H' hD hp⟩
theorem comp_list {K : PySem.W.Frag} {a : Addr} {xs : List V} {js : List Nat} {te : TE} {σ : St} {H : Hp} {R : Addr → Hp → Prop} (Pv : Addr → Nat → List V → Hp → Prop) (h0 : ∀ D, H D = none → Pv D 0 [] (upd H D (.lst []))) (hl : ∀ D i ys H', H D = none → Pv D i ys H' → SqL K H' a xs)
    (hs : ∀ D (i : Nat) x ys H' Qb, H D = none → xs[i]? = some x → Pv D i ys H' → (∀ y H3, H3 D = some (.lst ys) → ys.length < sizeLine → Pv D (i + 1) (ys ++ [y]) (upd H3 D (.lst (ys ++ [y]))) → Qb y H3) → te (some x :: capt js σ) H' Qb)
    (hd : ∀ D ys H', H D = none → Pv D xs.length ys H' → R D H') :
    ∀ D, H D = none → ∃ W : Nat → Nat → List V → Hp → Prop, (∃ m, W 0 m [] (upd H D (.lst []))) ∧ ∀ i m ys H, W i m ys H →
      ((Itl K a).stop i H ∧ R D H) ∨ ((Itl K a).go i H ∧ ∀ x H', (Itl K a).yld i H x H' → if true = true then te (some x :: capt js σ) H' fun y H3 => H3 D = some (.lst ys) ∧ ys.length < sizeLine ∧ ∃ m', m' < m ∧ W (i + 1) m' (ys ++ [y]) (upd H3 D (.lst (ys ++ [y])))
        else ∃ m', m' < m ∧ W (i + 1) m' ys H') := by
  intro D hD
  refine ⟨fun i m ys H' => m = xs.length - i ∧ i ≤ xs.length ∧ Pv D i ys H', ⟨xs.length, by simp, by omega, h0 D hD⟩, ?_⟩
  rintro i m ys H' ⟨rfl, hi, hp⟩
  have hq := hl D i ys H' hD hp
  by_cases hlt : i < xs.length
  · refine .inr ⟨⟨_, xs[i], hq, List.getElem?_eq_getElem hlt⟩, fun x H2 ⟨e2, hx⟩ => ?_⟩
    subst e2
    have ex := hx _ hq
    refine iteT ?_
    exact hs D i x ys _ _ hD ex hp fun y H3 a b c => ⟨a, b, xs.length - (i + 1), by omega, rfl, by omega, c⟩
  · have e : i = xs.length := by omega
    subst e
    exact .inl ⟨⟨_, hq, Nat.le_refl _⟩, hd D ys H' hD hp⟩
theorem same_of {cl env : List (Str × Addr)} (h : ∀ p ∈ cl, env.lookup p.1 = some p.2) : ∀ z c, cl.lookup z = some c → env.lookup z = some c := fun z c e => h (z, c) (PySem.mem_of_lookup e)
theorem Gr.ext {S : Sl} {H H' : Hp} (t : Told S H) (h : ∀ b o, H b = some o → H' b = some o) : Gr S 0 H H' := ⟨⟨fun b o e _ => h b o e, fun d e => by
    obtain ⟨kvs, q⟩ := t d e
    exact ⟨kvs, [], q, by rw [List.append_nil]; exact h _ _ q, Nat.le_refl _, fun z => by simpa using z⟩⟩, fun b o e _ => h b o e⟩
theorem SealAt.ints {K : PySem.W.Frag} {mg : Str → Option Value} {st : Stmt} {S : Sl} {H : Hp} {f : Addr} (h : SealAt K mg st S H f) : ∀ d, S = .num d → ∃ kvs, H d = some (.dT kvs) ∧ Ints kvs := fun d e => by
  subst e
  obtain ⟨c, c', doc, pm, ct, ob, co, cvs, tk, kvs, _, _, _, _, _, _, h7, h8⟩ := h
  exact ⟨kvs, h7, h8⟩
theorem trees_eqB {g : Str → Srt × Srt} {S : Sl} {H : Hp} {n : Nat} {s : Srt} {ts ts' : List Tm} {ws ws' : List V} {a b : Addr} (hi : ∀ d, S = .num d → ∃ kvs, H d = some (.dT kvs) ∧ Ints kvs) (hw : ∀ t ∈ ts, Ws g t s) (hw' : ∀ t ∈ ts', Ws g t s) (hn : ∀ t ∈ ts, t.dep ≤ n)
    (h : isTs S H ts ws) (h' : isTs S H ts' ws') (ha : H a = some (.lst ws)) (hb : H b = some (.lst ws')) : EqB H (n + 1) (.ref a) (.ref b) (decide (ts = ts')) := by
  have l1 := pr_len h
  have l2 := pr_len h'
  refine .inr (.inr ⟨a, b, ws, ws', fun i => decide (ts[i]? = ts'[i]?), rfl, rfl, ha, hb, fun i u v h1 h2 => ?_, ?_⟩)
  · obtain ⟨t, e1, q1⟩ := pr_get2 h h1
    obtain ⟨t', e2, q2⟩ := pr_get2 h' h2
    have z := tree_eqB (g := g) (s := s) (fun d e => ⟨hw t (List.mem_of_getElem? e1), hw' t' (List.mem_of_getElem? e2), hi d e⟩) q1 q2
    have e : decide (ts[i]? = ts'[i]?) = decide (t = t') := by rw [e1, e2, decide_eq_decide]; simp
    dsimp only
    rw [e]
    exact EqB.up (hn t (List.mem_of_getElem? e1)) z
  · rw [Bool.eq_iff_iff]
    simp only [decide_eq_true_eq, Bool.and_eq_true, beq_iff_eq, List.all_eq_true, List.mem_range]
    constructor
    · rintro rfl; exact ⟨by omega, fun i _ => rfl⟩
    · rintro ⟨e, q⟩
      apply List.ext_getElem?
      intro i
      by_cases hlt : i < ws.length
      · exact q i hlt
      · rw [List.getElem?_eq_none (by omega), List.getElem?_eq_none (by omega)]
theorem eqB_nil {H : Hp} {a b : Addr} {ws : List V} (ha : H a = some (.lst ws)) (hb : H b = some (.lst [])) : EqB H 1 (.ref a) (.ref b) (decide (ws = [])) := by
  refine .inr (.inr ⟨a, b, ws, [], fun _ => true, rfl, rfl, ha, hb, fun i u v _ h2 => by simp at h2, ?_⟩)
  rw [all_true, Bool.and_true, Bool.eq_iff_iff]
  simp
theorem eqB_flat {H : Hp} {x y : V} (fx : flatV x = true) (fy : flatV y = true) : EqB H 0 x y (eqV x y) := .inl ⟨fx, fy, rfl⟩
def gS (lf : Srt) (m : Str) : Srt × Srt := if m = "leaf" then (.str, lf) else if m = "pair" then (.nd, .nd) else if m = "book" then (.int, .nd) else if m = "row" then (.int, .str) else if m = "fork" then (.nd, .nd) else if m = "table" then (.int, .nd) else (.int, .int)
theorem gS_leaf (lf : Srt) : gS lf "leaf" = (.str, lf) := by unfold gS; rw [if_pos rfl]
theorem gS_pair (lf : Srt) : gS lf "pair" = (.nd, .nd) := by unfold gS; rw [if_neg (by decide), if_pos rfl]
theorem gS_book (lf : Srt) : gS lf "book" = (.int, .nd) := by unfold gS; rw [if_neg (by decide), if_neg (by decide), if_pos rfl]
theorem gS_none (lf : Srt) : gS lf "none" = (.int, .int) := by unfold gS; rw [if_neg (by decide), if_neg (by decide), if_neg (by decide), if_neg (by decide), if_neg (by decide), if_neg (by decide)]
abbrev WsN (lf : Srt) (t : Tm) : Prop := Ws (gS lf) t .nd
theorem ws_nl {lf : Srt} : WsN lf nlT := ⟨rfl, by rw [gS_none]; rfl, by rw [gS_none]; rfl⟩
theorem ws_pr {lf : Srt} {a b : Tm} (h : WsN lf a) (h' : WsN lf b) : WsN lf (prT a b) := ⟨rfl, by rw [gS_pair]; exact h, by rw [gS_pair]; exact h'⟩
theorem ws_book {lf : Srt} {n : Int} {a : Tm} (h : WsN lf a) : WsN lf (.nd "book" (.int n) a) := ⟨rfl, by rw [gS_book]; rfl, by rw [gS_book]; exact h⟩
theorem ws_leaf {lf : Srt} {x : Str} {a : Tm} (h : Ws (gS lf) a lf) : WsN lf (.nd "leaf" (.str x) a) := ⟨rfl, by rw [gS_leaf]; rfl, by rw [gS_leaf]; exact h⟩
theorem ws_top {lf : Srt} {ts : List Tm} (h : ∀ t ∈ ts, WsN lf t) : WsN lf (tpT ts) := Gb.top_all nlT prT ws_nl (fun _ _ a b => ws_pr a b) ts.length ts (Nat.le_refl _) h
theorem ws_path {lf : Srt} {ts : List Tm} {p : Nat} (h : ∀ t ∈ ts, WsN lf t) : ∀ t ∈ paT ts p, WsN lf t := fun t ht => by
  obtain ⟨sub, hs, rfl⟩ := Gb.path_sub nlT prT ts.length ts p (Nat.le_refl _) t ht
  exact ws_top fun x hx => h x (hs.2 x hx)
theorem ws_grow {lf : Srt} {ts : List Tm} {p : Nat} (h : ∀ t ∈ ts, WsN lf t) : ∀ t ∈ gwT ts p, WsN lf t := fun t ht => by
  obtain ⟨sub, hs, rfl⟩ := Gb.grow_sub nlT prT ts.length ts p (Nat.le_refl _) t ht
  exact ws_top fun x hx => h x (hs.2 x hx)
theorem ws_rise {lf : Srt} {us : List Bool} {os : List Tm} {x : Tm} (h : ∀ t ∈ os, WsN lf t) (hx : WsN lf x) : WsN lf (Gb.rise prT us os x) := Gb.rise_all prT (fun _ _ a b => ws_pr a b) us os x h hx
theorem path_dep {ts : List Tm} {p n B : Nat} (hn : ts.length ≤ n) (h : ∀ t ∈ ts, t.dep ≤ B) : ∀ t ∈ paT ts p, t.dep ≤ B + n + 1 := fun t ht => by
  obtain ⟨sub, hs, rfl⟩ := Gb.path_sub nlT prT ts.length ts p (Nat.le_refl _) t ht
  exact tp_dep n sub B (Nat.le_trans hs.1 hn) fun x hx => h x (hs.2 x hx)
theorem rise_dep {B : Nat} : ∀ (us : List Bool) (os : List Tm) (x : Tm) (k : Nat), (∀ t ∈ os, t.dep ≤ B) → x.dep ≤ B + k → (Gb.rise prT us os x).dep ≤ B + k + us.length
  | [], _, x, k, _, hx => by unfold Gb.rise; simpa using hx
  | u :: us, [], x, k, _, hx => by unfold Gb.rise; omega
  | u :: us, o :: os, x, k, h, hx => by
    show (Gb.rise prT us os (if u then prT x o else prT o x)).dep ≤ _
    have ho := h o List.mem_cons_self
    have z := rise_dep us os (if u then prT x o else prT o x) (k + 1) (fun t ht => h t (List.mem_cons_of_mem _ ht)) (by
      cases u
      · show max o.dep x.dep + 1 ≤ _; omega
      · show max x.dep o.dep + 1 ≤ _; omega)
    rw [List.length_cons]; omega
theorem prT_inj : ∀ a b c d, prT a b = prT c d → a = c ∧ b = d := fun a b c d h => by injection h with _ h1 h2; exact ⟨h1, h2⟩
theorem pr_reverse {α β : Type} {F : α → β → Prop} : ∀ {l : List α} {m : List β}, Paired F l m → Paired F l.reverse m.reverse
  | _, _, .nil => .nil
  | _, _, .cons r t => by rw [List.reverse_cons, List.reverse_cons]; exact pr_app (pr_reverse t) (.cons r .nil)
theorem pe_makeM {X : Cx} {C : Addr} {k : Nat} {ps : List Str} {sp : Sp} {x : Str} {p pos : Pos} {e : Expr} {es : List Expr} {t : TA} (M : ∃ fI, Mk X.K C fI) (F : MtP X.prog X.w X.K X.mg X.base C k "__init__" ps sp) (hr : Room (k + 1) X.A) (hg : Gl X x) (hm : X.mg x = some (.ref C)) (ha : PA X (e :: es) t)
    (hdb : (x == ("__debug__" : Str)) = false := by decide) (he : starEach (e :: es) X.env = (false, eval e X.env) :: starEach es X.env := by rfl) (hpl : (backTo pos (starEach es X.env)).any (·.1) = false := by rfl) : PE X (.Call (.Name x p) (e :: es) [] pos) (tMake C sp [] E0 t) := by
  obtain ⟨fI, M⟩ := M
  obtain ⟨f', fd, hm', hb, G⟩ := F
  have q := M.init.symm.trans hm'.at_
  cases q
  exact pe_make M G hr hg hm hb .nil pass0 ha hdb he hpl
end L2
namespace Gb
def gturnsT (n old : Nat) : List Bool :=
  if h : n ≤ old ∨ n < 2 then [] else if old ≤ spl n then true :: gturnsT (spl n) old else false :: gturnsT (n - spl n) (old - spl n)
termination_by n
decreasing_by
  · have := spl_lt (n := n) (by omega); omega
  · have := spl_pos n; omega
theorem gturnsT_end {n old : Nat} (h : n ≤ old ∨ n < 2) : gturnsT n old = [] := by rw [gturnsT, dif_pos h]
theorem gturnsT_low {n old : Nat} (h : old < n) (h2 : 2 ≤ n) (h3 : old ≤ spl n) : gturnsT n old = true :: gturnsT (spl n) old := by rw [gturnsT, dif_neg (by omega), if_pos h3]
theorem gturnsT_high {n old : Nat} (h : old < n) (h2 : 2 ≤ n) (h3 : ¬ old ≤ spl n) : gturnsT n old = false :: gturnsT (n - spl n) (old - spl n) := by rw [gturnsT, dif_neg (by omega), if_neg h3]
theorem gturns_len : ∀ (j n old : Nat), n ≤ 2 ^ j → (gturnsT n old).length ≤ j
  | j, n, old, h => by
    by_cases h0 : n ≤ old ∨ n < 2
    · rw [gturnsT_end h0]; simp
    have h2 : 2 ≤ n := by omega
    have h1 : old < n := by omega
    have x1 := spl_lt h2
    have x2 := spl_pos n
    have x3 := spl_ge h2
    cases j with
    | zero => simp at h; omega
    | succ j =>
      have hs : spl n ≤ 2 ^ j := by
        have : 2 ^ Nat.log2 (n - 1) < 2 ^ (j + 1) := Nat.lt_of_lt_of_le x1 h
        have := (Nat.pow_lt_pow_iff_right (by omega : 1 < 2)).mp this
        unfold spl
        exact Nat.pow_le_pow_right (by omega) (by omega)
      by_cases h3 : old ≤ spl n
      · rw [gturnsT_low h1 h2 h3, List.length_cons]
        have := gturns_len j (spl n) old hs
        omega
      · rw [gturnsT_high h1 h2 h3, List.length_cons]
        have := gturns_len j (n - spl n) (old - spl n) (by omega)
        omega
section
variable {α : Type} (nl : α) (pr : α → α → α)
def stepG (u : Bool) (o : α) (p : α × α) : α × α := if u then (p.1, pr p.2 o) else (pr o p.1, pr o p.2)
def riseG : List Bool → List α → α × α → α × α
  | u :: us, o :: os, p => riseG us os (stepG pr u o p)
  | _, _, p => p
theorem riseG_snoc : ∀ {us : List Bool} {os : List α} {u : Bool} {o : α} {p : α × α}, us.length = os.length → riseG pr (us ++ [u]) (os ++ [o]) p = stepG pr u o (riseG pr us os p)
  | [], [], u, o, p, _ => rfl
  | v :: us, q :: os, u, o, p, h => by
    show riseG pr (us ++ [u]) (os ++ [o]) _ = _
    rw [riseG_snoc (by simpa using h)]
    rfl
theorem riseG_snd : ∀ (us : List Bool) (os : List α) (p : α × α), (riseG pr us os p).2 = rise pr us os p.2
  | [], _, p => by unfold riseG rise; rfl
  | u :: us, [], p => by unfold riseG rise; rfl
  | u :: us, o :: os, p => by
    show (riseG pr us os (stepG pr u o p)).2 = rise pr us os (if u then pr p.2 o else pr o p.2)
    rw [riseG_snd us os]
    cases u <;> rfl
theorem riseG_take {us : List Bool} {os : List α} {i : Nat} {u : Bool} {o : α} {p : α × α} (hl : us.length = os.length) (hu : us[i]? = some u) (ho : os[i]? = some o) :
    riseG pr (us.take (i + 1)) (os.take (i + 1)) p = stepG pr u o (riseG pr (us.take i) (os.take i) p) := by
  rw [List.take_succ, List.take_succ, hu, ho]
  exact riseG_snoc pr (by rw [List.length_take, List.length_take, hl])
theorem riseG_all {Pd : α → Prop} (hp : ∀ a b, Pd a → Pd b → Pd (pr a b)) : ∀ (us : List Bool) (os : List α) (p : α × α), (∀ t ∈ os, Pd t) → Pd p.1 → Pd p.2 → Pd (riseG pr us os p).1 ∧ Pd (riseG pr us os p).2
  | [], _, p, _, h1, h2 => by unfold riseG; exact ⟨h1, h2⟩
  | u :: us, [], p, _, h1, h2 => by unfold riseG; exact ⟨h1, h2⟩
  | u :: us, o :: os, p, h, h1, h2 => by
    show Pd (riseG pr us os (stepG pr u o p)).1 ∧ Pd (riseG pr us os (stepG pr u o p)).2
    have ho := h o List.mem_cons_self
    cases u
    · exact riseG_all hp us os _ (fun t ht => h t (List.mem_cons_of_mem _ ht)) (hp _ _ ho h1) (hp _ _ ho h2)
    · exact riseG_all hp us os _ (fun t ht => h t (List.mem_cons_of_mem _ ht)) h1 (hp _ _ h2 ho)
theorem grow_turns : ∀ (n : Nat) (ts : List α) (old : Nat), ts.length = n → 1 ≤ old → old ≤ n → ∃ g0 os, growT nl pr ts old = g0 :: os ∧ os.length = (gturnsT n old).length ∧ riseG pr (gturnsT n old).reverse os (g0, g0) = (topT nl pr (ts.take old), topT nl pr ts) := by
  intro n
  induction n using Nat.strongRecOn with
  | ind n ih =>
    intro ts old hn h1 h2
    by_cases h : n ≤ old
    · have e : ts.length ≤ old := by omega
      rw [growT_all nl pr (by omega) e, gturnsT_end (.inl h), List.take_of_length_le e]
      exact ⟨_, [], rfl, rfl, rfl⟩
    have hn2 : 2 ≤ n := by omega
    have x1 := spl_lt hn2
    have x2 := spl_pos n
    have x3 := spl_ge hn2
    have tp := topT_more nl pr (show 2 ≤ ts.length by omega)
    rw [hn] at tp
    by_cases h3 : old ≤ spl n
    · obtain ⟨g0, os, e1, e2, e3⟩ := ih (spl n) x1 (ts.take (spl n)) old (by simp; omega) h1 h3
      have eg := growT_low nl pr (ts := ts) (old := old) (by omega) (by omega) (by rw [hn]; exact h3)
      rw [hn] at eg
      rw [eg, e1, gturnsT_low (by omega) hn2 h3, List.reverse_cons]
      refine ⟨g0, os ++ [topT nl pr (ts.drop (spl n))], rfl, by simp [e2], ?_⟩
      rw [riseG_snoc pr (by rw [List.length_reverse]; omega), e3, tp, List.take_take, Nat.min_eq_left h3]
      rfl
    · obtain ⟨g0, os, e1, e2, e3⟩ := ih (n - spl n) (by omega) (ts.drop (spl n)) (old - spl n) (by simp; omega) (by omega) (by omega)
      have eg := growT_high nl pr (ts := ts) (old := old) (by omega) (by omega) (by rw [hn]; exact h3)
      rw [hn] at eg
      rw [eg, e1, gturnsT_high (by omega) hn2 h3, List.reverse_cons]
      refine ⟨g0, os ++ [topT nl pr (ts.take (spl n))], rfl, by simp [e2], ?_⟩
      have es : spl n = spl old := by
        unfold spl
        exact spl_unique (j := Nat.log2 (n - 1)) (by have : spl n < old := by omega
                                                     exact this) (by have : n ≤ 2 * spl n := x3
                                                                     unfold spl at this; omega)
      have lo : (ts.take old).length = old := by rw [List.length_take]; omega
      have to := topT_more nl pr (ts := ts.take old) (by omega)
      rw [lo, ← es, List.take_take, Nat.min_eq_left (by omega), List.drop_take] at to
      rw [riseG_snoc pr (by rw [List.length_reverse]; omega), e3, tp, to]
      rfl
end
end Gb
namespace L2
open PySem PySem.Spec PyProof.Rows
def Ite (K : PySem.W.Frag) (a : Addr) : It :=
  ⟨fun i H => ∃ xs x, SqL K H a xs ∧ xs[i]? = some x,
   fun i H y H' => ∃ p x, y = .ref p ∧ H p = none ∧ (∀ xs, SqL K H a xs → xs[i]? = some x) ∧ H' = upd H p (.tup [.int (i : Nat), x]),
   fun i H => ∃ xs, SqL K H a xs ∧ xs.length ≤ i⟩
theorem turn_enum {P : Program} {w : World} {K : PySem.W.Frag} {es : List Expr} {kk : Nat} {tp : Pos} (a e it : Addr) (hne : e ≠ it) :
    Turn P w K (.Tuple es kk tp) (Ite K a) [e, it] e (fun i h => (∃ old, IsEnum h e it ((i : Nat) : Int) old) ∧ h.IsListIter it a i) where
  mem := by simp
  obj := fun i h st c hc => by
    obtain ⟨⟨old, he⟩, ⟨o, eo, _, d⟩⟩ := st
    simp only [List.mem_cons, List.not_mem_nil, or_false] at hc
    rcases hc with rfl | rfl
    · exact ⟨_, he, fun v q => by cases q⟩
    · exact ⟨o, eo, fun v q => by rw [d] at q; cases q⟩
  keep := fun i h h' st k => by
    obtain ⟨⟨old, he⟩, hit⟩ := st
    exact ⟨⟨old, k e (by simp) _ he⟩, hit.at fun o q => k it (by simp) o q⟩
  item := by
    intro X hP hw hK hc i pins s σ H E I hf st hg
    subst hP hw hK
    obtain ⟨xs, x, hq, hx⟩ := hg
    obtain ⟨its, rv, pl, hz⟩ := I.list hq
    obtain ⟨u, hu, ru⟩ := rv.get hx
    obtain ⟨⟨old, he⟩, hit⟩ := st
    refine wpAny_pyNext_enum_item he hit pl.isList (x := u) (by simpa using hu) hne fun h1 heo hit1 ht1 hz1 k1 => ⟨_, rfl, ?_⟩
    refine wpAny_letOwnedTupleGo_enum heo fun h2 he2 sb => ?_
    have hp : H s.heap.objs.size = none := I.hok.fresh (Nat.le_refl _)
    have lte : e < s.heap.objs.size := Heap.lt_size he
    have lti : it < s.heap.objs.size := by obtain ⟨o, eo, _⟩ := hit; exact Heap.lt_size eo
    have k2 : ∀ c o, c ∉ [e, it] → s.heap.get? c = some o → h2.get? c = some o := fun c o nc q => by
      simp only [List.mem_cons, List.not_mem_nil, or_false, not_or] at nc
      exact (sb.2 c nc.1).trans (k1 c o nc.1 nc.2 q)
    have pr2 : h2.get? s.heap.objs.size = some { cls := .type "tuple", data := .seq #[.int (i : Nat) s.toks, u] } := (sb.2 _ (Nat.ne_of_gt lte)).trans ht1
    have nfp : ∀ c o, H c = some o → c ∉ [e, it] := fun c o q hc => by rw [(hf c hc).1] at q; cases q
    have hnn : ∀ c o, H c = some o → c ≠ s.heap.objs.size := fun c o q => ne_of_none q hp
    have I2 : Inv X pins σ (upd H s.heap.objs.size (.tup [.int (i : Nat), x])) { s with heap := h2, toks := s.toks + 1 } := by
      refine I.call' (s' := { s with heap := h2, toks := s.toks + 1 }) (ch := [e, it]) rfl ⟨fun c o q n nf nc => k2 c o nc q, fun c o q n hc nc => ⟨o.slots, k2 c o nc q⟩, fun c o q n nc => ?_, fun c o q nc => ⟨o, k2 c o nc q⟩, fun c xs q => ?_, fun c o u q => ?_, fun c ps q => ⟨#[], ?_⟩⟩ (fun c o q => ?_) I.bare fun c hc => ?_
      · rw [upd_ne (Nat.ne_of_lt (Heap.lt_size q))]; exact n
      · rw [upd_ne (hnn _ _ q)]; exact q
      · rw [upd_ne (hnn _ _ q)]; exact q
      · rw [upd_ne (hnn _ _ q), Array.append_empty]; exact q
      · by_cases hc : c = s.heap.objs.size
        · subst hc
          rw [upd_same] at q; cases q
          exact ⟨by show (2 : Nat) ≤ _; decide, [.int (i : Nat) s.toks, u], .cons ⟨_, rfl⟩ (.cons ru .nil), _, pr2, rfl, _, rfl⟩
        · rw [upd_ne hc] at q
          refine (I.hok c o q).stay (fun d w' hd z => k2 d w' ?_ z) (fun d z => by rw [upd_ne (hnn _ _ z)]; exact z) fun d xs z => by rw [upd_ne (hnn _ _ z)]; exact z
          rcases hd with rfl | hd
          · exact nfp _ _ q
          · exact nfp _ _ hd
      · obtain ⟨f0, f1, f2, f3, f4, f5⟩ := hf c hc
        exact ⟨f3, f1, f4, f5⟩
    refine ⟨.ref s.heap.objs.size, _, I2, rfl, ⟨_, x, rfl, hp, fun ys hy => by rw [I.list_inj hy hq]; exact hx, rfl⟩, ⟨⟨u, ?_⟩, ?_⟩, fun c hc => ?_⟩
    · have z : IsEnum h2 e it ((i : Int) + 1) u := he2
      rw [show (i : Int) + 1 = ((i + 1 : Nat) : Int) by omega] at z
      exact z
    · exact hit1.at fun o q => (sb.2 _ (Ne.symm hne)).trans q
    · have lt : c < s.heap.objs.size := by
        simp only [List.mem_cons, List.not_mem_nil, or_false] at hc
        rcases hc with rfl | rfl
        · exact lte
        · exact lti
      rw [upd_ne (Nat.ne_of_lt lt)]; exact (hf c hc).1
  done := by
    intro X hP hw hK hc i pins s σ H E I hf st hg
    subst hP hw hK
    obtain ⟨xs, hq, hx⟩ := hg
    obtain ⟨its, rv, pl, hz⟩ := I.list hq
    have hl := rv.length
    obtain ⟨⟨old, he⟩, hit⟩ := st
    obtain ⟨f0, f1, f2, f3, f4, f5⟩ := hf it (by simp)
    exact wpAny_pyNext_enum_end (I.ok.hd hc) he hit pl.isList (by simp; omega) fun h' k => ⟨rfl, I.turned (t' := s.toks) (fun b o hb q => k b o hb q) f0 f1 f3 f4 f5⟩
  self := fun _ _ _ _ _ st h => by
    obtain ⟨⟨old, he⟩, _⟩ := st
    exact wpAny_pyIter_enum he h
def iEnum (K : PySem.W.Frag) (ta : TA) : TI := fun σ H R => ta σ H fun vs H1 => ∃ a xs, vs = [.ref a] ∧ SqL K H1 a xs ∧ R (Ite K a) H1
theorem pi_enum {X : Cx} {es : List Expr} {kk : Nat} {tp : Pos} {a : Expr} {ta : TA} {p pos : Pos} (hg : Gl X "enumerate") (hm : X.mg "enumerate" = none) (ha : PA X [a] ta) (hs : starEach [a] X.env = [(false, eval a X.env)] := by rfl) : PI X (.Tuple es kk tp) (.Call (.Name "enumerate" p) [a] [] pos) (iEnum X.K ta) := by
  intro pins s σ H R I h
  refine Call_ (ld_blt I hg hm boot_enumerate (PyProof.Rows.callWith_type1 (thn (ha pos pins s σ H _ I h) fun us s1 ⟨vs, H1, I1, r1, q1⟩ => ?_) hs rfl))
  obtain ⟨l, xs, e, hq, q⟩ := q1
  subst e
  cases r1 with
  | cons r rr =>
    cases rr
    cases r
    obtain ⟨its, rv, pl, hz⟩ := I1.list hq
    refine call_enumerate_list pl.isList fun h' he hit hsz k => ?_
    have I2 : Inv X pins σ H1 { s1 with heap := h' } := I1.kept (t' := s1.toks) k
    refine wpAny_pyIter_enum (s := { s1 with heap := h' }) he ?_
    refine ⟨s1.heap.objs.size + 1, [s1.heap.objs.size + 1, s1.heap.objs.size], _, _, H1, rfl, I2, turn_enum l _ _ (by show s1.heap.objs.size + 1 ≠ s1.heap.objs.size; omega), ⟨⟨.none, he⟩, hit⟩, fun b hb => ?_, q⟩
    simp only [List.mem_cons, List.not_mem_nil, or_false] at hb
    have fr : ∀ c, s1.heap.objs.size ≤ c → FpOk X pins H1 c := fun c hc => I1.fpOk hc (I1.hok.fresh hc)
    rcases hb with rfl | rfl
    · exact fr _ (Nat.le_succ _)
    · exact fr _ (Nat.le_refl _)
theorem for_enum {K : PySem.W.Frag} {a : Addr} {xs : List V} {g : TG} {tb : TS} {D : Ends} {σ : St} {H : Hp} (Pv : Nat → St → Hp → Prop) (h0 : Pv 0 σ H) (hl : ∀ i σ H, i ≤ xs.length → Pv i σ H → SqL K H a xs)
    (hs : ∀ i x p σ H, xs[i]? = some x → H p = none → Pv i σ H → g (.ref p) σ (upd H p (.tup [.int (i : Nat), x])) fun σ2 H2 => tb { D with nx := Pv (i + 1), ct := Pv (i + 1), bk := D.nx } σ2 H2) (hd : ∀ σ H, Pv xs.length σ H → D.nx σ H) :
    ∃ W : Nat → Nat → St → Hp → Prop, (∃ m, W 0 m σ H) ∧ ∀ i m σ H, W i m σ H →
      ((Ite K a).stop i H ∧ D.nx σ H) ∨ ((Ite K a).go i H ∧ ∃ N : St → Hp → Prop, (∀ σ' H', N σ' H' → ∃ m', m' < m ∧ W (i + 1) m' σ' H') ∧ ∀ x H', (Ite K a).yld i H x H' → g x σ H' fun σ2 H2 => tb { D with nx := N, ct := N, bk := D.nx } σ2 H2) := by
  refine ⟨fun i m σ H => m = xs.length - i ∧ i ≤ xs.length ∧ Pv i σ H, ⟨xs.length, by simp, Nat.zero_le _, h0⟩, ?_⟩
  rintro i m σ H ⟨rfl, hi, p⟩
  have q := hl i σ H hi p
  by_cases hlt : i < xs.length
  · refine .inr ⟨⟨xs, xs[i], q, List.getElem?_eq_getElem hlt⟩, Pv (i + 1), fun σ' H' p' => ⟨xs.length - (i + 1), by omega, rfl, hlt, p'⟩, fun y H' ⟨pp, x, e1, e2, e3, e4⟩ => ?_⟩
    subst e1 e4
    exact hs i x pp σ _ (e3 xs q) e2 p
  · have e : i = xs.length := by omega
    subst e
    exact .inl ⟨⟨xs, q, Nat.le_refl _⟩, hd σ H p⟩
section
variable {X : Cx}
theorem mt_lstripC : MtR X "str.lstrip" (fun x vs H Q => ∃ z y, x = .str z ∧ vs = [.str y] ∧ z.length ≤ sizeLine ∧ Q (.str (Txt.lstripChars z y)) H) := by
  intro pins s σ H x vs v us Q I rx rv h
  obtain ⟨z, y, rfl, rfl, hz, q⟩ := h
  obtain ⟨t, rfl⟩ := rx
  obtain ⟨u, rfl, t', rfl⟩ := vals1 rv
  exact SC.lstripChars (fun t' k => ⟨.str _, H, I.tok _, ⟨_, rfl⟩, q⟩) hz
theorem mt_starts : MtR X "str.startswith" (fun x vs H Q => ∃ z y, x = .str z ∧ vs = [.str y] ∧ Q (.bl (Txt.startswith z y)) H) := by
  intro pins s σ H x vs v us Q I rx rv h
  obtain ⟨z, y, rfl, rfl, q⟩ := h
  obtain ⟨t, rfl⟩ := rx
  obtain ⟨u, rfl, t', rfl⟩ := vals1 rv
  exact SC.startswith ⟨.bl _, H, I, rfl, q⟩
theorem vals_strs : ∀ (l : List (Str × Tok)), Vals (l.map fun p => V.str p.1) (strValues l)
  | [] => .nil
  | (y, t) :: r => .cons ⟨t, rfl⟩ (vals_strs r)
theorem mt_split : MtR X "str.split" (fun x vs H Q => ∃ z y, x = .str z ∧ vs = [.str y] ∧ y.length ≠ 0 ∧ z.length ≤ sizeLine ∧ (Txt.split z y).length ≤ sizeLine ∧ ∀ l, H l = none → Q (.ref l) (upd H l (.lst ((Txt.split z y).map V.str)))) := by
  intro pins s σ H x vs v us Q I rx rv h
  obtain ⟨z, y, rfl, rfl, hy0, hz, hz2, q⟩ := h
  obtain ⟨t, rfl⟩ := rx
  obtain ⟨u, rfl, t', rfl⟩ := vals1 rv
  have hy : (y.length == 0) = false := by simpa using hy0
  have fin : ∀ (l : List (Str × Tok)) (k : Nat), l.map (·.1) = Txt.split z y → EP X pins σ Q (.ref s.heap.objs.size) { s with heap := s.heap.push { cls := .type "list", data := .seq (strValues l).toArray }, toks := k } := fun l k e => by
    have ev : (Txt.split z y).map V.str = l.map fun p => V.str p.1 := by rw [← e, List.map_map]; rfl
    refine ⟨.ref _, _, I.lnew (t' := k) (ys := (Txt.split z y).map V.str) (by rw [ev]; exact vals_strs l) (by rw [List.length_map]; exact hz2), rfl, q _ I.fresh⟩
  cases h1 : (decide (z.length < y.length) || decide (Builtin.Str.strKind z < Builtin.Str.strKind y))
  · cases hf : (Builtin.Str.occurrences z y 0 z.length (z.length + 1)).isEmpty
    · have es : Txt.split z y = Builtin.Str.partsBetween z (Builtin.Str.occurrences z y 0 z.length (z.length + 1)) y.length := (if_neg (ne_true_of_eq_false h1)).trans (if_neg (ne_true_of_eq_false hf))
      refine call_meets F.slot_str_split (typeIs_str _ _ _) F.entry_str_split (F.args_str_split_2 _ _) (meets_str_split_sep z y t t' h1 hy hf hz (by rw [← es]; exact hz2)) ?_
      rw [strsFrom_eq]
      exact fin (numbered s.toks (Builtin.Str.partsBetween z (Builtin.Str.occurrences z y 0 z.length (z.length + 1)) y.length)) _ ((numbered_texts _ _).trans es.symm)
    · exact call_meets F.slot_str_split (typeIs_str _ _ _) F.entry_str_split (F.args_str_split_2 _ _) (meets_str_split_not_found z y t t' h1 hy hf) (fin [(z, t)] s.toks ((if_neg (ne_true_of_eq_false h1)).trans (if_pos hf)).symm)
  · exact call_meets F.slot_str_split (typeIs_str _ _ _) F.entry_str_split (F.args_str_split_2 _ _) (meets_str_split_cannot_occur z y t t' h1) (fin [(z, t)] s.toks (if_pos h1).symm)
end
structure FunV (K : PySem.W.Frag) (x qual : Str) (st : Stmt) (f : Addr) (fd : FuncData) (d : V) : Prop where
  ex : ∃ (oc : Value) (od : Option Addr) (T : Addr) (kV doc pm : Value) (an : Option Addr) (cdv ct : Value) (osl : Array (Option Value)) (oT : Obj) (dv : Value) (n : Nat),
    fd = PySem.W.fnOf x qual (defArgs st) (defBody st) (defScope st) (.ref T) kV doc pm an cdv ct ∧ K.lookup f = some ⟨oc, od, .func fd, osl⟩ ∧ PySem.W.codeIn K cdv qual = true ∧ K.lookup T = some oT ∧ oT.data = .seq #[dv] n ∧ RelV d dv
  kp : PySem.W.keepIn K (.ref f) = true
def MethV (K : PySem.W.Frag) (C : Addr) (m qual : Str) (st : Stmt) (d : V) : Prop := ∃ f fd, Meth K C m f ∧ FunV K m qual st f fd d
theorem methV_mk {K : PySem.W.Frag} {C : Addr} {m qual : Str} {st : Stmt} {f T : Addr} {oc oc2 : Value} {od an od2 : Option Addr} {osl osl2 : Array (Option Value)} {kV doc pm cdv ct dv : Value} {d : V} {n : Nat} (a : PySem.W.findIn K (.ref C) m = some (some (.ref f))) (i : PySem.W.isFn K (.ref f) = true)
    (l : K.lookup f = some ⟨oc, od, .func (PySem.W.fnOf m qual (defArgs st) (defBody st) (defScope st) (.ref T) kV doc pm an cdv ct), osl⟩) (c : PySem.W.codeIn K cdv qual = true) (k : PySem.W.keepIn K (.ref f) = true)
    (lT : K.lookup T = some ⟨oc2, od2, .seq #[dv] n, osl2⟩) (r : RelV d dv) : MethV K C m qual st d :=
  ⟨f, _, ⟨a, i, k⟩, ⟨⟨oc, od, T, kV, doc, pm, an, cdv, ct, osl, _, dv, n, rfl, l, c, lT, rfl, r⟩, k⟩⟩
section
variable {P : Program} {w : World} {K : PySem.W.Frag} {mg : Str → Option Value} {base : Heap} {C : Addr}
def MtD (P : Program) (w : World) (K : PySem.W.Frag) (mg : Str → Option Value) (base : Heap) (C : Addr) (k : Nat) (m : Str) (ps : List Str) (sp : Sp) (d : V) : Prop := ∃ f fd dv, Meth K C m f ∧ Binds K fd ps [] ∧ Binds K fd ps [dv] ∧ RelV d dv ∧ FnOk P w K mg base CX0 k f fd ps sp
theorem MtD.full {k : Nat} {m : Str} {ps : List Str} {sp : Sp} {d : V} (F : MtD P w K mg base C k m ps sp d) : MtP P w K mg base C k m ps sp := by
  obtain ⟨f, fd, dv, h1, h2, h3, h4, h5⟩ := F
  exact ⟨f, fd, h1, h2, h5⟩
theorem MethV.ok {m qual : Str} {st : Stmt} {N ps : List Str} {k : Nat} {sp : Sp} {d : V} (F : MethV K C m qual st d) (S : FnScope N ps (defScope st))
    (hb : ∀ (T : Addr) (kV doc pm : Value) (an : Option Addr) (cdv ct dv : Value) (us : List Value), us.length = ps.length → ∃ k, bindArgs (PySem.W.fnOf m qual (defArgs st) (defBody st) (defScope st) (.ref T) kV doc pm an cdv ct) ⟨us, []⟩ = seqItems? (.ref T) >>= k ∧ k (some #[dv]) = pure (ps.zip us))
    (hb2 : ∀ (T : Addr) (kV doc pm : Value) (an : Option Addr) (cdv ct dv : Value) (us : List Value), us.length + 1 = ps.length → ∃ k, bindArgs (PySem.W.fnOf m qual (defArgs st) (defBody st) (defScope st) (.ref T) kV doc pm an cdv ct) ⟨us, []⟩ = seqItems? (.ref T) >>= k ∧ k (some #[dv]) = pure (ps.zip (us ++ [dv])))
    (len : ∀ vs H Q E, sp vs H Q E → vs.length = ps.length)
    (hbody : ∀ (f : Addr) (cdv : Value) (A : Around) (outer : List Env) (s : Shared) (H : Hp) (vs : List V) (Q : VK) (E : XK), Room k (A.deeper (envOfC qual (defScope st) s.heap.objs.size f cdv)) → sp vs H Q E →
      ∃ t, PSs (cxOf CX0 P w K mg base N qual (defScope st) f cdv A outer s H E).nox (defBody st) t ∧ t { nx := fun _ H' => Q .non H', rt := Q } (start N vs) H) : MtD P w K mg base C (k + 1) m ps sp d := by
  obtain ⟨f, fd, h1, F⟩ := F
  obtain ⟨oc, od, T, kV, doc, pm, an, cdv, ct, osl, oT, dv, n, rfl, lk, hcd, lT, hs, r⟩ := F.ex
  refine ⟨f, _, dv, h1, fun s us KX hl => ?_, fun s us KX hl => ?_, r, fn_of lk hcd S len fun A outer s H vs Q E hr hsp => ?_⟩
  · rw [List.append_nil] at hl ⊢
    obtain ⟨k, e1, e2⟩ := hb T kV doc pm an cdv ct dv us hl
    exact BindsTo.of_defaults rfl (KX _ _ lT) hs e1 e2
  · rw [List.length_append] at hl
    obtain ⟨k, e1, e2⟩ := hb2 T kV doc pm an cdv ct dv us hl
    exact BindsTo.of_defaults rfl (KX _ _ lT) hs e1 e2
  · obtain ⟨t, h, q⟩ := hbody f cdv A outer s H vs Q E hr hsp
    exact ⟨t, h.nox, q⟩
end
end L2
namespace My
open PySem L2
def top (i : Nat) : Stmt := PySem.Challenge.pw_growbook_k13_whole_followers.main.body.getD i (.Pass ⟨0, 0, 0, 0⟩)
abbrev sSplit : Stmt := top 6
abbrev sNone : Stmt := top 7
abbrev sPair : Stmt := top 9
abbrev sTop : Stmt := top 11
abbrev sGrow : Stmt := top 13
abbrev sPath : Stmt := top 12
abbrev sCell : Stmt := top 46
abbrev sPlain : Stmt := top 47
abbrev sTurned : Stmt := top 48
abbrev sNumbering : Stmt := top 49
abbrev sSealBy : Stmt := top 50
abbrev sLsplit : Stmt := top 53
abbrev sLtop : Stmt := top 54
abbrev sLgrow : Stmt := top 56
abbrev sLaw : Stmt := top 64
abbrev sLpath : Stmt := top 55
abbrev sLeafS : Stmt := top 8
abbrev sBook : Stmt := top 10
abbrev sTurns : Stmt := top 14
abbrev sRisen : Stmt := top 15
abbrev sRow : Stmt := top 20
abbrev sFork : Stmt := top 21
abbrev sTabS : Stmt := top 22
abbrev sPartOf : Stmt := top 23
abbrev sTopPart : Stmt := top 24
abbrev sDraw : Stmt := top 51
abbrev sWord : Stmt := top 52
abbrev sBent : Stmt := top 60
abbrev sSame : Stmt := top 27
abbrev sLStands : Stmt := top 28
abbrev sGturns : Stmt := top 16
abbrev sGrown : Stmt := top 17
abbrev sLhead : Stmt := top 59
abbrev sReadAt : Stmt := top 39
abbrev sChanged : Stmt := top 41
abbrev sCheckP : Stmt := top 43
abbrev sBooks : Stmt := top 57
abbrev sLLeaves : Stmt := top 58
abbrev sOffered : Stmt := top 61
abbrev sJudged : Stmt := top 62
abbrev sKept : Stmt := top 63
abbrev kInit : Stmt := inClass (top 44) 0
abbrev kAdd : Stmt := inClass (top 44) 1
abbrev kSow : Stmt := inClass (top 44) 3
abbrev kHead : Stmt := inClass (top 44) 7
abbrev kPath : Stmt := inClass (top 44) 8
abbrev kGrowth : Stmt := inClass (top 44) 9
abbrev mSInit : Stmt := inClass (top 30) 0
abbrev mSJudged : Stmt := inClass (top 30) 1
abbrev mGInit : Stmt := inClass (top 31) 0
abbrev mGJudged : Stmt := inClass (top 31) 1
abbrev mGNone : Stmt := inClass (top 31) 2
abbrev mFInit : Stmt := inClass (top 33) 0
abbrev mFTake : Stmt := inClass (top 33) 1
abbrev mFJudge : Stmt := inClass (top 33) 2
abbrev mFSize : Stmt := inClass (top 33) 3
abbrev mFHead : Stmt := inClass (top 33) 4
abbrev mInit : Stmt := inClass (top 25) 0
abbrev mHead : Stmt := inClass (top 25) 5
abbrev mTwin : Stmt := inClass (top 25) 7
abbrev mRows : Stmt := inClass (top 25) 8
abbrev qN : Str := "_law_numbering.<locals>._law_numbered"
abbrev sNumd : Stmt := (defBody sNumbering).getD 1 (.Pass ⟨0, 0, 0, 0⟩)
section
variable {P : Program} {w : World} {K : PySem.W.Frag} {mg : Str → Option Value} {base : Heap}
theorem scPl : FnScope mot mot (defScope sPlain) := ⟨rfl, rfl, rfl, by decide +kernel, rfl, by decide +kernel, by decide +kernel⟩
theorem scTu : FnScope mot mot (defScope sTurned) := ⟨rfl, rfl, rfl, by decide +kernel, rfl, by decide +kernel, by decide +kernel⟩
theorem ok_plain (F : FunAt K mg "_law_plain" sPlain) : FnP P w K mg base 1 "_law_plain" mot spPlain := by
  refine F.ok scPl (fun _ _ _ _ _ _ us hl => match us, hl with | [_, _, _], _ => rfl) (fun vs H Q E h => ?_) (fun f cdv A outer s H vs Q E hr h => ?_)
  · obtain ⟨m, v1, v2, rfl, _⟩ := h; rfl
  obtain ⟨m, v1, v2, rfl, q⟩ := h
  refine ⟨_, pss_one (ps_ret (pe_tup (pa_cons (pv 0) (pa_cons (pv 1) (pa_cons (pv 2) pa_nil))))), ?_⟩
  exact ⟨_, rfl, _, rfl, _, rfl, (by show 3 ≤ sizeLine; decide), fun p hp => q p hp⟩
theorem ok_turned (F : FunAt K mg "_law_turned" sTurned) : FnP P w K mg base 1 "_law_turned" mot spTurned := by
  refine F.ok scTu (fun _ _ _ _ _ _ us hl => match us, hl with | [_, _, _], _ => rfl) (fun vs H Q E h => ?_) (fun f cdv A outer s H vs Q E hr h => ?_)
  · obtain ⟨m, v1, v2, rfl, _⟩ := h; rfl
  obtain ⟨m, v1, v2, rfl, q⟩ := h
  refine ⟨_, pss_one (ps_ret (pe_tup (pa_cons pe_str (pa_cons (pv 2) (pa_cons (pv 1) (pa_cons (pv 0) pa_nil)))))), ?_⟩
  exact ⟨_, rfl, _, rfl, _, rfl, (by show 4 ≤ sizeLine; decide), fun p hp => q p hp⟩
theorem clN : ClScope mot "_law_told" (defScope sNumd) := ⟨rfl, rfl, rfl, by decide +kernel, by decide +kernel, by decide +kernel, fun x h => by
  have e : (defScope sNumd).names = ([("_law_mark", NameKind.local), ("_law_one", NameKind.local), ("_law_two", NameKind.local), ("_law_told", NameKind.free), ("len", NameKind.globalImplicit)] : List (Str × NameKind)) := rfl
  rw [e] at h
  have m := PySem.mem_of_lookup h
  simp at m
  exact m, rfl⟩
theorem num_run {A : Around} {outer : List Env} {s : Shared} {H : Hp} {us : List Value} {Q : VK} {E : XK} {f d : Addr} {m : Str} {t1 t2 : Tm} {v1 v2 : V} (ml : mg "len" = none) (hr : Room 1 A) (e0 : Env0 P w K mg base A outer s H) (r : Vals [.str m, v1, v2] us)
    (hS : SealAt K mg sNumd (.num d) H f) (hc : Cap (.num d) H 1) (i1 : isT (.num d) H t1 v1) (i2 : isT (.num d) H t2 v2) (q : ∀ v H', Gr (.num d) 1 H H' → isT (.num d) H' (.nd m t1 t2) v → Q v H') :
    codeAny (model P w) A (.call (.ref f) ⟨us, []⟩) (CR CX0 outer P w H s Q E) s := by
  obtain ⟨c, c', doc, pm, ct, ob, co, cvs, tk, kvs, h1, h2, h3, h4, h5, h6, h7, h8⟩ := id hS
  obtain ⟨k1, rfl⟩ := isT_key i1
  obtain ⟨k2, rfl⟩ := isT_key i2
  have hlen : kvs.length < sizeLine := by have := hc d kvs rfl h7; rw [sizeLine_eq]; omega
  have tld := hS.told
  refine clos_run (k := 0) (ps := mot) (y := "_law_told") clN hr e0 r rfl h1 h2 h3 h4 h5 h6 (cv := .ref d) rfl (fun us hl => match us, hl with | [_, _, _], _ => rfl) fun hr1 => ?_
  have hu := hu_of hr1
  refine ⟨_, pss_cons (ps_if (pt_cmp (pc_dnotin hu (pe_tup (pa_cons (pv 0) (pa_cons (pv 1) (pa_cons (pv 2) pa_nil)))) (pv 3))) (pss_one (ps_dput hu (pv 3) (pe_tup (pa_cons (pv 0) (pa_cons (pv 1) (pa_cons (pv 2) pa_nil)))) (pe_callB call_lenT rfl ml PySem.boot_len (pa_cons (pv 3) pa_nil)) rfl)) pss_nil)
    (pss_one (ps_ret (pe_dget hu (pv 3) (pe_tup (pa_cons (pv 0) (pa_cons (pv 1) (pa_cons (pv 2) pa_nil)))) (fun _ _ => rfl)))), ?_⟩
  refine ⟨_, rfl, _, rfl, _, rfl, (by show 3 ≤ sizeLine; decide), fun p hp => ?_⟩
  have g1 : Gr (.num d) 0 H (upd H p (.tup [.str m, kV k1, kV k2])) := .new tld hp
  have d1 : upd H p (.tup [.str m, kV k1, kV k2]) d = some (.dT kvs) := by rw [upd_ne (ne_of_none h7 hp)]; exact h7
  refine ⟨_, rfl, d, _, rfl, DGet.t (k := [.inr m, k1, k2]) d1 upd_same, _, rfl, ?_⟩
  cases e : valV kvs [.inr m, k1, k2] with
  | some v =>
    obtain ⟨n, rfl⟩ := h8.val e
    refine iteF ?_
    refine ⟨_, rfl, _, rfl, _, rfl, _, rfl, (by show 3 ≤ sizeLine; decide), fun p2 hp2 => ?_⟩
    have g2 : Gr (.num d) 0 _ (upd (upd H p (.tup [.str m, kV k1, kV k2])) p2 (.tup [.str m, kV k1, kV k2])) := .new g1.gn.told2 hp2
    have d2 : upd (upd H p (.tup [.str m, kV k1, kV k2])) p2 (.tup [.str m, kV k1, kV k2]) d = some (.dT kvs) := by rw [upd_ne (ne_of_none d1 hp2)]; exact d1
    refine ⟨d, .int n, rfl, ?_, ?_⟩
    · have z := DGet.t (k := [.inr m, k1, k2]) d2 upd_same
      rw [e] at z; exact z
    · have g := (g1.trans g2).up (by omega : 0 + 0 ≤ 1)
      exact q _ _ g ⟨kvs, k1, k2, n, d2, isT_up g.gn i1, isT_up g.gn i2, e, rfl⟩
  | none =>
    refine iteT ?_
    refine ⟨_, rfl, d, kvs, rfl, d1, _, rfl, _, rfl, _, rfl, _, rfl, (by show 3 ≤ sizeLine; decide), fun p2 hp2 => ?_⟩
    have g2 : Gr (.num d) 0 _ (upd (upd H p (.tup [.str m, kV k1, kV k2])) p2 (.tup [.str m, kV k1, kV k2])) := .new g1.gn.told2 hp2
    have d2 : upd (upd H p (.tup [.str m, kV k1, kV k2])) p2 (.tup [.str m, kV k1, kV k2]) d = some (.dT kvs) := by rw [upd_ne (ne_of_none d1 hp2)]; exact d1
    refine ⟨d, _, rfl, DPut.t (k := [.inr m, k1, k2]) d2 upd_same hlen, ?_⟩
    generalize hH3 : upd (upd (upd H p (.tup [.str m, kV k1, kV k2])) p2 (.tup [.str m, kV k1, kV k2])) d (.dT (putK kvs [.inr m, k1, k2] (.int kvs.length))) = H3
    have d3 : H3 d = some (.dT (kvs ++ [([.inr m, k1, k2], .int kvs.length)])) := by rw [← hH3, upd_same, putK_new _ e]
    have g3 : Gr (.num d) 1 (upd (upd H p (.tup [.str m, kV k1, kV k2])) p2 (.tup [.str m, kV k1, kV k2])) H3 := by
      have ne : ∀ b o, upd (upd H p (.tup [.str m, kV k1, kV k2])) p2 (.tup [.str m, kV k1, kV k2]) b = some o → b ≠ d → H3 b = some o := fun b o h hb => by rw [← hH3, upd_ne hb]; exact h
      refine ⟨⟨fun b o h i => ne b o h ?_, fun d' ed => ?_⟩, fun b o h hd => ne b o h fun z => hd (by rw [z]; rfl)⟩
      · rintro rfl; rw [d2] at h; cases h; cases i
      · obtain rfl : d = d' := Option.some.inj ed
        exact ⟨kvs, _, d2, d3, by simp, fun z => z.snoc _⟩
    refine ⟨_, rfl, _, rfl, _, rfl, _, rfl, (by show 3 ≤ sizeLine; decide), fun p4 hp4 => ?_⟩
    have g4 : Gr (.num d) 0 H3 (upd H3 p4 (.tup [.str m, kV k1, kV k2])) := .new g3.gn.told2 hp4
    have d4 : upd H3 p4 (.tup [.str m, kV k1, kV k2]) d = some (.dT (kvs ++ [([.inr m, k1, k2], .int kvs.length)])) := by rw [upd_ne (ne_of_none d3 hp4)]; exact d3
    have ev : valV (kvs ++ [([.inr m, k1, k2], V.int (kvs.length : Int))]) [.inr m, k1, k2] = some (.int (kvs.length : Int)) := by rw [valV_snoc _ _ _ _ e, if_pos rfl]
    refine ⟨d, .int kvs.length, rfl, ?_, ?_⟩
    · have z := DGet.t (k := [.inr m, k1, k2]) d4 upd_same
      rw [ev] at z; exact z
    · have g := (((g1.trans g2).trans g3).trans g4).up (by omega : 0 + 0 + 1 + 0 ≤ 1)
      exact q _ _ g ⟨_, k1, k2, _, d4, isT_up g.gn i1, isT_up g.gn i2, ev, rfl⟩
theorem seal_ok (Fp : FnP P w K mg base 1 "_law_plain" mot spPlain) (Ft : FnP P w K mg base 1 "_law_turned" mot spTurned) (ml : mg "len" = none) : CallOk P w K mg base CX0 1 (spSeal K mg sNumd) := by
  intro f A outer s H us vs Q E hr e0 r h
  obtain ⟨S, m, t1, t2, v1, v2, hS, hc, rfl, i1, i2, q⟩ := h
  have tld := hS.told
  cases S with
  | plain =>
    obtain ⟨f', fd, h1, h2, h3, h4, _⟩ := Fp
    have e := hS.1.symm.trans h1
    cases e
    refine h4.called h3 hr e0 r ⟨m, v1, v2, rfl, fun p hp => ?_⟩
    have g : Gr .plain 0 H (upd H p (.tup [.str m, v1, v2])) := .new tld hp
    exact q _ _ (g.up (by omega)) ⟨p, v1, v2, rfl, upd_same, isT_up g.gn i1, isT_up g.gn i2⟩
  | turned =>
    obtain ⟨f', fd, h1, h2, h3, h4, _⟩ := Ft
    have e := hS.1.symm.trans h1
    cases e
    refine h4.called h3 hr e0 r ⟨m, v1, v2, rfl, fun p hp => ?_⟩
    have g : Gr .turned 0 H (upd H p (.tup [.str "seal of", v2, v1, .str m])) := .new tld hp
    exact q _ _ (g.up (by omega)) ⟨p, v1, v2, rfl, upd_same, isT_up g.gn i1, isT_up g.gn i2⟩
  | num d => exact num_run ml hr e0 r hS hc i1 i2 q
end
section
variable {P : Program} {w : World} {K : PySem.W.Frag} {mg : Str → Option Value} {base : Heap}
def spCell (K : PySem.W.Frag) : Sp := fun vs H Q _ => ∃ (a : Addr) (ns : List Int) (k : Int), vs = [.ref a, .int k] ∧ SqL K H a (ns.map V.int) ∧ 0 ≤ k ∧ ∀ v : Int, Q (.int v) H
theorem scCe : FnScope ["_law_script", "_law_k"] ["_law_script", "_law_k"] (defScope sCell) := ⟨rfl, rfl, rfl, by decide +kernel, rfl, by decide +kernel, by decide +kernel⟩
theorem ok_cell (F : FunAt K mg "_law_cell_at" sCell) (ml : mg "len" = none) : FnP P w K mg base 1 "_law_cell_at" ["_law_script", "_law_k"] (spCell K) := by
  refine F.ok scCe (fun _ _ _ _ _ _ us hl => match us, hl with | [_, _], _ => rfl) (fun vs H Q E h => ?_) (fun f cdv A outer s H vs Q E hr h => ?_)
  · obtain ⟨a, ns, k, rfl, _⟩ := h; rfl
  obtain ⟨a, ns, k, rfl, hS, h0, q⟩ := h
  refine ⟨_, pss_cons (ps_if (pt_cmpR op_lt (pv 1) (pe_callB call_len_seq rfl ml PySem.boot_len (pa_cons (pv 0) pa_nil)) (nomark _)) (pss_one (ps_ret (pe_ix ix_list (pv 0) (pv 1) (fun _ _ => rfl)))) pss_nil) (pss_one (ps_ret pe_int)), ?_⟩
  refine ⟨_, rfl, _, rfl, a, _, rfl, .inl hS, _, _, rfl, rfl, _, rfl, ?_⟩
  refine ite2 (fun c => ?_) (fun c => ?_)
  · have c' : k < ((ns.map V.int).length : Int) := of_decide_eq_true c
    rw [List.length_map] at c'
    have hk : k.toNat < ns.length := by omega
    have z : atI (ns.map V.int) ((k.toNat : Nat) : Int) = some (.int ns[k.toNat]) := atI_nat (by rw [List.getElem?_map, List.getElem?_eq_getElem hk] <;> rfl)
    rw [show ((k.toNat : Nat) : Int) = k by omega] at z
    exact ⟨_, rfl, _, rfl, a, _, _, _, rfl, rfl, hS, z, q _⟩
  · exact q 0
structure Ext0 (K : PySem.W.Frag) (mg : Str → Option Value) (base : Heap) (c0 Pt : Addr) : Prop where
  code : PySem.W.CodeHd base c0 Pt
  bm : ∃ bm ob, mg "__builtins__" = some (.ref bm) ∧ bm ≠ builtinsNs ∧ base.get? bm = some ob ∧ ob.cls = .type "module" ∧ ob.dict = some builtinsNs ∧ ob.data = .plain
  tab : PySem.W.tabIn K "_law_numbering" = some (c0, Pt)
def spNumbering (K : PySem.W.Frag) (mg : Str → Option Value) (Pt : Addr) : Sp := fun vs H Q _ => vs = [] ∧ H Pt = some (.tbl #[]) ∧
  ∀ f d H', SealAt K mg sNumd (.num d) H' f → H' d = some (.dT []) → (∀ b o, H b = some o → b ≠ Pt → H' b = some o) → Q (.ref f) H'
theorem scNu : FnScope ["_law_numbered", "_law_told"] [] (defScope sNumbering) := ⟨rfl, rfl, rfl, by decide +kernel, rfl, by decide +kernel, by decide +kernel⟩
theorem ok_numbering {c0 Pt : Addr} (F : FunAt K mg "_law_numbering" sNumbering) (kb : K.In base) (nb : base.Ns mainGlobals mg) (X0 : Ext0 K mg base c0 Pt) : FnP P w K mg base 1 "_law_numbering" [] (spNumbering K mg Pt) := by
  obtain ⟨f0, fd, hm, F⟩ := F
  obtain ⟨oc, od, kV, doc, pm, an, cdv, ct, osl, rfl, lk, hcd⟩ := F.ex
  have hcode : cdv = .ref c0 := PySem.W.law_code kb nb X0.tab hm (kb _ _ lk) rfl
  refine ⟨f0, _, hm, F.kp, F.binds (ps := []) fun _ _ _ _ _ _ us hl => match us, hl with | [], _ => rfl, ?_, _, _, _, lk⟩
  refine fn_ofR lk hcd scNu (fun vs H Q E h => by rw [h.1]; rfl) fun A outer s s1 H vs Q E hr h I => ?_
  obtain ⟨rfl, hP, q⟩ := h
  generalize hX : cxOf CX0 P w K mg base ["_law_numbered", "_law_told"] "_law_numbering" (defScope sNumbering) f0 cdv A outer s H E = X at I
  subst hX
  -- told = {}
  refine wpAny_execs_cons (thn ((ps_set (X := cxOf CX0 P w K mg base ["_law_numbered", "_law_told"] "_law_numbering" (defScope sNumbering) f0 cdv A outer s H E) (i := 1) scNu.nd rfl (Or.inr rfl) pe_dnewT : PS _ _ _) [] s1 _ H
    { nx := fun σ H' => ∃ d, H d = none ∧ σ = [none, some (.ref d)] ∧ H' = upd H d (.dT []), rt := fun _ _ => False } I fun d hd => ⟨d, hd, rfl, rfl⟩) fun fl s2 h2 => ?_)
  cases fl with
  | brk => obtain ⟨_, _, _, z⟩ := h2; exact False.elim z
  | cont => obtain ⟨_, _, _, z⟩ := h2; exact False.elim z
  | ret u => obtain ⟨_, _, _, _, _, z⟩ := h2; exact False.elim z
  | next =>
  obtain ⟨σ2, H2, I2, d, hd, rfl, rfl⟩ := h2
  have hPd : Pt ≠ d := ne_of_none hP hd
  -- the def
  refine wpAny_execs_cons (thn (ps_def (X := cxOf CX0 P w K mg base ["_law_numbered", "_law_told"] "_law_numbering" (defScope sNumbering) f0 cdv A outer s H E) (i := 0) (Pt := Pt) (c0 := c0) (qual := qN) (clos := [("_law_told", s.heap.objs.size + 1)])
    rfl rfl rfl rfl rfl hcode X0.code X0.bm scNu.nd rfl (Or.inl rfl) (Or.inl rfl) [] s2 _ _
    { nx := fun σ H' => ∃ (f c' : Addr) (ob : Obj) (cvs : Array Value) (tk : Tok) (ctv doc pm : Value) (ps : Array Value), upd H d (.dT []) f = none ∧ upd H d (.dT []) c' = none ∧ c' ≠ f ∧ Pt ≠ f ∧ Pt ≠ c' ∧ ob.data = .fields cvs ∧ cvs[1]? = some (.str qN tk) ∧ σ = [some (.ref f), some (.ref d)] ∧
        H' = upd (upd (upd (upd H d (.dT [])) Pt (.tbl ps)) c' (.frz ob (.own 0))) f (.frz (PySem.W.fnMade "_law_numbered" qN (defArgs sNumd) (defBody sNumd) (defScope sNumd) [("_law_told", s.heap.objs.size + 1)] doc pm c' ctv) (.own 0)), rt := fun _ _ => False } I2
    ⟨#[], by rw [upd_ne hPd]; exact hP, trivial, rfl, fun f c' ob cvs tk ctv doc pm h1 h2 h3 h4 h5 h6 h7 => ⟨f, c', ob, cvs, tk, ctv, doc, pm, _, h1, h2, h3, h4, h5, h6, h7, rfl, rfl⟩⟩) fun fl s3 h3 => ?_)
  cases fl with
  | brk => obtain ⟨_, _, _, z⟩ := h3; exact False.elim z
  | cont => obtain ⟨_, _, _, z⟩ := h3; exact False.elim z
  | ret u => obtain ⟨_, _, _, _, _, z⟩ := h3; exact False.elim z
  | next =>
  obtain ⟨σ3, H3, I3, f, c', ob, cvs, tk, ctv, doc', pm', ps, n1, n2, n3, n4, n5, n6, n7, rfl, e3⟩ := h3
  -- return it
  refine wpAny_execs_cons (wpAny_Return_some (thn ((pv (X := cxOf CX0 P w K mg base ["_law_numbered", "_law_told"] "_law_numbering" (defScope sNumbering) f0 cdv A outer s H E) 0 : PE _ _ _) [] s3 _ H3 (fun v H' => v = .ref f ∧ H' = H3) I3 ⟨_, rfl, rfl, rfl⟩) fun u s4 ⟨v, H4, I4, r4, e4, e5⟩ => ?_))
  subst e4 e5
  obtain rfl : u = Value.ref f := r4
  obtain ⟨mm, hn, hl⟩ := I4.loc
  obtain ⟨cu, rcu, lcu⟩ := hl 1 "_law_told" (.ref d) rfl rfl (Or.inr (Or.inl rfl))
  obtain rfl : cu = Value.ref d := rcu
  rcases lcu with ⟨kk, _⟩ | ⟨_, c, hc, co, hco, hcd2⟩
  · exact absurd (show some NameKind.cell = some NameKind.local from kk) (by decide)
  have ec : s.heap.objs.size + 1 = c := Option.some.inj ((show (cxOf CX0 P w K mg base ["_law_numbered", "_law_told"] "_law_numbering" (defScope sNumbering) f0 cdv A outer s H E).env.cells.lookup ("_law_told" : Str) = some (s.heap.objs.size + 1) from rfl).symm.trans hc)
  have hcn : H4 c = none := (I4.freeC "_law_told" c hc).resolve_right fun z => absurd (show true = false from z.1) (by decide)
  have lec : s.heap.objs.size ≤ c := by omega
  refine ⟨.ref f, upd H4 c (.frz co (.own 0)), I4.os, I4.bare, I4.base.track lec hcn, I4.hok.track hco hcn, rfl, q f d _ ?_ ?_ ?_⟩
  · have ne : ∀ b o, H4 b = some o → upd H4 c (.frz co (.own 0)) b = some o := fun b o h => by rw [upd_ne (ne_of_none h hcn)]; exact h
    refine ⟨c, c', doc', pm', ctv, ob, co, cvs, tk, [], ?_, ?_, n6, n7, upd_same, hcd2, ?_, .nil⟩
    · rw [← ec]; refine ec ▸ ne _ _ ?_; rw [e3, upd_same, ec]
    · refine ne _ _ ?_; rw [e3, upd_ne n3, upd_same]
    · refine ne _ _ ?_
      have q1 : d ≠ f := by rintro rfl; rw [upd_same] at n1; cases n1
      have q2 : d ≠ c' := by rintro rfl; rw [upd_same] at n2; cases n2
      rw [e3, upd_ne q1, upd_ne q2, upd_ne (Ne.symm hPd), upd_same]
  · have hdc : d ≠ c := by
      rintro rfl
      have q1 : d ≠ f := by rintro rfl; rw [upd_same] at n1; cases n1
      have q2 : d ≠ c' := by rintro rfl; rw [upd_same] at n2; cases n2
      rw [e3, upd_ne q1, upd_ne q2, upd_ne (Ne.symm hPd), upd_same] at hcn; cases hcn
    have q1 : d ≠ f := by rintro rfl; rw [upd_same] at n1; cases n1
    have q2 : d ≠ c' := by rintro rfl; rw [upd_same] at n2; cases n2
    rw [upd_ne hdc, e3, upd_ne q1, upd_ne q2, upd_ne (Ne.symm hPd), upd_same]
  · intro b o hb hbP
    have b1 : b ≠ d := ne_of_none hb hd
    have hb2 : upd H d (.dT []) b = some o := by rw [upd_ne b1]; exact hb
    have b2 : b ≠ f := ne_of_none hb2 n1
    have b3 : b ≠ c' := ne_of_none hb2 n2
    have hb4 : H4 b = some o := by rw [e3, upd_ne b2, upd_ne b3, upd_ne hbP]; exact hb2
    rw [upd_ne (ne_of_none hb4 hcn)]; exact hb4
def spSealBy (K : PySem.W.Frag) (mg : Str → Option Value) (Pt : Addr) : Sp := fun vs H Q _ => ∃ (a : Addr) (ns : List Int), vs = [.ref a] ∧ SqL K H a (ns.map V.int) ∧ H Pt = some (.tbl #[]) ∧
  ∀ S f H', SealAt K mg sNumd S H' f → Cap S H' 10000000 → (∀ b o, H b = some o → b ≠ Pt → H' b = some o) → Q (.ref f) H'
theorem scSb : FnScope ["_law_script", "_law_kind"] ["_law_script"] (defScope sSealBy) := ⟨rfl, rfl, rfl, by decide +kernel, rfl, by decide +kernel, by decide +kernel⟩
theorem ok_sealby {Pt : Addr} (F : FunAt K mg "_law_seal_by" sSealBy) (Fc : FnP P w K mg base 1 "_law_cell_at" ["_law_script", "_law_k"] (spCell K)) (Fn : FnP P w K mg base 1 "_law_numbering" [] (spNumbering K mg Pt))
    (Fp : FunAt K mg "_law_plain" sPlain) (Ft : FunAt K mg "_law_turned" sTurned) : FnP P w K mg base 2 "_law_seal_by" ["_law_script"] (spSealBy K mg Pt) := by
  obtain ⟨fp, fpd, mp, Fp⟩ := Fp
  obtain ⟨ft, ftd, mt, Ft⟩ := Ft
  obtain ⟨_, _, _, _, _, _, _, _, _, rfl, lp, _⟩ := Fp.ex
  obtain ⟨_, _, _, _, _, _, _, _, _, rfl, lt, _⟩ := Ft.ex
  refine F.ok scSb (fun _ _ _ _ _ _ us hl => match us, hl with | [_], _ => rfl) (fun vs H Q E h => ?_) (fun f cdv A outer s H vs Q E hr h => ?_)
  · obtain ⟨a, ns, rfl, _⟩ := h; rfl
  obtain ⟨a, ns, rfl, hS, hP, q⟩ := h
  have nd := scSb.nd
  refine ⟨_, pss_cons (ps_set (i := 1) nd rfl (Or.inl rfl) (pe_op op_mod (pe_op op_fdiv (pe_callN Fc hr rfl (pa_cons (pv 0) (pa_cons pe_int pa_nil))) pe_int) pe_int))
    (pss_cons (ps_if (pt_cmpR op_eq (pv 1) pe_int (nomark _)) (pss_one (ps_ret (pe_glob (v := .ref fp) rfl mp rfl))) pss_nil)
    (pss_cons (ps_if (pt_cmpR op_eq (pv 1) pe_int (nomark _)) (pss_one (ps_ret (pe_glob (v := .ref ft) rfl mt rfl))) pss_nil)
    (pss_one (ps_ret (pe_callN0 Fn hr rfl))))), ?_⟩
  refine ⟨_, rfl, a, ns, 0, rfl, hS, by omega, fun v => ?_⟩
  refine ⟨_, _, rfl, rfl, ⟨by decide, by decide⟩, _, _, rfl, rfl, (by show (0 : Int) < 3; decide), ?_⟩
  refine ⟨_, rfl, rfl, _, rfl, ?_⟩
  refine ite2 (fun _ => ?_) (fun _ => ?_)
  · exact q .plain fp H ⟨mp, _, _, _, _, lp⟩ (fun d _ e => nomatch e) fun b o h _ => h
  refine ⟨_, rfl, rfl, _, rfl, ?_⟩
  refine ite2 (fun _ => ?_) (fun _ => ?_)
  · exact q .turned ft H ⟨mt, _, _, _, _, lt⟩ (fun d _ e => nomatch e) fun b o h _ => h
  refine ⟨rfl, hP, fun f d H' h1 h2 h3 => q (.num d) f H' h1 (fun d' kvs e hk => ?_) h3⟩
  obtain rfl : d = d' := Option.some.inj e
  rw [h2] at hk; cases hk
  simp
end
theorem split_val {n : Int} (h : 2 ≤ n) : (1 : Int) * 2 ^ (((Builtin.Int.intBits (n - 1) : Nat) : Int) - 1).toNat = ((Gb.spl n.toNat : Nat) : Int) := by
  have e0 : (n - 1 == 0) = false := by simp; omega
  unfold Builtin.Int.intBits Gb.spl
  rw [e0]
  simp only [Bool.false_eq_true, if_false]
  have e1 : (n - 1).natAbs = n.toNat - 1 := by omega
  have e2 : ((((n - 1).natAbs.log2 + 1 : Nat) : Int) - 1).toNat = (n.toNat - 1).log2 := by rw [e1]; omega
  rw [e2, Int.one_mul]
  push_cast
  rfl
theorem split_bits {n : Int} (h : 2 ≤ n) (h2 : n < 2 ^ 60) : 0 ≤ ((Builtin.Int.intBits (n - 1) : Nat) : Int) - 1 ∧ ((Builtin.Int.intBits (n - 1) : Nat) : Int) - 1 ≤ 1000000 := by
  have e0 : (n - 1 == 0) = false := by simp; omega
  unfold Builtin.Int.intBits
  rw [e0]
  simp only [Bool.false_eq_true, if_false]
  have e3 : (n - 1).natAbs.log2 < 60 := (Nat.log2_lt (by omega)).mpr (by omega)
  omega
def spSplit : Sp := fun vs H Q _ => ∃ n : Int, vs = [.int n] ∧ 2 ≤ n ∧ n < 2 ^ 60 ∧ Q (.int (Gb.spl n.toNat : Nat)) H
section
variable {P : Program} {w : World} {K : PySem.W.Frag} {mg : Str → Option Value} {base : Heap}
theorem scSp : FnScope ["size"] ["size"] (defScope sSplit) := ⟨rfl, rfl, rfl, by decide +kernel, rfl, by decide +kernel, by decide +kernel⟩
theorem ok_split (F : FunAt K mg "split" sSplit) : FnP P w K mg base 1 "split" ["size"] spSplit := by
  refine F.ok scSp (fun _ _ _ _ _ _ us hl => match us, hl with | [_], _ => rfl) (fun vs H Q E h => ?_) (fun f cdv A outer s H vs Q E hr h => ?_)
  · obtain ⟨n, rfl, _⟩ := h; rfl
  obtain ⟨n, rfl, h2, h3, q⟩ := h
  refine ⟨_, pss_cons (ps_if (pt_cmpR op_lt (pv 0) pe_int (nomark _)) (pss_one (ps_ret pe_int)) pss_nil)
    (pss_one (ps_ret (pe_op op_shl pe_int (pe_op op_sub (pe_bm0 PySem.F.plainAttrs_int PySem.F.slot_int_bit_length PySem.F.type_int_bit_length mt_bitlen (pe_op op_sub (pv 0) pe_int)) pe_int)))), ?_⟩
  refine ⟨_, rfl, _, _, rfl, rfl, _, rfl, ?_⟩
  rw [decide_eq_false (by omega)]
  refine iteF ?_
  refine ⟨_, rfl, _, _, rfl, rfl, rfl, _, rfl, rfl, _, _, rfl, rfl, _, _, rfl, rfl, ⟨(split_bits h2 h3).1, (split_bits h2 h3).2, by decide⟩, ?_⟩
  show Q (V.int (1 * 2 ^ (((Builtin.Int.intBits (n - 1) : Nat) : Int) - 1).toNat)) H
  rw [split_val h2]
  exact q
end
section
variable {P : Program} {w : World} {K : PySem.W.Frag} {mg : Str → Option Value} {base : Heap}
theorem scLs : FnScope ["_law_size", "_law_k"] ["_law_size"] (defScope sLsplit) := ⟨rfl, rfl, rfl, by decide +kernel, rfl, by decide +kernel, by decide +kernel⟩
theorem ok_lsplit (F : FunAt K mg "_law_split" sLsplit) : FnP P w K mg base 1 "_law_split" ["_law_size"] spSplit := by
  refine F.ok scLs (fun _ _ _ _ _ _ us hl => match us, hl with | [_], _ => rfl) (fun vs H Q E h => ?_) (fun f cdv A outer s H vs Q E hr h => ?_)
  · obtain ⟨n, rfl, _⟩ := h; rfl
  obtain ⟨n, rfl, h2, h3, q⟩ := h
  have nd := scLs.nd
  refine ⟨_, pss_cons (ps_set (i := 1) nd rfl (Or.inl rfl) pe_int) (pss_cons (ps_while PassesOwn.never (pt_cmpR op_lt (pe_op op_mul (pv 1) pe_int) (pv 0) (nomark _)) (pss_one (ps_set (i := 1) nd rfl (Or.inl rfl) (pe_op op_mul (pv 1) pe_int)))) (pss_one (ps_ret (pv 1)))), ?_⟩
  refine while_by (fun σ H' => H' = H ∧ ∃ j : Nat, σ = [some (.int n), some (.int (2 ^ j : Nat))] ∧ ((2 ^ j : Nat) : Int) < n) (fun σ _ => match σ with | [_, some (.int k)] => (n - k).toNat | _ => 0) ⟨rfl, 0, rfl, by simp; omega⟩ ?_ ?_
  · rintro σ H' ⟨rfl, j, rfl, hj⟩
    have hp : 1 ≤ 2 ^ j := Nat.one_le_two_pow
    refine ⟨_, rfl, _, _, rfl, rfl, .inr ⟨by decide, by decide⟩, _, rfl, _, _, rfl, rfl, _, rfl, ?_⟩
    refine ite2 (fun c => ?_) (fun c => ?_)
    · have c' : ((2 ^ j : Nat) : Int) * 2 < n := of_decide_eq_true c
      have e : ((2 ^ j : Nat) : Int) * 2 = ((2 ^ (j + 1) : Nat) : Int) := by rw [Nat.pow_succ]; push_cast; rfl
      refine ⟨_, rfl, _, _, rfl, rfl, .inr ⟨by decide, by decide⟩, ⟨rfl, j + 1, ?_, by rw [← e]; exact c'⟩, ?_⟩
      · rw [← e]; rfl
      · show (n - ((2 ^ j : Nat) : Int) * 2).toNat < (n - ((2 ^ j : Nat) : Int)).toNat
        omega
    · have c' : ¬ ((2 ^ j : Nat) : Int) * 2 < n := of_decide_eq_false (Bool.eq_false_iff.mpr c)
      refine ⟨_, rfl, ?_⟩
      have e : 2 ^ j = Gb.spl n.toNat := Gb.spl_unique (by omega) (by omega)
      rw [e]; exact q
  · rintro σ H' Q1 Q2 hq ⟨v, e1, i, j, e2, e3, c, v2, e4, i2, j2, e5, e6, k, e7, z⟩
    exact ⟨v, e1, i, j, e2, e3, c, v2, e4, i2, j2, e5, e6, k, e7, hq _ _ z⟩
def cst (ts : List Tm) : Nat := ts.length - 1 + (1 - ts.length)
theorem cst_le (ts : List Tm) : cst ts ≤ ts.length + 1 := by unfold cst; omega
theorem cst_at {ts : List Tm} {n : Nat} (h : ts.length = n) (hn : 1 ≤ n) : cst ts = n - 1 := by unfold cst; omega
def spTop (K : PySem.W.Frag) (mg : Str → Option Value) (j : Nat) : Sp := fun vs H Q _ => ∃ S f a ws ts, vs = [.ref f, .ref a] ∧ SealAt K mg sNumd S H f ∧ SqL K H a ws ∧ isTs S H ts ws ∧ ts.length ≤ 2 ^ j ∧ Cap S H (cst ts) ∧
  ∀ v H', Gr S (cst ts) H H' → isT S H' (tpT ts) v → Q v H'
theorem scLt : FnScope ["_law_seal", "_law_leaves_here", "_law_k"] ["_law_seal", "_law_leaves_here"] (defScope sLtop) := ⟨rfl, rfl, rfl, by decide +kernel, rfl, by decide +kernel, by decide +kernel⟩
theorem cut_take {xs : List V} {k : Nat} : cutV xs none (some (k : Int)) = xs.take k := by
  unfold cutV
  rw [HT.sIx_none, HT.sIx_nat, List.drop_zero, Nat.sub_zero]
  by_cases h : k ≤ xs.length
  · rw [Nat.min_eq_left h]
  · rw [Nat.min_eq_right (by omega), List.take_of_length_le (Nat.le_refl _), List.take_of_length_le (by omega)]
theorem cut_drop {xs : List V} {k : Nat} : cutV xs (some (k : Int)) none = xs.drop k := by
  unfold cutV
  rw [HT.sIx_none, HT.sIx_nat]
  by_cases h : k ≤ xs.length
  · rw [Nat.min_eq_left h, List.take_of_length_le (by simp)]
  · rw [Nat.min_eq_right (by omega), List.drop_eq_nil_of_le (Nat.le_refl _), List.drop_eq_nil_of_le (by omega)]; simp
theorem ok_ltop (F : FunAt K mg "_law_top" sLtop) (Fs : FnP P w K mg base 1 "_law_split" ["_law_size"] spSplit) (Fl : CallOk P w K mg base CX0 1 (spSeal K mg sNumd)) (ml : mg "len" = none) : ∀ j : Nat, j ≤ 40 → FnP P w K mg base (j + 2) "_law_top" ["_law_seal", "_law_leaves_here"] (spTop K mg j)
  | 0, _ => by
    refine F.ok scLt (fun _ _ _ _ _ _ us hl => match us, hl with | [_, _], _ => rfl) (fun vs H Q E h => ?_) (fun f cdv A outer s H vs Q E hr h => ?_)
    · obtain ⟨S, f, a, ws, ts, rfl, _⟩ := h; rfl
    obtain ⟨S, f, a, ws, ts, rfl, hS, hq, ht, hj, hc, q⟩ := h
    have hl := pr_len ht
    refine ⟨_, pss_cons (ps_if (pt_cmpR op_eq (pe_callB call_len_seq rfl ml PySem.boot_len (pa_cons (pv 1) pa_nil)) pe_int (nomark _)) (pss_one (ps_ret (pe_callV (i := 0) Fl hr pass0 rfl (Or.inl rfl) (pa_cons pe_str (pa_cons pe_int (pa_cons pe_int pa_nil)))))) pss_nil)
      (pss_cons (ps_if (pt_cmpR op_eq (pe_callB call_len_seq rfl ml PySem.boot_len (pa_cons (pv 1) pa_nil)) pe_int (nomark _)) (pss_one (ps_ret (pe_ix ix_list (pv 1) pe_int (fun _ _ => rfl)))) pss_nil) pss_never), ?_⟩
    refine ⟨_, rfl, a, _, rfl, .inl hq, rfl, _, rfl, ?_⟩
    refine ite2 (fun c => ?_) (fun c => ?_)
    · have c' : V.int (ws.length : Int) = V.int 0 := of_decide_eq_true c
      have e : ts = [] := List.eq_nil_of_length_eq_zero (by injection c' with c'; omega)
      subst e
      refine ⟨f, rfl, hS.fny, hS.fny, S, _, .int 0, .int 0, _, _, hS, hc, rfl, rfl, rfl, fun v H' g h => q v H' g ?_⟩
      show isT S H' (Gb.topT nlT prT []) v
      rw [Gb.topT_nil]; exact h
    · have c' : ¬ V.int (ws.length : Int) = V.int 0 := of_decide_eq_false (Bool.eq_false_iff.mpr c)
      have e : ts.length = 1 := by
        have : ts.length ≠ 0 := fun z => c' (by rw [← hl, z]; rfl)
        simp at hj; omega
      obtain ⟨t, rfl⟩ := List.length_eq_one_iff.mp e
      obtain ⟨v0, rfl⟩ : ∃ v0, ws = [v0] := List.length_eq_one_iff.mp (by rw [← hl]; rfl)
      cases ht with
      | cons ht1 ht2 =>
        refine ⟨_, rfl, a, _, rfl, .inl hq, rfl, _, rfl, ?_⟩
        refine iteT ?_
        refine ⟨_, rfl, a, _, _, v0, rfl, rfl, hq, atI_nat (j := 0) rfl, ?_⟩
        refine q v0 H ((Gr.refl hS.told).up (by omega)) ?_
        show isT S H (Gb.topT nlT prT [t]) v0
        rw [Gb.topT_one]; exact ht1
  | j + 1, hjj => by
    have ih := ok_ltop F Fs Fl ml j (by omega)
    refine F.ok scLt (fun _ _ _ _ _ _ us hl => match us, hl with | [_, _], _ => rfl) (fun vs H Q E h => ?_) (fun f cdv A outer s H vs Q E hr h => ?_)
    · obtain ⟨S, f, a, ws, ts, rfl, _⟩ := h; rfl
    obtain ⟨S, f, a, ws, ts, rfl, hS, hq, ht, hj, hc, q⟩ := h
    have hl := pr_len ht
    have nd := scLt.nd
    refine ⟨_, pss_cons (ps_if (pt_cmpR op_eq (pe_callB call_len_seq rfl ml PySem.boot_len (pa_cons (pv 1) pa_nil)) pe_int (nomark _)) (pss_one (ps_ret (pe_callV (i := 0) Fl (hr.mono (by omega)) pass0 rfl (Or.inl rfl) (pa_cons pe_str (pa_cons pe_int (pa_cons pe_int pa_nil)))))) pss_nil)
      (pss_cons (ps_if (pt_cmpR op_eq (pe_callB call_len_seq rfl ml PySem.boot_len (pa_cons (pv 1) pa_nil)) pe_int (nomark _)) (pss_one (ps_ret (pe_ix ix_list (pv 1) pe_int (fun _ _ => rfl)))) pss_nil)
      (pss_cons (ps_set (i := 2) nd rfl (Or.inl rfl) (pe_callN Fs (hr.mono (by omega)) rfl (pa_cons (pe_callB call_len_seq rfl ml PySem.boot_len (pa_cons (pv 1) pa_nil)) pa_nil)))
      (pss_one (ps_ret (pe_callV (i := 0) Fl (hr.mono (by omega)) pass0 rfl (Or.inl rfl) (pa_cons pe_str (pa_cons (pe_callN ih hr rfl (pa_cons (pv 0) (pa_cons (pe_slice sl_list (pv 1) po_none (po_some (pv 2))) pa_nil)))
        (pa_cons (pe_callN ih hr rfl (pa_cons (pv 0) (pa_cons (pe_slice sl_list (pv 1) (po_some (pv 2)) po_none) pa_nil))) pa_nil)))))))), ?_⟩
    refine ⟨_, rfl, a, _, rfl, .inl hq, rfl, _, rfl, ?_⟩
    refine ite2 (fun c => ?_) (fun c => ?_)
    · have c' : V.int (ws.length : Int) = V.int 0 := of_decide_eq_true c
      have e : ts = [] := List.eq_nil_of_length_eq_zero (by injection c' with c'; omega)
      subst e
      refine ⟨f, rfl, hS.fny, hS.fny, S, _, .int 0, .int 0, _, _, hS, hc, rfl, rfl, rfl, fun v H' g h => q v H' g ?_⟩
      show isT S H' (Gb.topT nlT prT []) v
      rw [Gb.topT_nil]; exact h
    have c0 : ¬ V.int (ws.length : Int) = V.int 0 := of_decide_eq_false (Bool.eq_false_iff.mpr c)
    refine ⟨_, rfl, a, _, rfl, .inl hq, rfl, _, rfl, ?_⟩
    refine ite2 (fun c => ?_) (fun c => ?_)
    · have c' : V.int (ws.length : Int) = V.int 1 := of_decide_eq_true c
      have e : ts.length = 1 := by injection c' with c'; omega
      obtain ⟨t, rfl⟩ := List.length_eq_one_iff.mp e
      obtain ⟨v0, rfl⟩ : ∃ v0, ws = [v0] := List.length_eq_one_iff.mp (by rw [← hl]; rfl)
      cases ht with
      | cons ht1 ht2 =>
        refine ⟨_, rfl, a, _, _, v0, rfl, rfl, hq, atI_nat (j := 0) rfl, ?_⟩
        refine q v0 H ((Gr.refl hS.told).up (by omega)) ?_
        show isT S H (Gb.topT nlT prT [t]) v0
        rw [Gb.topT_one]; exact ht1
    have cc1 : ¬ V.int (ws.length : Int) = V.int 1 := of_decide_eq_false (Bool.eq_false_iff.mpr c)
    have h2 : 2 ≤ ts.length := by
      have a0 : ts.length ≠ 0 := fun z => c0 (by rw [← hl, z]; rfl)
      have a1 : ts.length ≠ 1 := fun z => cc1 (by rw [← hl, z]; rfl)
      omega
    have x1 := Gb.spl_lt h2
    have x2 := Gb.spl_pos ts.length
    have x3 := Gb.spl_ge h2
    have xj : Gb.spl ts.length ≤ 2 ^ j := by
      unfold Gb.spl
      refine Nat.pow_le_pow_right (by omega) ?_
      have : 2 ^ Nat.log2 (ts.length - 1) < 2 ^ (j + 1) := Nat.lt_of_lt_of_le (Gb.spl_lt h2) hj
      have := (Nat.pow_lt_pow_iff_right (by omega : 1 < 2)).mp this
      omega
    have l1 : (ts.take (Gb.spl ts.length)).length = Gb.spl ts.length := by rw [List.length_take]; omega
    have l2 : (ts.drop (Gb.spl ts.length)).length = ts.length - Gb.spl ts.length := List.length_drop
    have c1 := cst_at l1 x2
    have c2 := cst_at l2 (by omega)
    have c3 := cst_at (ts := ts) rfl (by omega)
    have big : ts.length < 2 ^ 60 := Nat.lt_of_le_of_lt hj (Nat.pow_lt_pow_right (by omega) (by omega))
    refine ⟨_, rfl, a, _, rfl, .inl hq, _, rfl, by omega, by omega, ?_⟩
    have ek : (ws.length : Int).toNat = ts.length := by omega
    rw [ek]
    refine ⟨f, rfl, hS.fny, ?_⟩
    -- the first part
    refine ⟨_, rfl, _, rfl, _, rfl, _, rfl, a, ws, rfl, hq, fun p1 hp1 => ?_⟩
    have g1 : Gr S 0 H (upd H p1 (.lst (cutV ws none (some (Gb.spl ts.length : Nat))))) := .new hS.told hp1
    refine ⟨S, f, p1, ws.take (Gb.spl ts.length), ts.take (Gb.spl ts.length), rfl, hS.up g1.gn, SqL.of (by rw [upd_same, cut_take]), isTs_up g1.gn (pr_take _ ht), by simp; omega, hc.go g1.gn (by omega), fun v1 H1 g2 i1 => ?_⟩
    have g12 := g1.trans g2
    have hq1 := g12.sq hq
    -- the rest
    refine ⟨_, rfl, _, rfl, _, rfl, _, rfl, a, ws, rfl, hq1, fun p2 hp2 => ?_⟩
    have g3 : Gr S 0 H1 (upd H1 p2 (.lst (cutV ws (some (Gb.spl ts.length : Nat)) none))) := .new g12.gn.told2 hp2
    have g13 := g12.trans g3
    refine ⟨S, f, p2, ws.drop (Gb.spl ts.length), ts.drop (Gb.spl ts.length), rfl, hS.up g13.gn, SqL.of (by rw [upd_same, cut_drop]), isTs_up g13.gn (pr_drop _ ht), by simp; omega, hc.go g13.gn (by omega), fun v2 H2 g4 i2 => ?_⟩
    have g14 := g13.trans g4
    have g24 := g3.trans g4
    refine ⟨(hS.up g14.gn).fny, S, _, tpT (ts.take (Gb.spl ts.length)), tpT (ts.drop (Gb.spl ts.length)), _, _, hS.up g14.gn, hc.go g14.gn (by omega), rfl, isT_up g24.gn i1, i2, fun v H' g5 i3 => ?_⟩
    refine q v H' ((g14.trans g5).up (by omega)) ?_
    show isT S H' (Gb.topT nlT prT ts) v
    rw [Gb.topT_more nlT prT h2]; exact i3
end
section
variable {P : Program} {w : World} {K : PySem.W.Frag} {mg : Str → Option Value} {base : Heap}
def spNone (K : PySem.W.Frag) (mg : Str → Option Value) : Sp := fun vs H Q _ => ∃ S f, vs = [.ref f] ∧ SealAt K mg sNumd S H f ∧ Cap S H 1 ∧ ∀ v H', Gr S 1 H H' → isT S H' nlT v → Q v H'
def spPair (K : PySem.W.Frag) (mg : Str → Option Value) : Sp := fun vs H Q _ => ∃ S f t1 t2 v1 v2, vs = [.ref f, v1, v2] ∧ SealAt K mg sNumd S H f ∧ Cap S H 1 ∧ isT S H t1 v1 ∧ isT S H t2 v2 ∧ ∀ v H', Gr S 1 H H' → isT S H' (prT t1 t2) v → Q v H'
theorem scNo : FnScope ["seal"] ["seal"] (defScope sNone) := ⟨rfl, rfl, rfl, by decide +kernel, rfl, by decide +kernel, by decide +kernel⟩
theorem scPa : FnScope ["seal", "first", "rest"] ["seal", "first", "rest"] (defScope sPair) := ⟨rfl, rfl, rfl, by decide +kernel, rfl, by decide +kernel, by decide +kernel⟩
theorem ok_none (F : FunAt K mg "none_seal" sNone) (Fl : CallOk P w K mg base CX0 1 (spSeal K mg sNumd)) : FnP P w K mg base 2 "none_seal" ["seal"] (spNone K mg) := by
  refine F.ok scNo (fun _ _ _ _ _ _ us hl => match us, hl with | [_], _ => rfl) (fun vs H Q E h => ?_) (fun f cdv A outer s H vs Q E hr h => ?_)
  · obtain ⟨S, f, rfl, _⟩ := h; rfl
  obtain ⟨S, f, rfl, hS, hc, q⟩ := h
  refine ⟨_, pss_one (ps_ret (pe_callV (i := 0) Fl hr pass0 rfl (Or.inl rfl) (pa_cons pe_str (pa_cons pe_int (pa_cons pe_int pa_nil))))), ?_⟩
  exact ⟨f, rfl, hS.fny, hS.fny, S, _, .int 0, .int 0, _, _, hS, hc, rfl, rfl, rfl, q⟩
theorem ok_pair (F : FunAt K mg "pair_seal" sPair) (Fl : CallOk P w K mg base CX0 1 (spSeal K mg sNumd)) : FnP P w K mg base 2 "pair_seal" ["seal", "first", "rest"] (spPair K mg) := by
  refine F.ok scPa (fun _ _ _ _ _ _ us hl => match us, hl with | [_, _, _], _ => rfl) (fun vs H Q E h => ?_) (fun f cdv A outer s H vs Q E hr h => ?_)
  · obtain ⟨S, f, t1, t2, v1, v2, rfl, _⟩ := h; rfl
  obtain ⟨S, f, t1, t2, v1, v2, rfl, hS, hc, i1, i2, q⟩ := h
  refine ⟨_, pss_one (ps_ret (pe_callV (i := 0) Fl hr pass0 rfl (Or.inl rfl) (pa_cons pe_str (pa_cons (pv 1) (pa_cons (pv 2) pa_nil))))), ?_⟩
  exact ⟨f, rfl, hS.fny, _, rfl, _, rfl, hS.fny, S, _, t1, t2, _, _, hS, hc, rfl, i1, i2, q⟩
end
section
variable {P : Program} {w : World} {K : PySem.W.Frag} {mg : Str → Option Value} {base : Heap}
theorem scTo : FnScope ["seal", "leaves", "first"] ["seal", "leaves"] (defScope sTop) := ⟨rfl, rfl, rfl, by decide +kernel, rfl, by decide +kernel, by decide +kernel⟩
theorem ok_top (F : FunAt K mg "top_of" sTop) (Fs : FnP P w K mg base 1 "split" ["size"] spSplit) (Fno : FnP P w K mg base 2 "none_seal" ["seal"] (spNone K mg)) (Fpa : FnP P w K mg base 2 "pair_seal" ["seal", "first", "rest"] (spPair K mg)) (ml : mg "len" = none) : ∀ j : Nat, j ≤ 40 → FnP P w K mg base (j + 3) "top_of" ["seal", "leaves"] (spTop K mg j)
  | 0, _ => by
    refine F.ok scTo (fun _ _ _ _ _ _ us hl => match us, hl with | [_, _], _ => rfl) (fun vs H Q E h => ?_) (fun f cdv A outer s H vs Q E hr h => ?_)
    · obtain ⟨S, f, a, ws, ts, rfl, _⟩ := h; rfl
    obtain ⟨S, f, a, ws, ts, rfl, hS, hq, ht, hj, hc, q⟩ := h
    have hl := pr_len ht
    refine ⟨_, pss_cons (ps_if (pt_cmpR op_eq (pe_callB call_len_seq rfl ml PySem.boot_len (pa_cons (pv 1) pa_nil)) pe_int (nomark _)) (pss_one (ps_ret (pe_callN Fno hr rfl (pa_cons (pv 0) pa_nil)))) pss_nil)
      (pss_cons (ps_if (pt_cmpR op_eq (pe_callB call_len_seq rfl ml PySem.boot_len (pa_cons (pv 1) pa_nil)) pe_int (nomark _)) (pss_one (ps_ret (pe_ix ix_list (pv 1) pe_int (fun _ _ => rfl)))) pss_nil) pss_never), ?_⟩
    refine ⟨_, rfl, a, _, rfl, .inl hq, rfl, _, rfl, ?_⟩
    refine ite2 (fun c => ?_) (fun c => ?_)
    · have c' : V.int (ws.length : Int) = V.int 0 := of_decide_eq_true c
      have e : ts = [] := List.eq_nil_of_length_eq_zero (by injection c' with c'; omega)
      subst e
      refine ⟨_, rfl, S, f, rfl, hS, hc, fun v H' g h => q v H' g ?_⟩
      show isT S H' (Gb.topT nlT prT []) v
      rw [Gb.topT_nil]; exact h
    · have c' : ¬ V.int (ws.length : Int) = V.int 0 := of_decide_eq_false (Bool.eq_false_iff.mpr c)
      have e : ts.length = 1 := by
        have : ts.length ≠ 0 := fun z => c' (by rw [← hl, z]; rfl)
        simp at hj; omega
      obtain ⟨t, rfl⟩ := List.length_eq_one_iff.mp e
      obtain ⟨v0, rfl⟩ : ∃ v0, ws = [v0] := List.length_eq_one_iff.mp (by rw [← hl]; rfl)
      cases ht with
      | cons ht1 ht2 =>
        refine ⟨_, rfl, a, _, rfl, .inl hq, rfl, _, rfl, ?_⟩
        refine iteT ?_
        refine ⟨_, rfl, a, _, _, v0, rfl, rfl, hq, atI_nat (j := 0) rfl, ?_⟩
        refine q v0 H ((Gr.refl hS.told).up (by omega)) ?_
        show isT S H (Gb.topT nlT prT [t]) v0
        rw [Gb.topT_one]; exact ht1
  | j + 1, hjj => by
    have ih := ok_top F Fs Fno Fpa ml j (by omega)
    refine F.ok scTo (fun _ _ _ _ _ _ us hl => match us, hl with | [_, _], _ => rfl) (fun vs H Q E h => ?_) (fun f cdv A outer s H vs Q E hr h => ?_)
    · obtain ⟨S, f, a, ws, ts, rfl, _⟩ := h; rfl
    obtain ⟨S, f, a, ws, ts, rfl, hS, hq, ht, hj, hc, q⟩ := h
    have hl := pr_len ht
    have nd := scTo.nd
    refine ⟨_, pss_cons (ps_if (pt_cmpR op_eq (pe_callB call_len_seq rfl ml PySem.boot_len (pa_cons (pv 1) pa_nil)) pe_int (nomark _)) (pss_one (ps_ret (pe_callN Fno (hr.mono (by omega)) rfl (pa_cons (pv 0) pa_nil)))) pss_nil)
      (pss_cons (ps_if (pt_cmpR op_eq (pe_callB call_len_seq rfl ml PySem.boot_len (pa_cons (pv 1) pa_nil)) pe_int (nomark _)) (pss_one (ps_ret (pe_ix ix_list (pv 1) pe_int (fun _ _ => rfl)))) pss_nil)
      (pss_cons (ps_set (i := 2) nd rfl (Or.inl rfl) (pe_callN Fs (hr.mono (by omega)) rfl (pa_cons (pe_callB call_len_seq rfl ml PySem.boot_len (pa_cons (pv 1) pa_nil)) pa_nil)))
      (pss_one (ps_ret (pe_callN Fpa (hr.mono (by omega)) rfl (pa_cons (pv 0) (pa_cons (pe_callN ih hr rfl (pa_cons (pv 0) (pa_cons (pe_slice sl_list (pv 1) po_none (po_some (pv 2))) pa_nil)))
        (pa_cons (pe_callN ih hr rfl (pa_cons (pv 0) (pa_cons (pe_slice sl_list (pv 1) (po_some (pv 2)) po_none) pa_nil))) pa_nil)))))))), ?_⟩
    refine ⟨_, rfl, a, _, rfl, .inl hq, rfl, _, rfl, ?_⟩
    refine ite2 (fun c => ?_) (fun c => ?_)
    · have c' : V.int (ws.length : Int) = V.int 0 := of_decide_eq_true c
      have e : ts = [] := List.eq_nil_of_length_eq_zero (by injection c' with c'; omega)
      subst e
      refine ⟨_, rfl, S, f, rfl, hS, hc, fun v H' g h => q v H' g ?_⟩
      show isT S H' (Gb.topT nlT prT []) v
      rw [Gb.topT_nil]; exact h
    have c0 : ¬ V.int (ws.length : Int) = V.int 0 := of_decide_eq_false (Bool.eq_false_iff.mpr c)
    refine ⟨_, rfl, a, _, rfl, .inl hq, rfl, _, rfl, ?_⟩
    refine ite2 (fun c => ?_) (fun c => ?_)
    · have c' : V.int (ws.length : Int) = V.int 1 := of_decide_eq_true c
      have e : ts.length = 1 := by injection c' with c'; omega
      obtain ⟨t, rfl⟩ := List.length_eq_one_iff.mp e
      obtain ⟨v0, rfl⟩ : ∃ v0, ws = [v0] := List.length_eq_one_iff.mp (by rw [← hl]; rfl)
      cases ht with
      | cons ht1 ht2 =>
        refine ⟨_, rfl, a, _, _, v0, rfl, rfl, hq, atI_nat (j := 0) rfl, ?_⟩
        refine q v0 H ((Gr.refl hS.told).up (by omega)) ?_
        show isT S H (Gb.topT nlT prT [t]) v0
        rw [Gb.topT_one]; exact ht1
    have cc1 : ¬ V.int (ws.length : Int) = V.int 1 := of_decide_eq_false (Bool.eq_false_iff.mpr c)
    have h2 : 2 ≤ ts.length := by
      have a0 : ts.length ≠ 0 := fun z => c0 (by rw [← hl, z]; rfl)
      have a1 : ts.length ≠ 1 := fun z => cc1 (by rw [← hl, z]; rfl)
      omega
    have x1 := Gb.spl_lt h2
    have x2 := Gb.spl_pos ts.length
    have x3 := Gb.spl_ge h2
    have xj : Gb.spl ts.length ≤ 2 ^ j := by
      unfold Gb.spl
      refine Nat.pow_le_pow_right (by omega) ?_
      have : 2 ^ Nat.log2 (ts.length - 1) < 2 ^ (j + 1) := Nat.lt_of_lt_of_le (Gb.spl_lt h2) hj
      have := (Nat.pow_lt_pow_iff_right (by omega : 1 < 2)).mp this
      omega
    have l1 : (ts.take (Gb.spl ts.length)).length = Gb.spl ts.length := by rw [List.length_take]; omega
    have l2 : (ts.drop (Gb.spl ts.length)).length = ts.length - Gb.spl ts.length := List.length_drop
    have c1 := cst_at l1 x2
    have c2 := cst_at l2 (by omega)
    have c3 := cst_at (ts := ts) rfl (by omega)
    have big : ts.length < 2 ^ 60 := Nat.lt_of_le_of_lt hj (Nat.pow_lt_pow_right (by omega) (by omega))
    refine ⟨_, rfl, a, _, rfl, .inl hq, _, rfl, by omega, by omega, ?_⟩
    have ek : (ws.length : Int).toNat = ts.length := by omega
    rw [ek]
    refine ⟨_, rfl, ?_⟩
    -- the first part
    refine ⟨_, rfl, _, rfl, _, rfl, _, rfl, a, ws, rfl, hq, fun p1 hp1 => ?_⟩
    have g1 : Gr S 0 H (upd H p1 (.lst (cutV ws none (some (Gb.spl ts.length : Nat))))) := .new hS.told hp1
    refine ⟨S, f, p1, ws.take (Gb.spl ts.length), ts.take (Gb.spl ts.length), rfl, hS.up g1.gn, SqL.of (by rw [upd_same, cut_take]), isTs_up g1.gn (pr_take _ ht), by simp; omega, hc.go g1.gn (by omega), fun v1 H1 g2 i1 => ?_⟩
    have g12 := g1.trans g2
    have hq1 := g12.sq hq
    -- the rest
    refine ⟨_, rfl, _, rfl, _, rfl, _, rfl, a, ws, rfl, hq1, fun p2 hp2 => ?_⟩
    have g3 : Gr S 0 H1 (upd H1 p2 (.lst (cutV ws (some (Gb.spl ts.length : Nat)) none))) := .new g12.gn.told2 hp2
    have g13 := g12.trans g3
    refine ⟨S, f, p2, ws.drop (Gb.spl ts.length), ts.drop (Gb.spl ts.length), rfl, hS.up g13.gn, SqL.of (by rw [upd_same, cut_drop]), isTs_up g13.gn (pr_drop _ ht), by simp; omega, hc.go g13.gn (by omega), fun v2 H2 g4 i2 => ?_⟩
    have g14 := g13.trans g4
    have g24 := g3.trans g4
    refine ⟨S, f, tpT (ts.take (Gb.spl ts.length)), tpT (ts.drop (Gb.spl ts.length)), _, _, rfl, hS.up g14.gn, hc.go g14.gn (by omega), isT_up g24.gn i1, i2, fun v H' g5 i3 => ?_⟩
    refine q v H' ((g14.trans g5).up (by omega)) ?_
    show isT S H' (Gb.topT nlT prT ts) v
    rw [Gb.topT_more nlT prT h2]; exact i3
end
section
variable {P : Program} {w : World} {K : PySem.W.Frag} {mg : Str → Option Value} {base : Heap}
def spPath (K : PySem.W.Frag) (mg : Str → Option Value) (j : Nat) : Sp := fun vs H Q _ => ∃ S f a ws ts, ∃ place : Nat, vs = [.ref f, .ref a, .int place] ∧ SealAt K mg sNumd S H f ∧ SqL K H a ws ∧ isTs S H ts ws ∧ ts.length ≤ 2 ^ j ∧ place < ts.length ∧ Cap S H (ts.length + 1) ∧
  ∀ r rs H', Gr S (ts.length + 1) H H' → H r = none → H' r = some (.lst rs) → isTs S H' (paT ts place) rs → Q (.ref r) H'
theorem spl_pow {n j : Nat} (h2 : 2 ≤ n) (hj : n ≤ 2 ^ (j + 1)) : Gb.spl n ≤ 2 ^ j := by
  unfold Gb.spl
  refine Nat.pow_le_pow_right (by omega) ?_
  have : 2 ^ Nat.log2 (n - 1) < 2 ^ (j + 1) := Nat.lt_of_lt_of_le (Gb.spl_lt h2) hj
  have := (Nat.pow_lt_pow_iff_right (by omega : 1 < 2)).mp this
  omega
theorem grow_end {S : Sl} {H H1 H2 : Hp} {n1 n2 N : Nat} {gs : List Tm} {t : Tm} {r p l : Addr} {rs : List V} {v : V} (g1 : Gr S n1 H H1) (hr : H r = none) (er : H1 r = some (.lst rs)) (ir : isTs S H1 gs rs) (g2 : Gr S n2 H1 H2) (it : isT S H2 t v) (hp : H2 p = none) (hl : upd H2 p (.lst [v]) l = none) (hN : n1 + n2 ≤ N) :
    Gr S N H (upd (upd H2 p (.lst [v])) l (.lst (rs ++ [v]))) ∧ H l = none ∧ upd (upd H2 p (.lst [v])) l (.lst (rs ++ [v])) l = some (.lst (rs ++ [v])) ∧ isTs S (upd (upd H2 p (.lst [v])) l (.lst (rs ++ [v]))) (gs ++ [t]) (rs ++ [v]) := by
  have g3 : Gr S 0 H2 (upd H2 p (.lst [v])) := .new g2.gn.told2 hp
  have g4 : Gr S 0 (upd H2 p (.lst [v])) (upd (upd H2 p (.lst [v])) l (.lst (rs ++ [v]))) := .new g3.gn.told2 hl
  have g := ((g1.trans g2).trans g3).trans g4
  refine ⟨g.up (by omega), (((g1.trans g2).trans g3)).free hl, upd_same, pr_app (isTs_up ((g2.trans g3).trans g4).gn ir) (.cons (isT_up (g3.trans g4).gn it) .nil)⟩
theorem pa_len {ts : List Tm} {place j : Nat} (h : ts.length ≤ 2 ^ j) (hj : j ≤ 40) (hp : place < ts.length) : (paT ts place).length + 1 ≤ sizeLine := by
  have a := (Gb.path_turns nlT prT _ ts place rfl hp).1
  have b := Gb.turns_len j ts.length place h
  rw [sizeLine_eq]
  have e : (paT ts place).length = (Gb.pathT nlT prT ts place).length := rfl
  omega
end
section
variable {P : Program} {w : World} {K : PySem.W.Frag} {mg : Str → Option Value} {base : Heap}
theorem scpath : FnScope ["seal", "leaves", "place", "first"] ["seal", "leaves", "place"] (defScope sPath) := ⟨rfl, rfl, rfl, by decide +kernel, rfl, by decide +kernel, by decide +kernel⟩
theorem ok_path (F : FunAt K mg "path_of" sPath) (Fs : FnP P w K mg base 1 "split" ["size"] spSplit) (Ft : ∀ j, j ≤ 40 → FnP P w K mg base (j + 3) "top_of" ["seal", "leaves"] (spTop K mg j)) (ml : mg "len" = none) :
    ∀ j : Nat, j ≤ 40 → FnP P w K mg base (j + 4) "path_of" ["seal", "leaves", "place"] (spPath K mg j) := by
  intro j
  induction j with
  | zero =>
    intro _
    refine F.ok scpath (fun _ _ _ _ _ _ us hl => match us, hl with | [_, _, _], _ => rfl) (fun vs H Q E h => ?_) (fun f cdv A outer s H vs Q E hr h => ?_)
    · obtain ⟨S, f, a, ws, ts, old, rfl, _⟩ := h; rfl
    obtain ⟨S, f, a, ws, ts, old, rfl, hS, hq, ht, hj, ho, hc, q⟩ := h
    have hl := pr_len ht
    refine ⟨_, pss_cons (ps_if (pt_cmpR op_lt (pe_callB call_len_seq rfl ml PySem.boot_len (pa_cons (pv 1) pa_nil)) pe_int (nomark _)) (pss_one (ps_ret (pe_lst pa_nil))) pss_nil) pss_never, ?_⟩
    have e1 : ts.length = 1 := by simp at hj; omega
    refine ⟨_, rfl, a, _, rfl, .inl hq, _, _, rfl, rfl, _, rfl, ?_⟩
    rw [decide_eq_true (show (ws.length : Int) < 2 by omega)]
    refine iteT ?_
    refine ⟨by show 0 ≤ sizeLine; decide, fun p hp => ?_⟩
    refine q p [] _ ((Gr.new hS.told hp).up (by omega)) hp upd_same ?_
    show isTs S _ (Gb.pathT nlT prT ts old) []
    rw [Gb.pathT_few nlT prT (by omega)]; exact .nil
  | succ j ih =>
    intro hjj
    have ih := ih (by omega)
    have Fj := Ft j (by omega)
    refine F.ok scpath (fun _ _ _ _ _ _ us hl => match us, hl with | [_, _, _], _ => rfl) (fun vs H Q E h => ?_) (fun f cdv A outer s H vs Q E hr h => ?_)
    · obtain ⟨S, f, a, ws, ts, old, rfl, _⟩ := h; rfl
    obtain ⟨S, f, a, ws, ts, old, rfl, hS, hq, ht, hj, ho, hc, q⟩ := h
    have hl := pr_len ht
    have nd := scpath.nd
    refine ⟨_, pss_cons (ps_if (pt_cmpR op_lt (pe_callB call_len_seq rfl ml PySem.boot_len (pa_cons (pv 1) pa_nil)) pe_int (nomark _)) (pss_one (ps_ret (pe_lst pa_nil))) pss_nil)
      (pss_cons (ps_set (i := 3) nd rfl (Or.inl rfl) (pe_callN Fs (hr.mono (by omega)) rfl (pa_cons (pe_callB call_len_seq rfl ml PySem.boot_len (pa_cons (pv 1) pa_nil)) pa_nil)))
      (pss_cons (ps_if (pt_cmpR op_lt (pv 2) (pv 3) (nomark _)) (pss_one (ps_ret (pe_op op_cat (pe_callN ih hr rfl (pa_cons (pv 0) (pa_cons (pe_slice sl_list (pv 1) po_none (po_some (pv 3))) (pa_cons (pv 2) pa_nil))))
          (pe_lst (pa_cons (pe_callN Fj (hr.mono (by omega)) rfl (pa_cons (pv 0) (pa_cons (pe_slice sl_list (pv 1) (po_some (pv 3)) po_none) pa_nil))) pa_nil))))) pss_nil)
      (pss_one (ps_ret (pe_op op_cat (pe_callN ih hr rfl (pa_cons (pv 0) (pa_cons (pe_slice sl_list (pv 1) (po_some (pv 3)) po_none) (pa_cons (pe_op op_sub (pv 2) (pv 3)) pa_nil))))
          (pe_lst (pa_cons (pe_callN Fj (hr.mono (by omega)) rfl (pa_cons (pv 0) (pa_cons (pe_slice sl_list (pv 1) po_none (po_some (pv 3))) pa_nil))) pa_nil))))))), ?_⟩
    refine ⟨_, rfl, a, _, rfl, .inl hq, _, _, rfl, rfl, _, rfl, ?_⟩
    refine ite2 (fun c => ?_) (fun c => ?_)
    · have c1 : (ws.length : Int) < 2 := of_decide_eq_true c
      refine ⟨by show 0 ≤ sizeLine; decide, fun p hp => ?_⟩
      refine q p [] _ ((Gr.new hS.told hp).up (by omega)) hp upd_same ?_
      show isTs S _ (Gb.pathT nlT prT ts old) []
      rw [Gb.pathT_few nlT prT (by omega)]; exact .nil
    have c1 : ¬ (ws.length : Int) < 2 := of_decide_eq_false (Bool.eq_false_iff.mpr c)
    have h2 : 2 ≤ ts.length := by omega
    have x1 := Gb.spl_lt h2
    have x2 := Gb.spl_pos ts.length
    have x3 := Gb.spl_ge h2
    have xj := spl_pow h2 hj
    have l1 : (ts.take (Gb.spl ts.length)).length = Gb.spl ts.length := by rw [List.length_take]; omega
    have l2 : (ts.drop (Gb.spl ts.length)).length = ts.length - Gb.spl ts.length := List.length_drop
    have k1 := cst_at l1 x2
    have k2 := cst_at l2 (by omega)
    have big : ts.length < 2 ^ 60 := Nat.lt_of_le_of_lt hj (Nat.pow_lt_pow_right (by omega) (by omega))
    refine ⟨_, rfl, a, _, rfl, .inl hq, _, rfl, by omega, by omega, ?_⟩
    have ek : (ws.length : Int).toNat = ts.length := by omega
    rw [ek]
    refine ⟨_, rfl, _, rfl, _, _, rfl, rfl, _, rfl, ?_⟩
    refine ite2 (fun c => ?_) (fun c => ?_)
    · have c2 : (old : Int) < (Gb.spl ts.length : Nat) := of_decide_eq_true c
      refine ⟨_, rfl, _, rfl, _, rfl, _, rfl, a, ws, rfl, hq, fun p1 hp1 => ⟨_, rfl, ?_⟩⟩
      have g1 : Gr S 0 H (upd H p1 (.lst (cutV ws none (some (Gb.spl ts.length : Nat))))) := .new hS.told hp1
      refine ⟨S, f, p1, ws.take (Gb.spl ts.length), ts.take (Gb.spl ts.length), old, rfl, hS.up g1.gn, SqL.of (by rw [upd_same, cut_take]), isTs_up g1.gn (pr_take _ ht), by simp; omega, by simp; omega, hc.go g1.gn (by omega), fun r rs H1 g2 nr er ir => ?_⟩
      have g12 := g1.trans g2
      have hq1 := g12.sq hq
      refine ⟨_, rfl, _, rfl, _, rfl, _, rfl, a, ws, rfl, hq1, fun p2 hp2 => ?_⟩
      have g3 : Gr S 0 H1 (upd H1 p2 (.lst (cutV ws (some (Gb.spl ts.length : Nat)) none))) := .new g12.gn.told2 hp2
      have g13 := g12.trans g3
      refine ⟨S, f, p2, ws.drop (Gb.spl ts.length), ts.drop (Gb.spl ts.length), rfl, hS.up g13.gn, SqL.of (by rw [upd_same, cut_drop]), isTs_up g13.gn (pr_drop _ ht), by simp; omega, hc.go g13.gn (by omega), fun v2 H2 g4 i2 => ?_⟩
      refine ⟨by show 1 ≤ sizeLine; decide, fun p3 hp3 => ?_⟩
      have g34 := g3.trans g4
      have g5 : Gr S 0 H2 (upd H2 p3 (.lst [v2])) := .new g34.gn.told2 hp3
      refine ⟨r, p3, rs, [v2], rfl, rfl, (g34.trans g5).lst er, upd_same, ?_, fun l hl' => ?_⟩
      · have z := pa_len (place := old) (ts := ts.take (Gb.spl ts.length)) (j := j) (by simp; omega) (by omega) (by simp; omega)
        have z2 := pr_len ir
        simp only [List.length_singleton]; omega
      · obtain ⟨e1, e2, e3, e4⟩ := grow_end (N := ts.length + 1) g12 (g1.free nr) er ir g34 i2 hp3 hl' (by omega)
        refine q l _ _ e1 e2 e3 ?_
        show isTs S _ (Gb.pathT nlT prT ts old) _
        rw [Gb.pathT_low nlT prT h2 (by omega)]
        exact e4
    · have c2 : ¬ (old : Int) < (Gb.spl ts.length : Nat) := of_decide_eq_false (Bool.eq_false_iff.mpr c)
      refine ⟨_, rfl, _, rfl, _, rfl, _, rfl, a, ws, rfl, hq, fun p1 hp1 => ⟨_, rfl, _, rfl, _, _, rfl, rfl, ?_⟩⟩
      have g1 : Gr S 0 H (upd H p1 (.lst (cutV ws (some (Gb.spl ts.length : Nat)) none))) := .new hS.told hp1
      refine ⟨S, f, p1, ws.drop (Gb.spl ts.length), ts.drop (Gb.spl ts.length), old - Gb.spl ts.length, ?_, hS.up g1.gn, SqL.of (by rw [upd_same, cut_drop]), isTs_up g1.gn (pr_drop _ ht), by simp; omega, by simp; omega, hc.go g1.gn (by omega), fun r rs H1 g2 nr er ir => ?_⟩
      · show [V.ref f, V.ref p1, V.int ((old : Int) - ((Gb.spl ts.length : Nat) : Int))] = _
        rw [show (old : Int) - ((Gb.spl ts.length : Nat) : Int) = ((old - Gb.spl ts.length : Nat) : Int) by omega]
      have g12 := g1.trans g2
      have hq1 := g12.sq hq
      refine ⟨_, rfl, _, rfl, _, rfl, _, rfl, a, ws, rfl, hq1, fun p2 hp2 => ?_⟩
      have g3 : Gr S 0 H1 (upd H1 p2 (.lst (cutV ws none (some (Gb.spl ts.length : Nat))))) := .new g12.gn.told2 hp2
      have g13 := g12.trans g3
      refine ⟨S, f, p2, ws.take (Gb.spl ts.length), ts.take (Gb.spl ts.length), rfl, hS.up g13.gn, SqL.of (by rw [upd_same, cut_take]), isTs_up g13.gn (pr_take _ ht), by simp; omega, hc.go g13.gn (by omega), fun v2 H2 g4 i2 => ?_⟩
      refine ⟨by show 1 ≤ sizeLine; decide, fun p3 hp3 => ?_⟩
      have g34 := g3.trans g4
      have g5 : Gr S 0 H2 (upd H2 p3 (.lst [v2])) := .new g34.gn.told2 hp3
      refine ⟨r, p3, rs, [v2], rfl, rfl, (g34.trans g5).lst er, upd_same, ?_, fun l hl' => ?_⟩
      · have z := pa_len (place := old - Gb.spl ts.length) (ts := ts.drop (Gb.spl ts.length)) (j := j) (by simp; omega) (by omega) (by simp; omega)
        have z2 := pr_len ir
        simp only [List.length_singleton]; omega
      · obtain ⟨e1, e2, e3, e4⟩ := grow_end (N := ts.length + 1) g12 (g1.free nr) er ir g34 i2 hp3 hl' (by omega)
        refine q l _ _ e1 e2 e3 ?_
        show isTs S _ (Gb.pathT nlT prT ts old) _
        rw [Gb.pathT_high nlT prT h2 (by omega)]
        exact e4
end
section
variable {P : Program} {w : World} {K : PySem.W.Frag} {mg : Str → Option Value} {base : Heap}
theorem sclpath : FnScope ["_law_seal", "_law_leaves_here", "_law_place", "_law_k"] ["_law_seal", "_law_leaves_here", "_law_place"] (defScope sLpath) := ⟨rfl, rfl, rfl, by decide +kernel, rfl, by decide +kernel, by decide +kernel⟩
theorem ok_lpath (F : FunAt K mg "_law_path" sLpath) (Fs : FnP P w K mg base 1 "_law_split" ["_law_size"] spSplit) (Ft : ∀ j, j ≤ 40 → FnP P w K mg base (j + 2) "_law_top" ["_law_seal", "_law_leaves_here"] (spTop K mg j)) (ml : mg "len" = none) :
    ∀ j : Nat, j ≤ 40 → FnP P w K mg base (j + 3) "_law_path" ["_law_seal", "_law_leaves_here", "_law_place"] (spPath K mg j) := by
  intro j
  induction j with
  | zero =>
    intro _
    refine F.ok sclpath (fun _ _ _ _ _ _ us hl => match us, hl with | [_, _, _], _ => rfl) (fun vs H Q E h => ?_) (fun f cdv A outer s H vs Q E hr h => ?_)
    · obtain ⟨S, f, a, ws, ts, old, rfl, _⟩ := h; rfl
    obtain ⟨S, f, a, ws, ts, old, rfl, hS, hq, ht, hj, ho, hc, q⟩ := h
    have hl := pr_len ht
    refine ⟨_, pss_cons (ps_if (pt_cmpR op_eq (pe_callB call_len_seq rfl ml PySem.boot_len (pa_cons (pv 1) pa_nil)) pe_int (nomark _)) (pss_one (ps_ret (pe_lst pa_nil))) pss_nil) pss_never, ?_⟩
    have e1 : ts.length = 1 := by simp at hj; omega
    refine ⟨_, rfl, a, _, rfl, .inl hq, rfl, _, rfl, ?_⟩
    rw [decide_eq_true (show V.int (ws.length : Int) = V.int 1 from congrArg V.int (by omega))]
    refine iteT ?_
    refine ⟨by show 0 ≤ sizeLine; decide, fun p hp => ?_⟩
    refine q p [] _ ((Gr.new hS.told hp).up (by omega)) hp upd_same ?_
    show isTs S _ (Gb.pathT nlT prT ts old) []
    rw [Gb.pathT_few nlT prT (by omega)]; exact .nil
  | succ j ih =>
    intro hjj
    have ih := ih (by omega)
    have Fj := Ft j (by omega)
    refine F.ok sclpath (fun _ _ _ _ _ _ us hl => match us, hl with | [_, _, _], _ => rfl) (fun vs H Q E h => ?_) (fun f cdv A outer s H vs Q E hr h => ?_)
    · obtain ⟨S, f, a, ws, ts, old, rfl, _⟩ := h; rfl
    obtain ⟨S, f, a, ws, ts, old, rfl, hS, hq, ht, hj, ho, hc, q⟩ := h
    have hl := pr_len ht
    have nd := sclpath.nd
    refine ⟨_, pss_cons (ps_if (pt_cmpR op_eq (pe_callB call_len_seq rfl ml PySem.boot_len (pa_cons (pv 1) pa_nil)) pe_int (nomark _)) (pss_one (ps_ret (pe_lst pa_nil))) pss_nil)
      (pss_cons (ps_set (i := 3) nd rfl (Or.inl rfl) (pe_callN Fs (hr.mono (by omega)) rfl (pa_cons (pe_callB call_len_seq rfl ml PySem.boot_len (pa_cons (pv 1) pa_nil)) pa_nil)))
      (pss_cons (ps_if (pt_cmpR op_lt (pv 2) (pv 3) (nomark _)) (pss_one (ps_ret (pe_op op_cat (pe_callN ih hr rfl (pa_cons (pv 0) (pa_cons (pe_slice sl_list (pv 1) po_none (po_some (pv 3))) (pa_cons (pv 2) pa_nil))))
          (pe_lst (pa_cons (pe_callN Fj (hr.mono (by omega)) rfl (pa_cons (pv 0) (pa_cons (pe_slice sl_list (pv 1) (po_some (pv 3)) po_none) pa_nil))) pa_nil))))) pss_nil)
      (pss_one (ps_ret (pe_op op_cat (pe_callN ih hr rfl (pa_cons (pv 0) (pa_cons (pe_slice sl_list (pv 1) (po_some (pv 3)) po_none) (pa_cons (pe_op op_sub (pv 2) (pv 3)) pa_nil))))
          (pe_lst (pa_cons (pe_callN Fj (hr.mono (by omega)) rfl (pa_cons (pv 0) (pa_cons (pe_slice sl_list (pv 1) po_none (po_some (pv 3))) pa_nil))) pa_nil))))))), ?_⟩
    refine ⟨_, rfl, a, _, rfl, .inl hq, rfl, _, rfl, ?_⟩
    refine ite2 (fun c => ?_) (fun c => ?_)
    · have c0 : V.int (ws.length : Int) = V.int 1 := of_decide_eq_true c
      have c1 : (ws.length : Int) < 2 := by injection c0 with c0; omega
      refine ⟨by show 0 ≤ sizeLine; decide, fun p hp => ?_⟩
      refine q p [] _ ((Gr.new hS.told hp).up (by omega)) hp upd_same ?_
      show isTs S _ (Gb.pathT nlT prT ts old) []
      rw [Gb.pathT_few nlT prT (by omega)]; exact .nil
    have c0 : ¬ V.int (ws.length : Int) = V.int 1 := of_decide_eq_false (Bool.eq_false_iff.mpr c)
    have h2 : 2 ≤ ts.length := by
      have : (ws.length : Int) ≠ 1 := fun z => c0 (by rw [z])
      omega
    have x1 := Gb.spl_lt h2
    have x2 := Gb.spl_pos ts.length
    have x3 := Gb.spl_ge h2
    have xj := spl_pow h2 hj
    have l1 : (ts.take (Gb.spl ts.length)).length = Gb.spl ts.length := by rw [List.length_take]; omega
    have l2 : (ts.drop (Gb.spl ts.length)).length = ts.length - Gb.spl ts.length := List.length_drop
    have k1 := cst_at l1 x2
    have k2 := cst_at l2 (by omega)
    have big : ts.length < 2 ^ 60 := Nat.lt_of_le_of_lt hj (Nat.pow_lt_pow_right (by omega) (by omega))
    refine ⟨_, rfl, a, _, rfl, .inl hq, _, rfl, by omega, by omega, ?_⟩
    have ek : (ws.length : Int).toNat = ts.length := by omega
    rw [ek]
    refine ⟨_, rfl, _, rfl, _, _, rfl, rfl, _, rfl, ?_⟩
    refine ite2 (fun c => ?_) (fun c => ?_)
    · have c2 : (old : Int) < (Gb.spl ts.length : Nat) := of_decide_eq_true c
      refine ⟨_, rfl, _, rfl, _, rfl, _, rfl, a, ws, rfl, hq, fun p1 hp1 => ⟨_, rfl, ?_⟩⟩
      have g1 : Gr S 0 H (upd H p1 (.lst (cutV ws none (some (Gb.spl ts.length : Nat))))) := .new hS.told hp1
      refine ⟨S, f, p1, ws.take (Gb.spl ts.length), ts.take (Gb.spl ts.length), old, rfl, hS.up g1.gn, SqL.of (by rw [upd_same, cut_take]), isTs_up g1.gn (pr_take _ ht), by simp; omega, by simp; omega, hc.go g1.gn (by omega), fun r rs H1 g2 nr er ir => ?_⟩
      have g12 := g1.trans g2
      have hq1 := g12.sq hq
      refine ⟨_, rfl, _, rfl, _, rfl, _, rfl, a, ws, rfl, hq1, fun p2 hp2 => ?_⟩
      have g3 : Gr S 0 H1 (upd H1 p2 (.lst (cutV ws (some (Gb.spl ts.length : Nat)) none))) := .new g12.gn.told2 hp2
      have g13 := g12.trans g3
      refine ⟨S, f, p2, ws.drop (Gb.spl ts.length), ts.drop (Gb.spl ts.length), rfl, hS.up g13.gn, SqL.of (by rw [upd_same, cut_drop]), isTs_up g13.gn (pr_drop _ ht), by simp; omega, hc.go g13.gn (by omega), fun v2 H2 g4 i2 => ?_⟩
      refine ⟨by show 1 ≤ sizeLine; decide, fun p3 hp3 => ?_⟩
      have g34 := g3.trans g4
      have g5 : Gr S 0 H2 (upd H2 p3 (.lst [v2])) := .new g34.gn.told2 hp3
      refine ⟨r, p3, rs, [v2], rfl, rfl, (g34.trans g5).lst er, upd_same, ?_, fun l hl' => ?_⟩
      · have z := pa_len (place := old) (ts := ts.take (Gb.spl ts.length)) (j := j) (by simp; omega) (by omega) (by simp; omega)
        have z2 := pr_len ir
        simp only [List.length_singleton]; omega
      · obtain ⟨e1, e2, e3, e4⟩ := grow_end (N := ts.length + 1) g12 (g1.free nr) er ir g34 i2 hp3 hl' (by omega)
        refine q l _ _ e1 e2 e3 ?_
        show isTs S _ (Gb.pathT nlT prT ts old) _
        rw [Gb.pathT_low nlT prT h2 (by omega)]
        exact e4
    · have c2 : ¬ (old : Int) < (Gb.spl ts.length : Nat) := of_decide_eq_false (Bool.eq_false_iff.mpr c)
      refine ⟨_, rfl, _, rfl, _, rfl, _, rfl, a, ws, rfl, hq, fun p1 hp1 => ⟨_, rfl, _, rfl, _, _, rfl, rfl, ?_⟩⟩
      have g1 : Gr S 0 H (upd H p1 (.lst (cutV ws (some (Gb.spl ts.length : Nat)) none))) := .new hS.told hp1
      refine ⟨S, f, p1, ws.drop (Gb.spl ts.length), ts.drop (Gb.spl ts.length), old - Gb.spl ts.length, ?_, hS.up g1.gn, SqL.of (by rw [upd_same, cut_drop]), isTs_up g1.gn (pr_drop _ ht), by simp; omega, by simp; omega, hc.go g1.gn (by omega), fun r rs H1 g2 nr er ir => ?_⟩
      · show [V.ref f, V.ref p1, V.int ((old : Int) - ((Gb.spl ts.length : Nat) : Int))] = _
        rw [show (old : Int) - ((Gb.spl ts.length : Nat) : Int) = ((old - Gb.spl ts.length : Nat) : Int) by omega]
      have g12 := g1.trans g2
      have hq1 := g12.sq hq
      refine ⟨_, rfl, _, rfl, _, rfl, _, rfl, a, ws, rfl, hq1, fun p2 hp2 => ?_⟩
      have g3 : Gr S 0 H1 (upd H1 p2 (.lst (cutV ws none (some (Gb.spl ts.length : Nat))))) := .new g12.gn.told2 hp2
      have g13 := g12.trans g3
      refine ⟨S, f, p2, ws.take (Gb.spl ts.length), ts.take (Gb.spl ts.length), rfl, hS.up g13.gn, SqL.of (by rw [upd_same, cut_take]), isTs_up g13.gn (pr_take _ ht), by simp; omega, hc.go g13.gn (by omega), fun v2 H2 g4 i2 => ?_⟩
      refine ⟨by show 1 ≤ sizeLine; decide, fun p3 hp3 => ?_⟩
      have g34 := g3.trans g4
      have g5 : Gr S 0 H2 (upd H2 p3 (.lst [v2])) := .new g34.gn.told2 hp3
      refine ⟨r, p3, rs, [v2], rfl, rfl, (g34.trans g5).lst er, upd_same, ?_, fun l hl' => ?_⟩
      · have z := pa_len (place := old - Gb.spl ts.length) (ts := ts.drop (Gb.spl ts.length)) (j := j) (by simp; omega) (by omega) (by simp; omega)
        have z2 := pr_len ir
        simp only [List.length_singleton]; omega
      · obtain ⟨e1, e2, e3, e4⟩ := grow_end (N := ts.length + 1) g12 (g1.free nr) er ir g34 i2 hp3 hl' (by omega)
        refine q l _ _ e1 e2 e3 ?_
        show isTs S _ (Gb.pathT nlT prT ts old) _
        rw [Gb.pathT_high nlT prT h2 (by omega)]
        exact e4
end
section
variable {P : Program} {w : World} {K : PySem.W.Frag} {mg : Str → Option Value} {base : Heap}
def spGrow (K : PySem.W.Frag) (mg : Str → Option Value) (j : Nat) : Sp := fun vs H Q _ => ∃ S f a ws ts, ∃ old : Nat, vs = [.ref f, .ref a, .int old] ∧ SealAt K mg sNumd S H f ∧ SqL K H a ws ∧ isTs S H ts ws ∧ ts.length ≤ 2 ^ j ∧ old ≤ ts.length ∧ Cap S H (ts.length + 1) ∧
  ∀ r rs H', Gr S (ts.length + 1) H H' → H r = none → H' r = some (.lst rs) → isTs S H' (gwT ts old) rs → Q (.ref r) H'
theorem scGr : FnScope ["seal", "leaves", "old", "first"] ["seal", "leaves", "old"] (defScope sGrow) := ⟨rfl, rfl, rfl, by decide +kernel, rfl, by decide +kernel, by decide +kernel⟩
theorem gw_len {ts : List Tm} {old : Nat} {j : Nat} (h : ts.length ≤ 2 ^ j) (hj : j ≤ 40) : (gwT ts old).length + 1 ≤ sizeLine := by
  have := Gb.growT_len nlT prT j ts old h
  rw [sizeLine_eq]
  have e : (gwT ts old).length = (Gb.growT nlT prT ts old).length := rfl
  omega
theorem ok_grow (F : FunAt K mg "growth_of" sGrow) (Fs : FnP P w K mg base 1 "split" ["size"] spSplit) (Ft : ∀ j, j ≤ 40 → FnP P w K mg base (j + 3) "top_of" ["seal", "leaves"] (spTop K mg j)) (ml : mg "len" = none) :
    ∀ j : Nat, j ≤ 40 → FnP P w K mg base (j + 4) "growth_of" ["seal", "leaves", "old"] (spGrow K mg j) := by
  intro j
  induction j with
  | zero =>
    intro _
    refine F.ok scGr (fun _ _ _ _ _ _ us hl => match us, hl with | [_, _, _], _ => rfl) (fun vs H Q E h => ?_) (fun f cdv A outer s H vs Q E hr h => ?_)
    · obtain ⟨S, f, a, ws, ts, old, rfl, _⟩ := h; rfl
    obtain ⟨S, f, a, ws, ts, old, rfl, hS, hq, ht, hj, ho, hc, q⟩ := h
    have hl := pr_len ht
    refine ⟨_, pss_cons (ps_if (pt_cmpR op_lt (pv 2) pe_int (nomark _)) (pss_one (ps_ret (pe_lst pa_nil))) pss_nil)
      (pss_cons (ps_if (pt_cmpR op_ge (pv 2) (pe_callB call_len_seq rfl ml PySem.boot_len (pa_cons (pv 1) pa_nil)) (nomark _)) (pss_one (ps_ret (pe_lst (pa_cons (pe_callN (Ft 0 (by omega)) hr rfl (pa_cons (pv 0) (pa_cons (pv 1) pa_nil))) pa_nil)))) pss_nil) pss_never), ?_⟩
    refine ⟨_, rfl, _, _, rfl, rfl, _, rfl, ?_⟩
    refine ite2 (fun c => ?_) (fun c => ?_)
    · have c' : (old : Int) < 1 := of_decide_eq_true c
      have e : old = 0 := by omega
      subst e
      refine ⟨by show 0 ≤ sizeLine; decide, fun p hp => ?_⟩
      refine q p [] _ ((Gr.new hS.told hp).up (by omega)) hp upd_same ?_
      show isTs S _ (Gb.growT nlT prT ts 0) []
      rw [Gb.growT_zero]; exact .nil
    · have c' : ¬ (old : Int) < 1 := of_decide_eq_false (Bool.eq_false_iff.mpr c)
      refine ⟨_, rfl, _, rfl, a, _, rfl, .inl hq, _, _, rfl, rfl, _, rfl, ?_⟩
      have e2 : (ws.length : Int) ≤ (old : Int) := by simp at hj; omega
      rw [decide_eq_true e2]
      refine iteT ?_
      refine ⟨_, rfl, _, rfl, S, f, a, ws, ts, rfl, hS, hq, ht, hj, hc.dn (cst_le ts), fun v H1 g1 i1 => ⟨by show 1 ≤ sizeLine; decide, fun p hp => ?_⟩⟩
      have g2 : Gr S 0 H1 (upd H1 p (.lst [v])) := .new g1.gn.told2 hp
      refine q p [v] _ ((g1.trans g2).up (by have := cst_le ts; omega)) (g1.free hp) upd_same ?_
      show isTs S _ (Gb.growT nlT prT ts old) [v]
      rw [Gb.growT_all nlT prT (by omega) (by omega)]
      exact .cons (isT_up g2.gn i1) .nil
  | succ j ih =>
    intro hjj
    have ih := ih (by omega)
    have Fj := Ft j (by omega)
    have Fj1 := Ft (j + 1) hjj
    refine F.ok scGr (fun _ _ _ _ _ _ us hl => match us, hl with | [_, _, _], _ => rfl) (fun vs H Q E h => ?_) (fun f cdv A outer s H vs Q E hr h => ?_)
    · obtain ⟨S, f, a, ws, ts, old, rfl, _⟩ := h; rfl
    obtain ⟨S, f, a, ws, ts, old, rfl, hS, hq, ht, hj, ho, hc, q⟩ := h
    have hl := pr_len ht
    have nd := scGr.nd
    refine ⟨_, pss_cons (ps_if (pt_cmpR op_lt (pv 2) pe_int (nomark _)) (pss_one (ps_ret (pe_lst pa_nil))) pss_nil)
      (pss_cons (ps_if (pt_cmpR op_ge (pv 2) (pe_callB call_len_seq rfl ml PySem.boot_len (pa_cons (pv 1) pa_nil)) (nomark _)) (pss_one (ps_ret (pe_lst (pa_cons (pe_callN Fj1 hr rfl (pa_cons (pv 0) (pa_cons (pv 1) pa_nil))) pa_nil)))) pss_nil)
      (pss_cons (ps_set (i := 3) nd rfl (Or.inl rfl) (pe_callN Fs (hr.mono (by omega)) rfl (pa_cons (pe_callB call_len_seq rfl ml PySem.boot_len (pa_cons (pv 1) pa_nil)) pa_nil)))
      (pss_cons (ps_if (pt_cmpR op_le (pv 2) (pv 3) (nomark _)) (pss_one (ps_ret (pe_op op_cat (pe_callN ih hr rfl (pa_cons (pv 0) (pa_cons (pe_slice sl_list (pv 1) po_none (po_some (pv 3))) (pa_cons (pv 2) pa_nil))))
          (pe_lst (pa_cons (pe_callN Fj (hr.mono (by omega)) rfl (pa_cons (pv 0) (pa_cons (pe_slice sl_list (pv 1) (po_some (pv 3)) po_none) pa_nil))) pa_nil))))) pss_nil)
      (pss_one (ps_ret (pe_op op_cat (pe_callN ih hr rfl (pa_cons (pv 0) (pa_cons (pe_slice sl_list (pv 1) (po_some (pv 3)) po_none) (pa_cons (pe_op op_sub (pv 2) (pv 3)) pa_nil))))
          (pe_lst (pa_cons (pe_callN Fj (hr.mono (by omega)) rfl (pa_cons (pv 0) (pa_cons (pe_slice sl_list (pv 1) po_none (po_some (pv 3))) pa_nil))) pa_nil)))))))), ?_⟩
    refine ⟨_, rfl, _, _, rfl, rfl, _, rfl, ?_⟩
    refine ite2 (fun c => ?_) (fun c => ?_)
    · have c' : (old : Int) < 1 := of_decide_eq_true c
      have e : old = 0 := by omega
      subst e
      refine ⟨by show 0 ≤ sizeLine; decide, fun p hp => ?_⟩
      refine q p [] _ ((Gr.new hS.told hp).up (by omega)) hp upd_same ?_
      show isTs S _ (Gb.growT nlT prT ts 0) []
      rw [Gb.growT_zero]; exact .nil
    have c0 : ¬ (old : Int) < 1 := of_decide_eq_false (Bool.eq_false_iff.mpr c)
    refine ⟨_, rfl, _, rfl, a, _, rfl, .inl hq, _, _, rfl, rfl, _, rfl, ?_⟩
    refine ite2 (fun c => ?_) (fun c => ?_)
    · have c' : (ws.length : Int) ≤ (old : Int) := of_decide_eq_true c
      refine ⟨_, rfl, _, rfl, S, f, a, ws, ts, rfl, hS, hq, ht, hj, hc.dn (cst_le ts), fun v H1 g1 i1 => ⟨by show 1 ≤ sizeLine; decide, fun p hp => ?_⟩⟩
      have g2 : Gr S 0 H1 (upd H1 p (.lst [v])) := .new g1.gn.told2 hp
      refine q p [v] _ ((g1.trans g2).up (by have := cst_le ts; omega)) (g1.free hp) upd_same ?_
      show isTs S _ (Gb.growT nlT prT ts old) [v]
      rw [Gb.growT_all nlT prT (by omega) (by omega)]
      exact .cons (isT_up g2.gn i1) .nil
    have c1 : ¬ (ws.length : Int) ≤ (old : Int) := of_decide_eq_false (Bool.eq_false_iff.mpr c)
    have h2 : 2 ≤ ts.length := by omega
    have x1 := Gb.spl_lt h2
    have x2 := Gb.spl_pos ts.length
    have x3 := Gb.spl_ge h2
    have xj := spl_pow h2 hj
    have l1 : (ts.take (Gb.spl ts.length)).length = Gb.spl ts.length := by rw [List.length_take]; omega
    have l2 : (ts.drop (Gb.spl ts.length)).length = ts.length - Gb.spl ts.length := List.length_drop
    have k1 := cst_at l1 x2
    have k2 := cst_at l2 (by omega)
    have big : ts.length < 2 ^ 60 := Nat.lt_of_le_of_lt hj (Nat.pow_lt_pow_right (by omega) (by omega))
    refine ⟨_, rfl, a, _, rfl, .inl hq, _, rfl, by omega, by omega, ?_⟩
    have ek : (ws.length : Int).toNat = ts.length := by omega
    rw [ek]
    refine ⟨_, rfl, _, rfl, _, _, rfl, rfl, _, rfl, ?_⟩
    refine ite2 (fun c => ?_) (fun c => ?_)
    · have c2 : (old : Int) ≤ (Gb.spl ts.length : Nat) := of_decide_eq_true c
      refine ⟨_, rfl, _, rfl, _, rfl, _, rfl, a, ws, rfl, hq, fun p1 hp1 => ⟨_, rfl, ?_⟩⟩
      have g1 : Gr S 0 H (upd H p1 (.lst (cutV ws none (some (Gb.spl ts.length : Nat))))) := .new hS.told hp1
      refine ⟨S, f, p1, ws.take (Gb.spl ts.length), ts.take (Gb.spl ts.length), old, rfl, hS.up g1.gn, SqL.of (by rw [upd_same, cut_take]), isTs_up g1.gn (pr_take _ ht), by simp; omega, by simp; omega, hc.go g1.gn (by omega), fun r rs H1 g2 nr er ir => ?_⟩
      have g12 := g1.trans g2
      have hq1 := g12.sq hq
      refine ⟨_, rfl, _, rfl, _, rfl, _, rfl, a, ws, rfl, hq1, fun p2 hp2 => ?_⟩
      have g3 : Gr S 0 H1 (upd H1 p2 (.lst (cutV ws (some (Gb.spl ts.length : Nat)) none))) := .new g12.gn.told2 hp2
      have g13 := g12.trans g3
      refine ⟨S, f, p2, ws.drop (Gb.spl ts.length), ts.drop (Gb.spl ts.length), rfl, hS.up g13.gn, SqL.of (by rw [upd_same, cut_drop]), isTs_up g13.gn (pr_drop _ ht), by simp; omega, hc.go g13.gn (by omega), fun v2 H2 g4 i2 => ?_⟩
      refine ⟨by show 1 ≤ sizeLine; decide, fun p3 hp3 => ?_⟩
      have g34 := g3.trans g4
      have g5 : Gr S 0 H2 (upd H2 p3 (.lst [v2])) := .new g34.gn.told2 hp3
      refine ⟨r, p3, rs, [v2], rfl, rfl, (g34.trans g5).lst er, upd_same, ?_, fun l hl' => ?_⟩
      · have z := gw_len (old := old) (ts := ts.take (Gb.spl ts.length)) (j := j) (by simp; omega) (by omega)
        have z2 := pr_len ir
        simp only [List.length_singleton]; omega
      · obtain ⟨e1, e2, e3, e4⟩ := grow_end (N := ts.length + 1) g12 (g1.free nr) er ir g34 i2 hp3 hl' (by omega)
        refine q l _ _ e1 e2 e3 ?_
        show isTs S _ (Gb.growT nlT prT ts old) _
        rw [Gb.growT_low nlT prT (by omega) (by omega) (by omega)]
        exact e4
    · have c2 : ¬ (old : Int) ≤ (Gb.spl ts.length : Nat) := of_decide_eq_false (Bool.eq_false_iff.mpr c)
      refine ⟨_, rfl, _, rfl, _, rfl, _, rfl, a, ws, rfl, hq, fun p1 hp1 => ⟨_, rfl, _, rfl, _, _, rfl, rfl, ?_⟩⟩
      have g1 : Gr S 0 H (upd H p1 (.lst (cutV ws (some (Gb.spl ts.length : Nat)) none))) := .new hS.told hp1
      refine ⟨S, f, p1, ws.drop (Gb.spl ts.length), ts.drop (Gb.spl ts.length), old - Gb.spl ts.length, ?_, hS.up g1.gn, SqL.of (by rw [upd_same, cut_drop]), isTs_up g1.gn (pr_drop _ ht), by simp; omega, by simp; omega, hc.go g1.gn (by omega), fun r rs H1 g2 nr er ir => ?_⟩
      · show [V.ref f, V.ref p1, V.int ((old : Int) - ((Gb.spl ts.length : Nat) : Int))] = _
        rw [show (old : Int) - ((Gb.spl ts.length : Nat) : Int) = ((old - Gb.spl ts.length : Nat) : Int) by omega]
      have g12 := g1.trans g2
      have hq1 := g12.sq hq
      refine ⟨_, rfl, _, rfl, _, rfl, _, rfl, a, ws, rfl, hq1, fun p2 hp2 => ?_⟩
      have g3 : Gr S 0 H1 (upd H1 p2 (.lst (cutV ws none (some (Gb.spl ts.length : Nat))))) := .new g12.gn.told2 hp2
      have g13 := g12.trans g3
      refine ⟨S, f, p2, ws.take (Gb.spl ts.length), ts.take (Gb.spl ts.length), rfl, hS.up g13.gn, SqL.of (by rw [upd_same, cut_take]), isTs_up g13.gn (pr_take _ ht), by simp; omega, hc.go g13.gn (by omega), fun v2 H2 g4 i2 => ?_⟩
      refine ⟨by show 1 ≤ sizeLine; decide, fun p3 hp3 => ?_⟩
      have g34 := g3.trans g4
      have g5 : Gr S 0 H2 (upd H2 p3 (.lst [v2])) := .new g34.gn.told2 hp3
      refine ⟨r, p3, rs, [v2], rfl, rfl, (g34.trans g5).lst er, upd_same, ?_, fun l hl' => ?_⟩
      · have z := gw_len (old := old - Gb.spl ts.length) (ts := ts.drop (Gb.spl ts.length)) (j := j) (by simp; omega) (by omega)
        have z2 := pr_len ir
        simp only [List.length_singleton]; omega
      · obtain ⟨e1, e2, e3, e4⟩ := grow_end (N := ts.length + 1) g12 (g1.free nr) er ir g34 i2 hp3 hl' (by omega)
        refine q l _ _ e1 e2 e3 ?_
        show isTs S _ (Gb.growT nlT prT ts old) _
        rw [Gb.growT_high nlT prT (by omega) (by omega) (by omega)]
        exact e4
end
section
variable {P : Program} {w : World} {K : PySem.W.Frag} {mg : Str → Option Value} {base : Heap}
theorem scLg : FnScope ["_law_seal", "_law_leaves_here", "_law_old", "_law_k"] ["_law_seal", "_law_leaves_here", "_law_old"] (defScope sLgrow) := ⟨rfl, rfl, rfl, by decide +kernel, rfl, by decide +kernel, by decide +kernel⟩
theorem ok_lgrow (F : FunAt K mg "_law_growth" sLgrow) (Fs : FnP P w K mg base 1 "_law_split" ["_law_size"] spSplit) (Ft : ∀ j, j ≤ 40 → FnP P w K mg base (j + 2) "_law_top" ["_law_seal", "_law_leaves_here"] (spTop K mg j)) (ml : mg "len" = none) :
    ∀ j : Nat, j ≤ 40 → FnP P w K mg base (j + 3) "_law_growth" ["_law_seal", "_law_leaves_here", "_law_old"] (spGrow K mg j) := by
  intro j
  induction j with
  | zero =>
    intro _
    refine F.ok scLg (fun _ _ _ _ _ _ us hl => match us, hl with | [_, _, _], _ => rfl) (fun vs H Q E h => ?_) (fun f cdv A outer s H vs Q E hr h => ?_)
    · obtain ⟨S, f, a, ws, ts, old, rfl, _⟩ := h; rfl
    obtain ⟨S, f, a, ws, ts, old, rfl, hS, hq, ht, hj, ho, hc, q⟩ := h
    have hl := pr_len ht
    refine ⟨_, pss_cons (ps_if (pt_cmpR op_eq (pv 2) pe_int (nomark _)) (pss_one (ps_ret (pe_lst pa_nil))) pss_nil)
      (pss_cons (ps_if (pt_cmpR op_eq (pv 2) (pe_callB call_len_seq rfl ml PySem.boot_len (pa_cons (pv 1) pa_nil)) (nomark _)) (pss_one (ps_ret (pe_lst (pa_cons (pe_callN (Ft 0 (by omega)) hr rfl (pa_cons (pv 0) (pa_cons (pv 1) pa_nil))) pa_nil)))) pss_nil) pss_never), ?_⟩
    refine ⟨_, rfl, rfl, _, rfl, ?_⟩
    refine ite2 (fun c => ?_) (fun c => ?_)
    · have c' : V.int (old : Int) = V.int 0 := of_decide_eq_true c
      have e : old = 0 := by injection c' with c'; omega
      subst e
      refine ⟨by show 0 ≤ sizeLine; decide, fun p hp => ?_⟩
      refine q p [] _ ((Gr.new hS.told hp).up (by omega)) hp upd_same ?_
      show isTs S _ (Gb.growT nlT prT ts 0) []
      rw [Gb.growT_zero]; exact .nil
    · have c'' : ¬ V.int (old : Int) = V.int 0 := of_decide_eq_false (Bool.eq_false_iff.mpr c)
      have c' : ¬ (old : Int) < 1 := fun z => c'' (by rw [show (old : Int) = 0 by omega])
      refine ⟨_, rfl, _, rfl, a, _, rfl, .inl hq, rfl, _, rfl, ?_⟩
      have e2 : V.int (old : Int) = V.int (ws.length : Int) := congrArg V.int (by simp at hj; omega)
      rw [decide_eq_true e2]
      refine iteT ?_
      refine ⟨_, rfl, _, rfl, S, f, a, ws, ts, rfl, hS, hq, ht, hj, hc.dn (cst_le ts), fun v H1 g1 i1 => ⟨by show 1 ≤ sizeLine; decide, fun p hp => ?_⟩⟩
      have g2 : Gr S 0 H1 (upd H1 p (.lst [v])) := .new g1.gn.told2 hp
      refine q p [v] _ ((g1.trans g2).up (by have := cst_le ts; omega)) (g1.free hp) upd_same ?_
      show isTs S _ (Gb.growT nlT prT ts old) [v]
      rw [Gb.growT_all nlT prT (by omega) (by omega)]
      exact .cons (isT_up g2.gn i1) .nil
  | succ j ih =>
    intro hjj
    have ih := ih (by omega)
    have Fj := Ft j (by omega)
    have Fj1 := Ft (j + 1) hjj
    refine F.ok scLg (fun _ _ _ _ _ _ us hl => match us, hl with | [_, _, _], _ => rfl) (fun vs H Q E h => ?_) (fun f cdv A outer s H vs Q E hr h => ?_)
    · obtain ⟨S, f, a, ws, ts, old, rfl, _⟩ := h; rfl
    obtain ⟨S, f, a, ws, ts, old, rfl, hS, hq, ht, hj, ho, hc, q⟩ := h
    have hl := pr_len ht
    have nd := scLg.nd
    refine ⟨_, pss_cons (ps_if (pt_cmpR op_eq (pv 2) pe_int (nomark _)) (pss_one (ps_ret (pe_lst pa_nil))) pss_nil)
      (pss_cons (ps_if (pt_cmpR op_eq (pv 2) (pe_callB call_len_seq rfl ml PySem.boot_len (pa_cons (pv 1) pa_nil)) (nomark _)) (pss_one (ps_ret (pe_lst (pa_cons (pe_callN Fj1 hr rfl (pa_cons (pv 0) (pa_cons (pv 1) pa_nil))) pa_nil)))) pss_nil)
      (pss_cons (ps_set (i := 3) nd rfl (Or.inl rfl) (pe_callN Fs (hr.mono (by omega)) rfl (pa_cons (pe_callB call_len_seq rfl ml PySem.boot_len (pa_cons (pv 1) pa_nil)) pa_nil)))
      (pss_cons (ps_if (pt_cmpR op_le (pv 2) (pv 3) (nomark _)) (pss_one (ps_ret (pe_op op_cat (pe_callN ih hr rfl (pa_cons (pv 0) (pa_cons (pe_slice sl_list (pv 1) po_none (po_some (pv 3))) (pa_cons (pv 2) pa_nil))))
          (pe_lst (pa_cons (pe_callN Fj (hr.mono (by omega)) rfl (pa_cons (pv 0) (pa_cons (pe_slice sl_list (pv 1) (po_some (pv 3)) po_none) pa_nil))) pa_nil))))) pss_nil)
      (pss_one (ps_ret (pe_op op_cat (pe_callN ih hr rfl (pa_cons (pv 0) (pa_cons (pe_slice sl_list (pv 1) (po_some (pv 3)) po_none) (pa_cons (pe_op op_sub (pv 2) (pv 3)) pa_nil))))
          (pe_lst (pa_cons (pe_callN Fj (hr.mono (by omega)) rfl (pa_cons (pv 0) (pa_cons (pe_slice sl_list (pv 1) po_none (po_some (pv 3))) pa_nil))) pa_nil)))))))), ?_⟩
    refine ⟨_, rfl, rfl, _, rfl, ?_⟩
    refine ite2 (fun c => ?_) (fun c => ?_)
    · have c' : V.int (old : Int) = V.int 0 := of_decide_eq_true c
      have e : old = 0 := by injection c' with c'; omega
      subst e
      refine ⟨by show 0 ≤ sizeLine; decide, fun p hp => ?_⟩
      refine q p [] _ ((Gr.new hS.told hp).up (by omega)) hp upd_same ?_
      show isTs S _ (Gb.growT nlT prT ts 0) []
      rw [Gb.growT_zero]; exact .nil
    have c'' : ¬ V.int (old : Int) = V.int 0 := of_decide_eq_false (Bool.eq_false_iff.mpr c)
    have c0 : ¬ (old : Int) < 1 := fun z => c'' (by rw [show (old : Int) = 0 by omega])
    refine ⟨_, rfl, _, rfl, a, _, rfl, .inl hq, rfl, _, rfl, ?_⟩
    refine ite2 (fun c => ?_) (fun c => ?_)
    · have c'' : V.int (old : Int) = V.int (ws.length : Int) := of_decide_eq_true c
      have c' : (ws.length : Int) ≤ (old : Int) := by injection c'' with c''; omega
      refine ⟨_, rfl, _, rfl, S, f, a, ws, ts, rfl, hS, hq, ht, hj, hc.dn (cst_le ts), fun v H1 g1 i1 => ⟨by show 1 ≤ sizeLine; decide, fun p hp => ?_⟩⟩
      have g2 : Gr S 0 H1 (upd H1 p (.lst [v])) := .new g1.gn.told2 hp
      refine q p [v] _ ((g1.trans g2).up (by have := cst_le ts; omega)) (g1.free hp) upd_same ?_
      show isTs S _ (Gb.growT nlT prT ts old) [v]
      rw [Gb.growT_all nlT prT (by omega) (by omega)]
      exact .cons (isT_up g2.gn i1) .nil
    have c1' : ¬ V.int (old : Int) = V.int (ws.length : Int) := of_decide_eq_false (Bool.eq_false_iff.mpr c)
    have c1 : ¬ (ws.length : Int) ≤ (old : Int) := fun z => c1' (by rw [show (old : Int) = (ws.length : Int) by omega])
    have h2 : 2 ≤ ts.length := by omega
    have x1 := Gb.spl_lt h2
    have x2 := Gb.spl_pos ts.length
    have x3 := Gb.spl_ge h2
    have xj := spl_pow h2 hj
    have l1 : (ts.take (Gb.spl ts.length)).length = Gb.spl ts.length := by rw [List.length_take]; omega
    have l2 : (ts.drop (Gb.spl ts.length)).length = ts.length - Gb.spl ts.length := List.length_drop
    have k1 := cst_at l1 x2
    have k2 := cst_at l2 (by omega)
    have big : ts.length < 2 ^ 60 := Nat.lt_of_le_of_lt hj (Nat.pow_lt_pow_right (by omega) (by omega))
    refine ⟨_, rfl, a, _, rfl, .inl hq, _, rfl, by omega, by omega, ?_⟩
    have ek : (ws.length : Int).toNat = ts.length := by omega
    rw [ek]
    refine ⟨_, rfl, _, rfl, _, _, rfl, rfl, _, rfl, ?_⟩
    refine ite2 (fun c => ?_) (fun c => ?_)
    · have c2 : (old : Int) ≤ (Gb.spl ts.length : Nat) := of_decide_eq_true c
      refine ⟨_, rfl, _, rfl, _, rfl, _, rfl, a, ws, rfl, hq, fun p1 hp1 => ⟨_, rfl, ?_⟩⟩
      have g1 : Gr S 0 H (upd H p1 (.lst (cutV ws none (some (Gb.spl ts.length : Nat))))) := .new hS.told hp1
      refine ⟨S, f, p1, ws.take (Gb.spl ts.length), ts.take (Gb.spl ts.length), old, rfl, hS.up g1.gn, SqL.of (by rw [upd_same, cut_take]), isTs_up g1.gn (pr_take _ ht), by simp; omega, by simp; omega, hc.go g1.gn (by omega), fun r rs H1 g2 nr er ir => ?_⟩
      have g12 := g1.trans g2
      have hq1 := g12.sq hq
      refine ⟨_, rfl, _, rfl, _, rfl, _, rfl, a, ws, rfl, hq1, fun p2 hp2 => ?_⟩
      have g3 : Gr S 0 H1 (upd H1 p2 (.lst (cutV ws (some (Gb.spl ts.length : Nat)) none))) := .new g12.gn.told2 hp2
      have g13 := g12.trans g3
      refine ⟨S, f, p2, ws.drop (Gb.spl ts.length), ts.drop (Gb.spl ts.length), rfl, hS.up g13.gn, SqL.of (by rw [upd_same, cut_drop]), isTs_up g13.gn (pr_drop _ ht), by simp; omega, hc.go g13.gn (by omega), fun v2 H2 g4 i2 => ?_⟩
      refine ⟨by show 1 ≤ sizeLine; decide, fun p3 hp3 => ?_⟩
      have g34 := g3.trans g4
      have g5 : Gr S 0 H2 (upd H2 p3 (.lst [v2])) := .new g34.gn.told2 hp3
      refine ⟨r, p3, rs, [v2], rfl, rfl, (g34.trans g5).lst er, upd_same, ?_, fun l hl' => ?_⟩
      · have z := gw_len (old := old) (ts := ts.take (Gb.spl ts.length)) (j := j) (by simp; omega) (by omega)
        have z2 := pr_len ir
        simp only [List.length_singleton]; omega
      · obtain ⟨e1, e2, e3, e4⟩ := grow_end (N := ts.length + 1) g12 (g1.free nr) er ir g34 i2 hp3 hl' (by omega)
        refine q l _ _ e1 e2 e3 ?_
        show isTs S _ (Gb.growT nlT prT ts old) _
        rw [Gb.growT_low nlT prT (by omega) (by omega) (by omega)]
        exact e4
    · have c2 : ¬ (old : Int) ≤ (Gb.spl ts.length : Nat) := of_decide_eq_false (Bool.eq_false_iff.mpr c)
      refine ⟨_, rfl, _, rfl, _, rfl, _, rfl, a, ws, rfl, hq, fun p1 hp1 => ⟨_, rfl, _, rfl, _, _, rfl, rfl, ?_⟩⟩
      have g1 : Gr S 0 H (upd H p1 (.lst (cutV ws (some (Gb.spl ts.length : Nat)) none))) := .new hS.told hp1
      refine ⟨S, f, p1, ws.drop (Gb.spl ts.length), ts.drop (Gb.spl ts.length), old - Gb.spl ts.length, ?_, hS.up g1.gn, SqL.of (by rw [upd_same, cut_drop]), isTs_up g1.gn (pr_drop _ ht), by simp; omega, by simp; omega, hc.go g1.gn (by omega), fun r rs H1 g2 nr er ir => ?_⟩
      · show [V.ref f, V.ref p1, V.int ((old : Int) - ((Gb.spl ts.length : Nat) : Int))] = _
        rw [show (old : Int) - ((Gb.spl ts.length : Nat) : Int) = ((old - Gb.spl ts.length : Nat) : Int) by omega]
      have g12 := g1.trans g2
      have hq1 := g12.sq hq
      refine ⟨_, rfl, _, rfl, _, rfl, _, rfl, a, ws, rfl, hq1, fun p2 hp2 => ?_⟩
      have g3 : Gr S 0 H1 (upd H1 p2 (.lst (cutV ws none (some (Gb.spl ts.length : Nat))))) := .new g12.gn.told2 hp2
      have g13 := g12.trans g3
      refine ⟨S, f, p2, ws.take (Gb.spl ts.length), ts.take (Gb.spl ts.length), rfl, hS.up g13.gn, SqL.of (by rw [upd_same, cut_take]), isTs_up g13.gn (pr_take _ ht), by simp; omega, hc.go g13.gn (by omega), fun v2 H2 g4 i2 => ?_⟩
      refine ⟨by show 1 ≤ sizeLine; decide, fun p3 hp3 => ?_⟩
      have g34 := g3.trans g4
      have g5 : Gr S 0 H2 (upd H2 p3 (.lst [v2])) := .new g34.gn.told2 hp3
      refine ⟨r, p3, rs, [v2], rfl, rfl, (g34.trans g5).lst er, upd_same, ?_, fun l hl' => ?_⟩
      · have z := gw_len (old := old - Gb.spl ts.length) (ts := ts.drop (Gb.spl ts.length)) (j := j) (by simp; omega) (by omega)
        have z2 := pr_len ir
        simp only [List.length_singleton]; omega
      · obtain ⟨e1, e2, e3, e4⟩ := grow_end (N := ts.length + 1) g12 (g1.free nr) er ir g34 i2 hp3 hl' (by omega)
        refine q l _ _ e1 e2 e3 ?_
        show isTs S _ (Gb.growT nlT prT ts old) _
        rw [Gb.growT_high nlT prT (by omega) (by omega) (by omega)]
        exact e4
end
section
variable {P : Program} {w : World} {K : PySem.W.Frag} {mg : Str → Option Value} {base : Heap}
def spMark (K : PySem.W.Frag) (mg : Str → Option Value) (m : Str) : Sp := fun vs H Q _ => ∃ S f t1 t2 v1 v2, vs = [.ref f, v1, v2] ∧ SealAt K mg sNumd S H f ∧ Cap S H 1 ∧ isT S H t1 v1 ∧ isT S H t2 v2 ∧ ∀ v H', Gr S 1 H H' → isT S H' (.nd m t1 t2) v → Q v H'
theorem scLeS : FnScope ["seal", "text", "table"] ["seal", "text", "table"] (defScope sLeafS) := ⟨rfl, rfl, rfl, by decide +kernel, rfl, by decide +kernel, by decide +kernel⟩
theorem ok_leafS (F : FunAt K mg "leaf_seal" sLeafS) (Fl : CallOk P w K mg base CX0 1 (spSeal K mg sNumd)) : FnP P w K mg base 2 "leaf_seal" ["seal", "text", "table"] (spMark K mg "leaf") := by
  refine F.ok scLeS (fun _ _ _ _ _ _ us hl => match us, hl with | [_, _, _], _ => rfl) (fun vs H Q E h => ?_) (fun f cdv A outer s H vs Q E hr h => ?_)
  · obtain ⟨S, f, t1, t2, v1, v2, rfl, _⟩ := h; rfl
  obtain ⟨S, f, t1, t2, v1, v2, rfl, hS, hc, i1, i2, q⟩ := h
  refine ⟨_, pss_one (ps_ret (pe_callV (i := 0) Fl hr pass0 rfl (Or.inl rfl) (pa_cons pe_str (pa_cons (pv 1) (pa_cons (pv 2) pa_nil))))), ?_⟩
  exact ⟨f, rfl, hS.fny, _, rfl, _, rfl, hS.fny, S, _, t1, t2, _, _, hS, hc, rfl, i1, i2, q⟩
theorem scBk : FnScope ["seal", "size", "top"] ["seal", "size", "top"] (defScope sBook) := ⟨rfl, rfl, rfl, by decide +kernel, rfl, by decide +kernel, by decide +kernel⟩
theorem ok_book (F : FunAt K mg "book_seal" sBook) (Fl : CallOk P w K mg base CX0 1 (spSeal K mg sNumd)) : FnP P w K mg base 2 "book_seal" ["seal", "size", "top"] (spMark K mg "book") := by
  refine F.ok scBk (fun _ _ _ _ _ _ us hl => match us, hl with | [_, _, _], _ => rfl) (fun vs H Q E h => ?_) (fun f cdv A outer s H vs Q E hr h => ?_)
  · obtain ⟨S, f, t1, t2, v1, v2, rfl, _⟩ := h; rfl
  obtain ⟨S, f, t1, t2, v1, v2, rfl, hS, hc, i1, i2, q⟩ := h
  refine ⟨_, pss_one (ps_ret (pe_callV (i := 0) Fl hr pass0 rfl (Or.inl rfl) (pa_cons pe_str (pa_cons (pv 1) (pa_cons (pv 2) pa_nil))))), ?_⟩
  exact ⟨f, rfl, hS.fny, _, rfl, _, rfl, hS.fny, S, _, t1, t2, _, _, hS, hc, rfl, i1, i2, q⟩
def tV (b : Bool) : V := .str (if b then "first" else "rest")
def spTurns : Sp := fun vs H Q _ => ∃ p n : Nat, vs = [.int p, .int n] ∧ p < n ∧ n ≤ 2 ^ 40 ∧ ∀ r, H r = none → Q (.ref r) (upd H r (.lst ((Gb.turnsT n p).map tV)))
theorem scTurns : FnScope ["place", "size", "turns", "first"] ["place", "size"] (defScope sTurns) := ⟨rfl, rfl, rfl, by decide +kernel, rfl, by decide +kernel, by decide +kernel⟩
theorem ok_turns (F : FunAt K mg "turns_of" sTurns) (Fs : FnP P w K mg base 1 "split" ["size"] spSplit) : FnP P w K mg base 2 "turns_of" ["place", "size"] spTurns := by
  refine F.ok scTurns (fun _ _ _ _ _ _ us hl => match us, hl with | [_, _], _ => rfl) (fun vs H Q E h => ?_) (fun f cdv A outer s H vs Q E hr h => ?_)
  · obtain ⟨p, n, rfl, _⟩ := h; rfl
  obtain ⟨p, n, rfl, hp, hn, q⟩ := h
  have nd := scTurns.nd
  refine ⟨_, pss_cons (ps_set (i := 2) nd rfl (Or.inl rfl) (pe_lst pa_nil)) <|
    pss_cons (ps_while PassesOwn.never (pt_cmpR op_gt (pv 1) pe_int (nomark _)) <|
      pss_cons (ps_set (i := 3) nd rfl (Or.inl rfl) (pe_callN Fs hr rfl (pa_cons (pv 1) pa_nil))) <|
      pss_one (ps_if (pt_cmpR op_lt (pv 0) (pv 3) (nomark _))
        (pss_cons (ps_expr (pe_bm PySem.F.plainAttrs_list PySem.F.slot_list_append PySem.F.type_list_append mt_append (pv 2) (pa_cons pe_str pa_nil))) <| pss_one (ps_set (i := 1) nd rfl (Or.inl rfl) (pv 3)))
        (pss_cons (ps_expr (pe_bm PySem.F.plainAttrs_list PySem.F.slot_list_append PySem.F.type_list_append mt_append (pv 2) (pa_cons pe_str pa_nil))) <| pss_cons (ps_set (i := 0) nd rfl (Or.inl rfl) (pe_op op_sub (pv 0) (pv 3))) <| pss_one (ps_set (i := 1) nd rfl (Or.inl rfl) (pe_op op_sub (pv 1) (pv 3)))))) <|
    pss_one (ps_ret (pv 2)), ?_⟩
  have tl := Gb.turns_len 40 n p hn
  refine ⟨by show 0 ≤ sizeLine; decide, fun r hr0 => ?_⟩
  refine while_by (fun σ H' => ∃ p' n' : Nat, ∃ pre o3, σ = [some (.int p'), some (.int n'), some (.ref r), o3] ∧ H' = upd H r (.lst pre) ∧ pre ++ (Gb.turnsT n' p').map tV = (Gb.turnsT n p).map tV ∧ p' < n' ∧ n' ≤ n)
    (fun σ _ => match σ with | [_, some (.int k), _, _] => k.toNat | _ => 0) ⟨p, n, [], none, rfl, rfl, rfl, hp, Nat.le_refl _⟩ ?_ ?_
  · rintro σ H' ⟨p', n', pre, o3, rfl, rfl, hpre, hp', hn'⟩
    refine ⟨_, rfl, _, _, rfl, rfl, _, rfl, ?_⟩
    have plen : pre.length ≤ 40 := by
      have z := congrArg List.length hpre
      rw [List.length_append, List.length_map, List.length_map] at z
      omega
    refine ite2 (fun c => ?_) (fun c => ?_)
    · have c' : (1 : Int) < (n' : Int) := of_decide_eq_true c
      have h2 : 2 ≤ n' := by omega
      have x1 := Gb.spl_lt h2
      have x2 := Gb.spl_pos n'
      have big : n' < 2 ^ 60 := Nat.lt_of_le_of_lt (Nat.le_trans hn' hn) (by decide)
      refine ⟨_, rfl, _, rfl, by omega, by omega, ?_⟩
      rw [show ((n' : Nat) : Int).toNat = n' from rfl]
      refine ⟨_, rfl, _, rfl, _, _, rfl, rfl, _, rfl, ?_⟩
      refine ite2 (fun c => ?_) (fun c => ?_)
      · have c2 : (p' : Int) < (Gb.spl n' : Nat) := of_decide_eq_true c
        refine ⟨_, rfl, .inl ⟨rfl, _, SqL.of (K := K) upd_same⟩, r, pre, _, rfl, rfl, upd_same, by rw [sizeLine_eq]; omega, ?_⟩
        refine ⟨_, rfl, ⟨p', Gb.spl n', pre ++ [tV true], _, rfl, by rw [upd_upd]; rfl, ?_, by omega, by omega⟩, ?_⟩
        · rw [← hpre, Gb.turnsT_low h2 (by omega)]; simp
        · show ((Gb.spl n' : Nat) : Int).toNat < ((n' : Nat) : Int).toNat
          omega
      · have c2 : ¬ (p' : Int) < (Gb.spl n' : Nat) := of_decide_eq_false (Bool.eq_false_iff.mpr c)
        refine ⟨_, rfl, .inl ⟨rfl, _, SqL.of (K := K) upd_same⟩, r, pre, _, rfl, rfl, upd_same, by rw [sizeLine_eq]; omega, ?_⟩
        refine ⟨_, rfl, _, rfl, _, _, rfl, rfl, _, rfl, _, rfl, _, _, rfl, rfl, ⟨p' - Gb.spl n', n' - Gb.spl n', pre ++ [tV false], some (.int (Gb.spl n' : Nat)), ?_, by rw [upd_upd]; rfl, ?_, by omega, by omega⟩, ?_⟩
        · show [some (V.int ((p' : Int) - (Gb.spl n' : Nat))), some (V.int ((n' : Int) - (Gb.spl n' : Nat))), _, _] = _
          rw [show (p' : Int) - (Gb.spl n' : Nat) = ((p' - Gb.spl n' : Nat) : Int) by omega, show (n' : Int) - (Gb.spl n' : Nat) = ((n' - Gb.spl n' : Nat) : Int) by omega]
        · rw [← hpre, Gb.turnsT_high h2 (by omega)]; simp
        · show ((n' : Int) - (Gb.spl n' : Nat)).toNat < ((n' : Nat) : Int).toNat
          omega
    · have c' : ¬ (1 : Int) < (n' : Int) := of_decide_eq_false (Bool.eq_false_iff.mpr c)
      refine ⟨_, rfl, ?_⟩
      rw [Gb.turnsT_few (show n' < 2 by omega)] at hpre
      have e : pre = (Gb.turnsT n p).map tV := by simpa using hpre
      rw [e]
      exact q r hr0
  · rintro σ H' Q1 Q2 hq ⟨v, e1, i, j, e2, e3, k, e7, z⟩
    exact ⟨v, e1, i, j, e2, e3, k, e7, hq _ _ z⟩
theorem SqT.of {K : PySem.W.Frag} {H : Hp} {a : Addr} {xs : List V} (h : H a = some (.tup xs)) : SqT K H a xs := .inl (.inl h)
def NotL (H : Hp) (pv : V) : Prop := flatV pv = true ∨ ∃ b ws, pv = .ref b ∧ H b = some (.tup ws)
theorem NotL.new {H : Hp} {pv : V} {r : Addr} {o : HO} (h : NotL H pv) (hr : H r = none) : NotL (upd H r o) pv := by
  rcases h with h | ⟨b, ws, rfl, hb⟩
  · exact .inl h
  · exact .inr ⟨b, ws, rfl, by rw [upd_ne (ne_of_none hb hr)]; exact hb⟩
theorem kit_nl {K : PySem.W.Frag} : PySem.W.kitOne K (.type "NoneType") (.type "list") = some false := by unfold PySem.W.kitOne; rw [if_neg (by simp)]; kernel_rfl
theorem kit_bl {K : PySem.W.Frag} : PySem.W.kitOne K (.type "bool") (.type "list") = some false := by unfold PySem.W.kitOne; rw [if_neg (by simp)]; kernel_rfl
theorem kit_il {K : PySem.W.Frag} : PySem.W.kitOne K (.type "int") (.type "list") = some false := by unfold PySem.W.kitOne; rw [if_neg (by simp)]; kernel_rfl
theorem kit_sl {K : PySem.W.Frag} : PySem.W.kitOne K (.type "str") (.type "list") = some false := by unfold PySem.W.kitOne; rw [if_neg (by simp)]; kernel_rfl
theorem NotL.ty {H : Hp} {pv : V} (h : NotL H pv) (K : PySem.W.Frag) : ∃ T, TyOf K H pv T ∧ PySem.W.kitOne K T (.type "list") = some false := by
  rcases h with h | ⟨b, ws, rfl, hb⟩
  · cases pv with
    | non => exact ⟨_, .non, kit_nl⟩
    | bl b => exact ⟨_, .bl b, kit_bl⟩
    | int i => exact ⟨_, .int i, kit_il⟩
    | str x => exact ⟨_, .str x, kit_sl⟩
    | _ => cases h
  · exact ⟨_, .tup hb, kit_tl⟩
def spRisen (K : PySem.W.Frag) (mg : Str → Option Value) (cP : Addr) : Sp := fun vs H Q E => ∃ S f t0 v0, ∃ p n : Nat, ∃ pv, vs = [.ref f, v0, .int p, .int n, pv] ∧ SealAt K mg sNumd S H f ∧ isT S H t0 v0 ∧ p < n ∧ n ≤ 2 ^ 40 ∧
  ((∃ b ws os, pv = .ref b ∧ H b = some (.lst ws) ∧ isTs S H os ws ∧ ws.length = (Gb.turnsT n p).length ∧ Cap S H ws.length ∧ ∀ v H', Gr S ws.length H H' → isT S H' (Gb.rise prT (Gb.turnsT n p).reverse os t0) v → Q v H') ∨
   (((∃ b ws, pv = .ref b ∧ H b = some (.lst ws) ∧ ws.length ≠ (Gb.turnsT n p).length) ∨ NotL H pv) ∧ ∀ H', Gr S 0 H H' → E (.ref cP) none H'))
theorem scRi : FnScope ["seal", "leaf", "place", "size", "path", "turns", "top", "turn", "other"] ["seal", "leaf", "place", "size", "path"] (defScope sRisen) := ⟨rfl, rfl, rfl, by decide +kernel, rfl, by decide +kernel, by decide +kernel⟩
theorem ok_risen {cP : Addr} (F : FunAt K mg "risen" sRisen) (Ft : FnP P w K mg base 2 "turns_of" ["place", "size"] spTurns) (Fp : FnP P w K mg base 2 "pair_seal" ["seal", "first", "rest"] (spPair K mg))
    (xc : XCls K cP) (hP : mg "BadPaper" = some (.ref cP)) (ml : mg "len" = none) (mli : mg "list" = none) (mi : mg "isinstance" = none) (mz : mg "zip" = none) (mre : mg "reversed" = none)
    (kl : PySem.W.kitOne K (.type "list") (.type "list") = some true) : FnX P w K mg base 3 "risen" ["seal", "leaf", "place", "size", "path"] (spRisen K mg cP) := by
  refine F.okX scRi (fun _ _ _ _ _ _ us hl => match us, hl with | [_, _, _, _, _], _ => rfl) (fun vs H Q E h => ?_) (fun f0 cdv A outer s H vs Q E hr h => ?_)
  · obtain ⟨S, f, t0, v0, p, n, pv, rfl, _⟩ := h; rfl
  obtain ⟨S, f, t0, v0, p, n, pvv, rfl, hS, it0, hp, hn, h⟩ := h
  have nd := scRi.nd
  refine ⟨_, pss_cons (ps_set (i := 5) nd rfl (Or.inl rfl) (pe_callN Ft hr rfl (pa_cons (pv 2) (pa_cons (pv 3) pa_nil)))) <|
    pss_cons (ps_if (pt_not (pt_val (pe_callB call_isinst rfl mi PyProof.Rows.boot_isinstance (pa_cons (pv 4) (pa_cons (pe_ty rfl mli PyProof.Rows.boot_list) pa_nil)))))
      (pss_one (ps_raise raises_cx hr.hd xc rfl hP (pa_cons pe_str pa_nil))) pss_nil) <|
    pss_cons (ps_if (pt_cmpR op_ne (pe_callB call_len_seq rfl ml PySem.boot_len (pa_cons (pv 4) pa_nil)) (pe_callB call_len_seq rfl ml PySem.boot_len (pa_cons (pv 5) pa_nil)) (nomark _))
      (pss_one (ps_raise raises_cx hr.hd xc rfl hP (pa_cons pe_str pa_nil))) pss_nil) <|
    pss_cons (ps_set (i := 6) nd rfl (Or.inl rfl) (pv 1)) <|
    pss_cons (ps_for PassesOwn.leaving rfl (pi_zipRev rfl mz rfl mre (pv 5) (pv 4)) (pg_tup rfl (pgs_cons (pg_name (i := 7) nd rfl (Or.inl rfl)) (pgs_cons (pg_name (i := 8) nd rfl (Or.inl rfl)) pgs_nil))) <|
      pss_one (ps_if (pt_cmpR op_eq (pv 7) pe_str (nomark _))
        (pss_one (ps_set (i := 6) nd rfl (Or.inl rfl) (pe_callN Fp hr rfl (pa_cons (pv 0) (pa_cons (pv 6) (pa_cons (pv 8) pa_nil))))))
        (pss_one (ps_set (i := 6) nd rfl (Or.inl rfl) (pe_callN Fp hr rfl (pa_cons (pv 0) (pa_cons (pv 8) (pa_cons (pv 6) pa_nil)))))))) <|
    pss_one (ps_ret (pv 6)), ?_⟩
  refine ⟨_, rfl, _, rfl, p, n, rfl, hp, hn, fun r hr0 => ?_⟩
  have g1 : Gr S 0 H (upd H r (.lst ((Gb.turnsT n p).map tV))) := .new hS.told hr0
  rcases h with ⟨b, ws, os, rfl, hb, hos, hlen, hc, q⟩ | ⟨⟨b, ws, rfl, hb, hne⟩ | hnl, q⟩
  · have hb1 := g1.lst hb
    refine ⟨_, rfl, _, _, _, _, rfl, .lst hb1, kl, _, rfl, ?_⟩
    refine iteF ?_
    refine ⟨_, rfl, b, ws, rfl, .inl (SqL.of hb1), _, rfl, r, _, rfl, .inl (SqL.of upd_same), rfl, _, rfl, ?_⟩
    rw [List.length_map, ← hlen, decide_eq_true rfl]
    refine iteF ?_
    refine ⟨_, rfl, _, rfl, r, _, rfl, SqL.of upd_same, _, rfl, b, ws, rfl, SqL.of upd_same, SqL.of hb1, by rw [List.length_map]; exact hlen.symm, ?_⟩
    have ho := pr_len hos
    have hc1 : Cap S (upd H r (.lst ((Gb.turnsT n p).map tV))) ws.length := hc.go g1.gn (by omega)
    refine for_zipR (by rw [List.length_map]; exact hlen.symm) (fun i σ H' => Gr S i (upd H r (.lst ((Gb.turnsT n p).map tV))) H' ∧ ∃ v o7 o8, σ = [some (.ref f), some v0, some (.int p), some (.int n), some (.ref b), some (.ref r), some v, o7, o8] ∧ isT S H' (Gb.rise prT ((Gb.turnsT n p).reverse.take i) (os.take i) t0) v)
      ⟨.refl g1.gn.told2, v0, none, none, rfl, isT_up g1.gn it0⟩ (fun i σ H' _ h => ⟨SqL.of (h.1.lst upd_same), SqL.of (h.1.lst hb1)⟩) ?_ ?_
    · rintro i u v pp σ H2 hi hu hv hpp ⟨g2, top, o7, o8, rfl, it⟩
      rw [List.length_map] at hi hu
      obtain ⟨tb, htb, rfl⟩ : ∃ tb, (Gb.turnsT n p).reverse[i]? = some tb ∧ u = tV tb := by
        rw [List.getElem?_map] at hu
        rw [List.getElem?_reverse hi]
        cases z : (Gb.turnsT n p)[(Gb.turnsT n p).length - 1 - i]? with
        | none => rw [z] at hu; cases hu
        | some tb => rw [z] at hu; exact ⟨tb, rfl, (Option.some.inj hu).symm⟩
      obtain ⟨to, hto, ito⟩ := pr_get2 hos hv
      have g3 : Gr S 0 H2 (upd H2 pp (.tup [tV tb, v])) := .new g2.gn.told2 hpp
      have g13 := (g1.trans g2).trans g3
      have hS3 := hS.up g13.gn
      have c3 : Cap S (upd H2 pp (.tup [tV tb, v])) 1 := hc.go g13.gn (by omega)
      have itop := isT_up g3.gn it
      have ioth := isT_up g13.gn ito
      refine ⟨pp, _, rfl, SqT.of upd_same, rfl, _, _, rfl, _, _, rfl, rfl, _, rfl, rfl, _, rfl, ?_⟩
      have step := Gb.rise_take prT (x := t0) (by rw [List.length_reverse]; omega) htb hto
      cases tb with
      | true =>
        rw [show decide (tV true = V.str "first") = true from rfl]
        refine iteT ?_
        refine ⟨_, rfl, _, rfl, _, rfl, S, f, _, _, _, _, rfl, hS3, c3, itop, ioth, fun v3 H3 g4 i3 => ⟨(g2.trans (g3.trans g4)).up (by omega), v3, _, _, rfl, ?_⟩⟩
        rw [step]; exact i3
      | false =>
        rw [show decide (tV false = V.str "first") = false from by decide]
        refine iteF ?_
        refine ⟨_, rfl, _, rfl, _, rfl, S, f, _, _, _, _, rfl, hS3, c3, ioth, itop, fun v3 H3 g4 i3 => ⟨(g2.trans (g3.trans g4)).up (by omega), v3, _, _, rfl, ?_⟩⟩
        rw [step]; exact i3
    · rintro σ H2 ⟨g2, top, o7, o8, rfl, it⟩
      rw [List.length_map] at g2 it
      refine ⟨_, rfl, q top H2 ((g1.trans g2).up (by omega)) ?_⟩
      rw [List.take_of_length_le (by rw [List.length_reverse]; omega), List.take_of_length_le (by omega)] at it
      exact it
  · have hb1 := g1.lst hb
    refine ⟨_, rfl, _, _, _, _, rfl, .lst hb1, kl, _, rfl, ?_⟩
    refine iteF ?_
    refine ⟨_, rfl, b, ws, rfl, .inl (SqL.of hb1), _, rfl, r, _, rfl, .inl (SqL.of upd_same), rfl, _, rfl, ?_⟩
    rw [List.length_map, decide_eq_false (show ¬ V.int (ws.length : Int) = V.int ((Gb.turnsT n p).length : Int) from fun z => hne (by injection z with z; omega))]
    refine iteT ?_
    exact ⟨by show 1 ≤ sizeLine; decide, q _ g1⟩
  · obtain ⟨T, hT, hk⟩ := (hnl.new (o := .lst ((Gb.turnsT n p).map tV)) hr0).ty K
    refine ⟨_, rfl, _, _, _, _, rfl, hT, hk, _, rfl, ?_⟩
    refine iteT ?_
    exact ⟨by show 1 ≤ sizeLine; decide, q _ g1⟩
end
end My
namespace My
open PySem L2
section
variable {P : Program} {w : World} {K : PySem.W.Frag} {mg : Str → Option Value} {base : Heap}
theorem scRw : FnScope ["seal", "key", "value"] ["seal", "key", "value"] (defScope sRow) := ⟨rfl, rfl, rfl, by decide +kernel, rfl, by decide +kernel, by decide +kernel⟩
theorem ok_row (F : FunAt K mg "row_seal" sRow) (Fl : CallOk P w K mg base CX0 1 (spSeal K mg sNumd)) : FnP P w K mg base 2 "row_seal" ["seal", "key", "value"] (spMark K mg "row") := by
  refine F.ok scRw (fun _ _ _ _ _ _ us hl => match us, hl with | [_, _, _], _ => rfl) (fun vs H Q E h => ?_) (fun f cdv A outer s H vs Q E hr h => ?_)
  · obtain ⟨S, f, t1, t2, v1, v2, rfl, _⟩ := h; rfl
  obtain ⟨S, f, t1, t2, v1, v2, rfl, hS, hc, i1, i2, q⟩ := h
  refine ⟨_, pss_one (ps_ret (pe_callV (i := 0) Fl hr pass0 rfl (Or.inl rfl) (pa_cons pe_str (pa_cons (pv 1) (pa_cons (pv 2) pa_nil))))), ?_⟩
  exact ⟨f, rfl, hS.fny, _, rfl, _, rfl, hS.fny, S, _, t1, t2, _, _, hS, hc, rfl, i1, i2, q⟩
theorem scFk : FnScope ["seal", "low", "high"] ["seal", "low", "high"] (defScope sFork) := ⟨rfl, rfl, rfl, by decide +kernel, rfl, by decide +kernel, by decide +kernel⟩
theorem ok_fork (F : FunAt K mg "fork_seal" sFork) (Fl : CallOk P w K mg base CX0 1 (spSeal K mg sNumd)) : FnP P w K mg base 2 "fork_seal" ["seal", "low", "high"] (spMark K mg "fork") := by
  refine F.ok scFk (fun _ _ _ _ _ _ us hl => match us, hl with | [_, _, _], _ => rfl) (fun vs H Q E h => ?_) (fun f cdv A outer s H vs Q E hr h => ?_)
  · obtain ⟨S, f, t1, t2, v1, v2, rfl, _⟩ := h; rfl
  obtain ⟨S, f, t1, t2, v1, v2, rfl, hS, hc, i1, i2, q⟩ := h
  refine ⟨_, pss_one (ps_ret (pe_callV (i := 0) Fl hr pass0 rfl (Or.inl rfl) (pa_cons pe_str (pa_cons (pv 1) (pa_cons (pv 2) pa_nil))))), ?_⟩
  exact ⟨f, rfl, hS.fny, _, rfl, _, rfl, hS.fny, S, _, t1, t2, _, _, hS, hc, rfl, i1, i2, q⟩
theorem bit1 (k : Int) (b : Nat) : Builtin.bitAnd (k / 2 ^ ((b : Int)).toNat) 1 = bitAt k b := by
  rw [PyProof.Rows.bitAnd_m1]; rfl
def spPart (K : PySem.W.Frag) : Sp := fun vs H Q _ => ∃ S : Sl, ∃ a ws rows, ∃ b : Nat, ∃ sd : Int, vs = [.ref a, .int b, .int sd] ∧ Told S H ∧ SqL K H a ws ∧ RowsAt H rows ws ∧ rows.length ≤ 1000 ∧
  ∀ D H' ws', Gr S 0 H H' → H D = none → H' D = some (.lst ws') → RowsAt H' (prt rows b sd) ws' → Q (.ref D) H'
theorem scPo : FnScope ["rows", "bit", "side"] ["rows", "bit", "side"] (defScope sPartOf) := ⟨rfl, rfl, rfl, by decide +kernel, rfl, by decide +kernel, by decide +kernel⟩
theorem ok_part (F : FunAt K mg "part_of" sPartOf) : FnP P w K mg base 1 "part_of" ["rows", "bit", "side"] (spPart K) := by
  refine F.ok scPo (fun _ _ _ _ _ _ us hl => match us, hl with | [_, _, _], _ => rfl) (fun vs H Q E h => ?_) (fun f0 cdv A outer s H vs Q E hr h => ?_)
  · obtain ⟨S, a, ws, rows, b, sd, rfl, _⟩ := h; rfl
  obtain ⟨S, a, ws, rows, b, sd, rfl, ts, hq, hw, hz, q⟩ := h
  refine' ⟨_, pss_one (ps_ret (pe_comp (ys := ["bit", "side"]) (js := [1, 2]) ?ok (pi_list (pv 0)) (fun _ _ _ => pts_one ?ht) (fun _ _ _ => pv 0))), ?rd⟩
  case ok =>
    refine ⟨rfl, rfl, rfl, by decide +kernel, by decide +kernel, rfl, by decide +kernel, fun _ _ h => h, rfl, fun i y h => ?_, rfl⟩
    match i, h with
    | 0, h => simp at h; subst h; exact ⟨1, rfl, rfl, rfl, rfl⟩
    | 1, h => simp at h; subst h; exact ⟨2, rfl, rfl, rfl, rfl⟩
    | i + 2, h => simp at h
  case ht =>
    exact pt_cmpR op_eq (pe_op op_and (pe_op op_shr (pe_ix (ix_tupK K rfl) (pv 0) pe_int (fun _ _ => rfl)) (pv 1)) pe_int) (pv 2) (nomark _)
  case rd =>
  refine ⟨_, rfl, a, rfl, ⟨_, hq⟩, ?_⟩
  refine comp_rows (fun r => decide (bitAt r.1 b = sd)) ts hq hw (by omega) (fun p r H' Qb hp hQ => ?_) q
  refine ⟨_, rfl, p, _, 0, _, rfl, rfl, .inl (.inl hp), atI_nat (j := 0) rfl, _, rfl, _, _, rfl, rfl, by show (0 : Int) ≤ (b : Int); omega, _, _, rfl, rfl, _, rfl, rfl, _, rfl, ?_⟩
  show Qb (decide (V.int (Builtin.bitAnd (r.1 / 2 ^ ((b : Int)).toNat) 1) = V.int sd)) H'
  rw [bit1]
  have e : decide (V.int (bitAt r.1 b) = V.int sd) = decide (bitAt r.1 b = sd) := by
    by_cases h : bitAt r.1 b = sd
    · rw [decide_eq_true h, decide_eq_true (by rw [h])]
    · rw [decide_eq_false h, decide_eq_false (fun z => h (by injection z))]
  rw [e]
  exact hQ
def spTopP (K : PySem.W.Frag) (mg : Str → Option Value) (b : Nat) : Sp := fun vs H Q _ => ∃ S f a ws rows, vs = [.ref f, .ref a, .int b] ∧ SealAt K mg sNumd S H f ∧ SqL K H a ws ∧ RowsAt H rows ws ∧ rows.length ≤ 1000 ∧ OKR b rows ∧ Cap S H (cstP b rows) ∧
  ∀ v H', Gr S (cstP b rows) H H' → isT S H' (topP b rows) v → Q v H'
theorem scTp : FnScope ["seal", "rows", "bits", "bit", "low", "high"] ["seal", "rows", "bits"] (defScope sTopPart) := ⟨rfl, rfl, rfl, by decide +kernel, rfl, by decide +kernel, by decide +kernel⟩
theorem ok_topP (F : FunAt K mg "top_of_part" sTopPart) (Fn : FnP P w K mg base 2 "none_seal" ["seal"] (spNone K mg)) (Fr : FnP P w K mg base 2 "row_seal" ["seal", "key", "value"] (spMark K mg "row"))
    (Ff : FnP P w K mg base 2 "fork_seal" ["seal", "low", "high"] (spMark K mg "fork")) (Fp : FnP P w K mg base 1 "part_of" ["rows", "bit", "side"] (spPart K)) (ml : mg "len" = none) :
    ∀ b : Nat, FnP P w K mg base (b + 3) "top_of_part" ["seal", "rows", "bits"] (spTopP K mg b) := by
  intro b
  induction b with
  | zero =>
    refine F.ok scTp (fun _ _ _ _ _ _ us hl => match us, hl with | [_, _, _], _ => rfl) (fun vs H Q E h => ?_) (fun f0 cdv A outer s H vs Q E hr h => ?_)
    · obtain ⟨S, f, a, ws, rows, rfl, _⟩ := h; rfl
    obtain ⟨S, f, a, ws, rows, rfl, hS, hq, hw, hz, ok, hc, q⟩ := h
    have nd := scTp.nd
    have hl := pr_len hw
    refine ⟨_, pss_cons (ps_if (pt_cmpR op_eq (pe_callB call_len_seq rfl ml PySem.boot_len (pa_cons (pv 1) pa_nil)) pe_int (nomark _)) (pss_one (ps_ret (pe_callN Fn hr rfl (pa_cons (pv 0) pa_nil)))) pss_nil) <|
      pss_cons (ps_if (pt_cmpR op_eq (pe_callB call_len_seq rfl ml PySem.boot_len (pa_cons (pv 1) pa_nil)) pe_int (nomark _)) (pss_one (ps_ret (pe_callN Fr hr rfl (pa_cons (pv 0) (pa_cons (pe_ix ix_tup (pe_ix ix_list (pv 1) pe_int (fun _ _ => rfl)) pe_int (fun _ _ => rfl)) (pa_cons (pe_ix ix_tup (pe_ix ix_list (pv 1) pe_int (fun _ _ => rfl)) pe_int (fun _ _ => rfl)) pa_nil)))))) pss_nil) <|
      pss_never, ?_⟩
    have h1 := ok.zero
    refine ⟨_, rfl, a, _, rfl, .inl hq, rfl, _, rfl, ?_⟩
    refine ite2 (fun c => ?_) (fun c => ?_)
    · have c' : V.int (ws.length : Int) = V.int 0 := of_decide_eq_true c
      have e : rows = [] := List.eq_nil_of_length_eq_zero (by injection c' with c'; omega)
      subst e
      refine ⟨_, rfl, S, f, rfl, hS, hc, fun v H' g i => q v H' g ?_⟩
      rw [topP_nil]; exact i
    · have c' : ¬ V.int (ws.length : Int) = V.int 0 := of_decide_eq_false (Bool.eq_false_iff.mpr c)
      have c2 : rows.length ≠ 0 := fun z => c' (congrArg V.int (by omega))
      obtain ⟨r, rfl⟩ : ∃ r, rows = [r] := by
        match rows, h1, c2 with
        | [r], _, _ => exact ⟨r, rfl⟩
      obtain ⟨v, rfl, p, rfl, hp⟩ : ∃ v, ws = [v] ∧ RowAt H r v := by
        cases hw with
        | cons r1 t1 => cases t1; exact ⟨_, rfl, r1⟩
      refine ⟨_, rfl, a, _, rfl, .inl hq, rfl, _, rfl, ?_⟩
      refine iteT ?_
      refine ⟨_, rfl, _, rfl, a, _, 0, _, rfl, rfl, hq, atI_nat (j := 0) rfl, p, _, 0, _, rfl, rfl, .inl (.inl hp), atI_nat (j := 0) rfl, _, rfl, a, _, 0, _, rfl, rfl, hq, atI_nat (j := 0) rfl, p, _, 1, _, rfl, rfl, .inl (.inl hp), atI_nat (j := 1) rfl,
        S, f, .int r.1, .str r.2, _, _, rfl, hS, hc, rfl, rfl, fun v H' g i => q v H' g ?_⟩
      rw [topP_one]; exact i
  | succ b ih =>
    refine F.ok scTp (fun _ _ _ _ _ _ us hl => match us, hl with | [_, _, _], _ => rfl) (fun vs H Q E h => ?_) (fun f0 cdv A outer s H vs Q E hr h => ?_)
    · obtain ⟨S, f, a, ws, rows, rfl, _⟩ := h; rfl
    obtain ⟨S, f, a, ws, rows, rfl, hS, hq, hw, hz, ok, hc, q⟩ := h
    have nd := scTp.nd
    have hl := pr_len hw
    refine ⟨_, pss_cons (ps_if (pt_cmpR op_eq (pe_callB call_len_seq rfl ml PySem.boot_len (pa_cons (pv 1) pa_nil)) pe_int (nomark _)) (pss_one (ps_ret (pe_callN Fn (hr.mono (by omega)) rfl (pa_cons (pv 0) pa_nil)))) pss_nil) <|
      pss_cons (ps_if (pt_cmpR op_eq (pe_callB call_len_seq rfl ml PySem.boot_len (pa_cons (pv 1) pa_nil)) pe_int (nomark _)) (pss_one (ps_ret (pe_callN Fr (hr.mono (by omega)) rfl (pa_cons (pv 0) (pa_cons (pe_ix ix_tup (pe_ix ix_list (pv 1) pe_int (fun _ _ => rfl)) pe_int (fun _ _ => rfl)) (pa_cons (pe_ix ix_tup (pe_ix ix_list (pv 1) pe_int (fun _ _ => rfl)) pe_int (fun _ _ => rfl)) pa_nil)))))) pss_nil) <|
      pss_cons (ps_set (i := 3) nd rfl (Or.inl rfl) (pe_op op_sub (pv 2) pe_int)) <|
      pss_cons (ps_set (i := 4) nd rfl (Or.inl rfl) (pe_callN ih hr rfl (pa_cons (pv 0) (pa_cons (pe_callN Fp (hr.mono (by omega)) rfl (pa_cons (pv 1) (pa_cons (pv 3) (pa_cons pe_int pa_nil)))) (pa_cons (pv 3) pa_nil))))) <|
      pss_cons (ps_set (i := 5) nd rfl (Or.inl rfl) (pe_callN ih hr rfl (pa_cons (pv 0) (pa_cons (pe_callN Fp (hr.mono (by omega)) rfl (pa_cons (pv 1) (pa_cons (pv 3) (pa_cons pe_int pa_nil)))) (pa_cons (pv 3) pa_nil))))) <|
      pss_one (ps_ret (pe_callN Ff (hr.mono (by omega)) rfl (pa_cons (pv 0) (pa_cons (pv 4) (pa_cons (pv 5) pa_nil))))), ?_⟩
    have cp := cstP_pos (b + 1) rows
    refine ⟨_, rfl, a, _, rfl, .inl hq, rfl, _, rfl, ?_⟩
    refine ite2 (fun c => ?_) (fun c => ?_)
    · have c' : V.int (ws.length : Int) = V.int 0 := of_decide_eq_true c
      have e : rows = [] := List.eq_nil_of_length_eq_zero (by injection c' with c'; omega)
      subst e
      refine ⟨_, rfl, S, f, rfl, hS, hc.dn cp, fun v H' g i => q v H' (g.up cp) ?_⟩
      rw [topP_nil]; exact i
    have c' : ¬ V.int (ws.length : Int) = V.int 0 := of_decide_eq_false (Bool.eq_false_iff.mpr c)
    have c2 : rows.length ≠ 0 := fun z => c' (congrArg V.int (by omega))
    refine ⟨_, rfl, a, _, rfl, .inl hq, rfl, _, rfl, ?_⟩
    refine ite2 (fun c => ?_) (fun c => ?_)
    · have c' : V.int (ws.length : Int) = V.int 1 := of_decide_eq_true c
      have h1 : rows.length = 1 := by injection c' with c'; omega
      obtain ⟨r, rfl⟩ : ∃ r, rows = [r] := List.length_eq_one_iff.mp h1
      obtain ⟨v, rfl, p, rfl, hp⟩ : ∃ v, ws = [v] ∧ RowAt H r v := by
        cases hw with
        | cons r1 t1 => cases t1; exact ⟨_, rfl, r1⟩
      refine ⟨_, rfl, _, rfl, a, _, 0, _, rfl, rfl, hq, atI_nat (j := 0) rfl, p, _, 0, _, rfl, rfl, .inl (.inl hp), atI_nat (j := 0) rfl, _, rfl, a, _, 0, _, rfl, rfl, hq, atI_nat (j := 0) rfl, p, _, 1, _, rfl, rfl, .inl (.inl hp), atI_nat (j := 1) rfl,
        S, f, .int r.1, .str r.2, _, _, rfl, hS, hc.dn cp, rfl, rfl, fun v H' g i => q v H' (g.up cp) ?_⟩
      rw [topP_one]; exact i
    have c3 : ¬ V.int (ws.length : Int) = V.int 1 := of_decide_eq_false (Bool.eq_false_iff.mpr c)
    have c4 : rows.length ≠ 1 := fun z => c3 (congrArg V.int (by omega))
    have h2 : 2 ≤ rows.length := by omega
    have hcs := cstP_more (b := b) h2
    have eb : (((b + 1 : Nat) : Int) - 1) = ((b : Nat) : Int) := by omega
    refine ⟨_, rfl, _, _, rfl, rfl, ?_⟩
    dsimp only
    rw [eb]
    have ls : ∀ sd, (prt rows b sd).length ≤ 1000 := fun sd => Nat.le_trans (List.length_filter_le _ _) hz
    refine ⟨_, rfl, _, rfl, _, rfl, S, a, ws, rows, b, 0, rfl, hS.told, hq, hw, hz, fun D0 H0 ws0 g0 n0 e0 r0 => ⟨_, rfl, ?_⟩⟩
    refine ⟨S, f, D0, ws0, prt rows b 0, rfl, hS.up g0.gn, SqL.of e0, r0, ls 0, ok.prt 0, hc.go g0.gn (by omega), fun v1 H1 g1 i1 => ?_⟩
    have g01 := g0.trans g1
    refine ⟨_, rfl, _, rfl, _, rfl, S, a, ws, rows, b, 1, rfl, g01.gn.told2, g01.sq hq, RowsAt.up hw g01.gn, hz, fun D2 H2 ws2 g2 n2 e2 r2 => ⟨_, rfl, ?_⟩⟩
    have g02 := g01.trans g2
    refine ⟨S, f, D2, ws2, prt rows b 1, rfl, hS.up g02.gn, SqL.of e2, r2, ls 1, ok.prt 1, hc.go g02.gn (by omega), fun v3 H3 g3 i3 => ?_⟩
    have g03 := g02.trans g3
    refine ⟨_, rfl, _, rfl, _, rfl, S, f, topP b (prt rows b 0), topP b (prt rows b 1), _, _, rfl, hS.up g03.gn, hc.go g03.gn (by omega), isT_up (g2.trans g3).gn i1, i3, fun v4 H4 g4 i4 => q v4 H4 ((g03.trans g4).up (by omega)) ?_⟩
    rw [topP_more h2]; exact i4
def spTopA (K : PySem.W.Frag) (mg : Str → Option Value) : Sp := fun vs H Q E => ∃ b, b ≤ 16 ∧ spTopP K mg b vs H Q E
end
structure Txt (K : PySem.W.Frag) (mg : Str → Option Value) (C : Addr) : Prop where
  cl : Cls K C
  nS : NoAttr K C "seal"
  nD : NoAttr K C "depth"
  nH : NoAttr K C "held"
  mgC : mg "Table" = some (.ref C)
def fl (f : Addr) (D : Nat) (d : Addr) : List (Str × V) := [("seal", .ref f), ("depth", .int D), ("held", .ref d)]
theorem fl_s (f : Addr) (D : Nat) (d : Addr) : (fl f D d).lookup ("seal" : Str) = some (.ref f) := rfl
theorem fl_d (f : Addr) (D : Nat) (d : Addr) : (fl f D d).lookup ("depth" : Str) = some (.int D) := rfl
theorem fl_h (f : Addr) (D : Nat) (d : Addr) : (fl f D d).lookup ("held" : Str) = some (.ref d) := rfl
theorem fl_new (f : Addr) (D : Nat) (d : Addr) : putF "held" (.ref d) (putF "depth" (.int D) (putF "seal" (.ref f) [])) = fl f D d := by
  have e : putF "depth" (.int D) (putF "seal" (.ref f) []) = ([("seal", .ref f), ("depth", .int D)] : List (Str × V)) := by
    show (if ("seal" : Str) = "depth" then _ else (("seal" : Str), V.ref f) :: [(("depth" : Str), V.int D)]) = _
    rw [if_neg (by decide +kernel)]
  rw [e]
  show (if ("seal" : Str) = "held" then _ else (("seal" : Str), V.ref f) :: (if ("depth" : Str) = "held" then _ else (("depth" : Str), V.int D) :: [(("held" : Str), V.ref d)])) = _
  rw [if_neg (by decide +kernel), if_neg (by decide +kernel)]; rfl
theorem fl_2 (f : Addr) (D : Nat) : (putF "depth" (V.int D) (putF "seal" (.ref f) [])).length = 2 := by
  have e : putF "depth" (.int D) (putF "seal" (.ref f) []) = ([("seal", .ref f), ("depth", .int D)] : List (Str × V)) := by
    show (if ("seal" : Str) = "depth" then _ else (("seal" : Str), V.ref f) :: [(("depth" : Str), V.int D)]) = _
    rw [if_neg (by decide +kernel)]
  rw [e]; rfl
def TabAt (C : Addr) (H : Hp) (x d f : Addr) (D : Nat) (kvs : List (Key × V)) : Prop := (∃ dx, H x = some (.ins C dx (fl f D d))) ∧ H d = some (.dK kvs)
theorem TabAt.up {C : Addr} {S : Sl} {H H' : Hp} {x d f : Addr} {D n : Nat} {kvs : List (Key × V)} (h : TabAt C H x d f D kvs) (g : Gr S n H H') : TabAt C H' x d f D kvs := by
  obtain ⟨⟨dx, h1⟩, h2⟩ := h
  exact ⟨⟨dx, g.same h1 (fun _ e => nomatch e)⟩, g.same h2 (fun _ e => nomatch e)⟩
section
variable {P : Program} {w : World} {K : PySem.W.Frag} {mg : Str → Option Value} {base : Heap} {C : Addr}
def spTI (C : Addr) : Sp := fun vs H Q _ => ∃ (p dx f : Addr) (D : Nat), vs = [.ref p, .ref f, .int D] ∧ H p = some (.ins C dx []) ∧ ∀ d H', H d = none → TabAt C H' p d f D [] → (∀ b o, H b = some o → b ≠ p → H' b = some o) → Q .non H'
theorem scTI : FnScope ["self", "seal", "depth"] ["self", "seal", "depth"] (defScope mInit) := ⟨rfl, rfl, rfl, by decide +kernel, rfl, by decide +kernel, by decide +kernel⟩
theorem ok_tinit {f : Addr} {fd : FuncData} (F : FunD K "__init__" "Table.__init__" mInit f fd [8]) (T : Txt K mg C) : FnOk P w K mg base CX0 1 f fd ["self", "seal", "depth"] (spTI C) := by
  refine F.ok scTI (fun vs H Q E h => ?_) (fun cdv A outer s H vs Q E hr h => ?_)
  · obtain ⟨p, dx, f, D, rfl, _⟩ := h; rfl
  obtain ⟨p, dx, f, D, rfl, hp, k⟩ := h
  refine ⟨_, pss_cons (ps_fld (pv 0) (pv 1) rfl) <| pss_cons (ps_fld (pv 0) (pv 2) rfl) <| pss_one (ps_fld (pv 0) pe_dnewK rfl), ?_⟩
  refine ⟨_, rfl, _, rfl, p, C, dx, [], rfl, hp, T.cl, T.nS, (by show 0 < 1000; decide), ?_⟩
  refine ⟨_, rfl, _, rfl, p, C, dx, _, rfl, upd_same, T.cl, T.nD, (by show 1 < 1000; decide), ?_⟩
  intro d hd
  have npd : p ≠ d := ne_of_none upd_same hd
  have hd0 : H d = none := by rw [upd_ne npd.symm, upd_ne npd.symm] at hd; exact hd
  refine ⟨_, rfl, p, C, dx, _, rfl, (by rw [upd_ne npd, upd_same]), T.cl, T.nH, (by rw [fl_2]; decide), ?_⟩
  refine k d _ hd0 ⟨⟨dx, ?_⟩, ?_⟩ fun b o e hb => ?_
  · rw [upd_same, fl_new]
  · rw [upd_ne npd.symm, upd_same]
  · have b1 : b ≠ d := ne_of_none e hd0
    rw [upd_ne hb, upd_ne b1, upd_ne hb, upd_ne hb]; exact e
def spRows (C : Addr) : Sp := fun vs H Q _ => ∃ (S : Sl) (x d f : Addr) (D : Nat) (kvs : List (Key × V)) (rows : List Rw), vs = [.ref x] ∧ TabAt C H x d f D kvs ∧ Told S H ∧ Rws D kvs ∧ kvs.length < 64 ∧ SrtOf kvs rows ∧
  ∀ l ws H', Gr S 0 H H' → H l = none → H' l = some (.lst ws) → RowsAt H' rows ws → Q (.ref l) H'
theorem scRs : FnScope ["self"] ["self"] (defScope mRows) := ⟨rfl, rfl, rfl, by decide +kernel, rfl, by decide +kernel, by decide +kernel⟩
theorem gr_ext {S : Sl} {H H' : Hp} (t : Told S H) (h : ∀ b o, H b = some o → H' b = some o) : Gr S 0 H H' := ⟨⟨fun b o e _ => h b o e, fun d e => by
    obtain ⟨kvs, q⟩ := t d e
    exact ⟨kvs, [], q, by rw [List.append_nil]; exact h _ _ q, Nat.le_refl _, fun z => by simpa using z⟩⟩, fun b o e _ => h b o e⟩
theorem rows_at {H' : Hp} : ∀ {as : List Addr} {rows : List Rw}, Paired (fun a (r : Int × V) => H' a = some (.tup [.int r.1, r.2])) as (rows.map fun r => (r.1, V.str r.2)) → RowsAt H' rows (as.map V.ref)
  | [], [], .nil => .nil
  | a :: as, r :: rows, .cons h t => .cons ⟨a, rfl, h⟩ (rows_at t)
theorem ok_rows (F : MethAt K C "rows" "Table.rows" mRows) (T : Txt K mg C) (ms : mg "sorted" = none) : MtP P w K mg base C 1 "rows" ["self"] (spRows C) := by
  refine F.ok scRs (fun _ _ _ _ _ _ us hl => match us, hl with | [_], _ => rfl) (fun vs H Q E h => ?_) (fun f0 cdv A outer s H vs Q E hr h => ?_)
  · obtain ⟨S, x, d, f, D, kvs, rows, rfl, _⟩ := h; rfl
  obtain ⟨S, x, d, f, D, kvs, rows, rfl, ⟨⟨dx, h1⟩, h2⟩, ts, hw, hz, hs, q⟩ := h
  refine ⟨_, pss_one (ps_ret (pe_callB (call_sortedI rfl) rfl ms PyProof.Rows.boot_sorted (pa_cons (pe_bm0 PySem.F.plainAttrs_dict PySem.F.slot_dict_items PySem.F.type_dict_items mt_items (pe_fld (pv 0) rfl)) pa_nil))), ?_⟩
  refine ⟨_, rfl, x, C, dx, _, _, rfl, h1, T.cl, T.nH, fl_h _ _ _, .inr (.inr (.inl ⟨rfl, .inl ⟨_, h2⟩⟩)), d, kvs, rfl, rfl, h2, fun p hp => ?_⟩
  have g1 : Gr S 0 H (upd H p (.frz (viewO d) (.own 0))) := .new ts hp
  refine ⟨p, d, kvs, rfl, upd_same, g1.same h2 (fun _ e => nomatch e), hw.ints, hz, fun l as rs H' hx hl hl' pr pw pm => ?_⟩
  have e := hs.uniq pw pm
  subst e
  have g2 : Gr S 0 _ H' := gr_ext g1.gn.told2 hx
  exact q l _ H' (g1.trans g2) (g1.free hl) hl' (rows_at pr)
end
theorem call_dictC {X : Cx} : CallR X (.type "dict") (fun xs H Q => ∃ a kvs, xs = [.ref a] ∧ H a = some (.dK kvs) ∧ ∀ p, H p = none → Q (.ref p) (upd H p (.dK kvs))) := by
  intro pins s σ H xs us Q I r h
  obtain ⟨a, kvs, rfl, ha, q⟩ := h
  obtain ⟨u, rfl, ru⟩ := vals1 r
  obtain rfl : u = Value.ref a := ru
  exact d_copyOf I (.inl ha) fun p s' hp I' => ⟨.ref p, _, I', rfl, q p hp⟩
theorem fl_h2 (f : Addr) (D : Nat) (d e : Addr) : putF "held" (.ref e) (fl f D d) = fl f D e := by
  show (if ("seal" : Str) = "held" then _ else (("seal" : Str), V.ref f) :: (if ("depth" : Str) = "held" then _ else (("depth" : Str), V.int D) :: (if ("held" : Str) = "held" then (("held" : Str), V.ref e) :: [] else _))) = _
  rw [if_neg (by decide +kernel), if_neg (by decide +kernel), if_pos rfl]; rfl
section
variable {P : Program} {w : World} {K : PySem.W.Frag} {mg : Str → Option Value} {base : Heap} {C : Addr}
theorem scTS : FnScope ["seal", "depth", "top"] ["seal", "depth", "top"] (defScope sTabS) := ⟨rfl, rfl, rfl, by decide +kernel, rfl, by decide +kernel, by decide +kernel⟩
theorem ok_tabS (F : FunAt K mg "table_seal" sTabS) (Fl : CallOk P w K mg base CX0 1 (spSeal K mg sNumd)) : FnP P w K mg base 2 "table_seal" ["seal", "depth", "top"] (spMark K mg "table") := by
  refine F.ok scTS (fun _ _ _ _ _ _ us hl => match us, hl with | [_, _, _], _ => rfl) (fun vs H Q E h => ?_) (fun f cdv A outer s H vs Q E hr h => ?_)
  · obtain ⟨S, f, t1, t2, v1, v2, rfl, _⟩ := h; rfl
  obtain ⟨S, f, t1, t2, v1, v2, rfl, hS, hc, i1, i2, q⟩ := h
  refine ⟨_, pss_one (ps_ret (pe_callV (i := 0) Fl hr pass0 rfl (Or.inl rfl) (pa_cons pe_str (pa_cons (pv 1) (pa_cons (pv 2) pa_nil))))), ?_⟩
  exact ⟨f, rfl, hS.fny, _, rfl, _, rfl, hS.fny, S, _, t1, t2, _, _, hS, hc, rfl, i1, i2, q⟩
abbrev tbT (D : Nat) (rows : List Rw) : Tm := .nd "table" (.int (D : Int)) (topP D rows)
def spTHead (K : PySem.W.Frag) (mg : Str → Option Value) (C : Addr) : Sp := fun vs H Q _ => ∃ (S : Sl) (x d f : Addr) (D : Nat) (kvs : List (Key × V)) (rows : List Rw), vs = [.ref x] ∧ TabAt C H x d f D kvs ∧ SealAt K mg sNumd S H f ∧ Rws D kvs ∧ kvs.length < 64 ∧ SrtOf kvs rows ∧ D ≤ 16 ∧ Cap S H (cstP D rows + 1) ∧
  ∀ v H', Gr S (cstP D rows + 1) H H' → isT S H' (tbT D rows) v → Q v H'
theorem scTH : FnScope ["self"] ["self"] (defScope mHead) := ⟨rfl, rfl, rfl, by decide +kernel, rfl, by decide +kernel, by decide +kernel⟩
theorem ok_thead (F : MethAt K C "head" "Table.head" mHead) (T : Txt K mg C) (Fs : FnP P w K mg base 2 "table_seal" ["seal", "depth", "top"] (spMark K mg "table")) (Ft : FnP P w K mg base 19 "top_of_part" ["seal", "rows", "bits"] (spTopA K mg)) (Mr : MtP P w K mg base C 1 "rows" ["self"] (spRows C)) : MtP P w K mg base C 20 "head" ["self"] (spTHead K mg C) := by
  refine F.ok scTH (fun _ _ _ _ _ _ us hl => match us, hl with | [_], _ => rfl) (fun vs H Q E h => ?_) (fun f0 cdv A outer s H vs Q E hr h => ?_)
  · obtain ⟨S, x, d, f, D, kvs, rows, rfl, _⟩ := h; rfl
  obtain ⟨S, x, d, f, D, kvs, rows, rfl, hT, hS, hw, hz, hs, D16, hc, q⟩ := h
  obtain ⟨⟨dx, h1⟩, h2⟩ := id hT
  refine ⟨_, pss_one (ps_ret (pe_callN Fs (hr.mono (by omega)) rfl (pa_cons (pe_fld (pv 0) rfl) (pa_cons (pe_fld (pv 0) rfl) (pa_cons (pe_callN Ft hr rfl (pa_cons (pe_fld (pv 0) rfl) (pa_cons (pe_methN0 Mr (pv 0) T.cl (hr.mono (by omega))) (pa_cons (pe_fld (pv 0) rfl) pa_nil)))) pa_nil))))), ?_⟩
  refine ⟨_, rfl, x, C, dx, _, _, rfl, h1, T.cl, T.nS, fl_s _ _ _, _, rfl, x, C, dx, _, _, rfl, h1, T.cl, T.nD, fl_d _ _ _, _, rfl, x, C, dx, _, _, rfl, h1, T.cl, T.nS, fl_s _ _ _, _, rfl, x, dx, _, rfl, h1, rfl, ?_⟩
  refine ⟨S, x, d, f, D, kvs, rows, rfl, hT, hS.told, hw, hz, hs, fun l ws H1 g1 nl el rl => ?_⟩
  have h11 := g1.same h1 (fun _ e => nomatch e)
  refine ⟨_, rfl, x, C, dx, _, _, rfl, h11, T.cl, T.nD, fl_d _ _ _, D, D16, S, f, l, ws, rows, rfl, hS.up g1.gn, SqL.of el, rl, ?_, hs.okr hw, hc.go g1.gn (by omega), fun v H2 g2 i2 => ?_⟩
  · have := hs.len; omega
  have g12 := g1.trans g2
  exact ⟨S, f, .int (D : Int), _, _, _, rfl, hS.up g12.gn, hc.go g12.gn (by omega), rfl, i2, fun v3 H3 g3 i3 => q v3 H3 ((g12.trans g3).up (by omega)) i3⟩
def spTwin (C : Addr) : Sp := fun vs H Q _ => ∃ (x d f : Addr) (D : Nat) (kvs : List (Key × V)), vs = [.ref x] ∧ TabAt C H x d f D kvs ∧ ∀ y e H', TabAt C H' y e f D kvs → (∀ b o, H b = some o → H' b = some o) → H y = none → H e = none → Q (.ref y) H'
theorem scTw : FnScope ["self", "other"] ["self"] (defScope mTwin) := ⟨rfl, rfl, rfl, by decide +kernel, rfl, by decide +kernel, by decide +kernel⟩
theorem ok_twin {fI : Addr} {fdI : FuncData} (F : MethAt K C "twin" "Table.twin" mTwin) (T : Txt K mg C) (M : Mk K C fI) (GI : FnOk P w K mg base CX0 1 fI fdI ["self", "seal", "depth"] (spTI C)) (bI : Binds K fdI ["self", "seal", "depth"] []) (md : mg "dict" = none) : MtP P w K mg base C 3 "twin" ["self"] (spTwin C) := by
  refine F.ok scTw (fun _ _ _ _ _ _ us hl => match us, hl with | [_], _ => rfl) (fun vs H Q E h => ?_) (fun f0 cdv A outer s H vs Q E hr h => ?_)
  · obtain ⟨x, d, f, D, kvs, rfl, _⟩ := h; rfl
  obtain ⟨x, d, f, D, kvs, rfl, ⟨⟨dx, h1⟩, h2⟩, q⟩ := h
  have nd := scTw.nd
  refine ⟨_, pss_cons (ps_set (i := 1) nd rfl (Or.inl rfl) (pe_make M GI hr rfl T.mgC bI .nil pass0 (pa_cons (pe_fld (pv 0) rfl) (pa_cons (pe_fld (pv 0) rfl) pa_nil)))) <|
    pss_cons (ps_fld (pv 1) (pe_callTy call_dictC rfl md PyProof.Rows.boot_dict (pa_cons (pe_fld (pv 0) rfl) pa_nil)) rfl) <|
    pss_one (ps_ret (pv 1)), ?_⟩
  refine ⟨_, rfl, x, C, dx, _, _, rfl, h1, T.cl, T.nS, fl_s _ _ _, _, rfl, x, C, dx, _, _, rfl, h1, T.cl, T.nD, fl_d _ _ _, fun y dy ny ndy ney => ⟨y, dy, f, D, rfl, upd_same, fun e0 H1 ne0 T1 k1 => ⟨rfl, ?_⟩⟩⟩
  have all1 : ∀ b o, H b = some o → H1 b = some o := fun b o h => k1 b o (by rw [upd_ne (ne_of_none h ny), upd_ne (ne_of_none h ndy)]; exact h) (ne_of_none h ny)
  obtain ⟨⟨dy1, hy1⟩, he1⟩ := T1
  refine ⟨_, rfl, x, C, dx, _, _, rfl, all1 _ _ h1, T.cl, T.nH, fl_h _ _ _, d, kvs, rfl, all1 _ _ h2, fun e he => ?_⟩
  have nye : y ≠ e := ne_of_none hy1 he
  have hy2 : upd H1 e (.dK kvs) y = some (.ins C dy1 (fl f D e0)) := by rw [upd_ne nye]; exact hy1
  refine ⟨_, rfl, y, C, dy1, _, rfl, hy2, T.cl, T.nH, (by show 3 < 1000; decide), ?_⟩
  have hHe : H e = none := by
    cases z : H e with
    | none => rfl
    | some o => rw [all1 _ _ z] at he; cases he
  refine ⟨_, rfl, q y e _ ⟨⟨dy1, ?_⟩, ?_⟩ (fun b o hb => ?_) ny hHe⟩
  · rw [upd_same, fl_h2]
  · rw [upd_ne nye.symm, upd_same]
  · rw [upd_ne (ne_of_none hb ny), upd_ne (ne_of_none hb hHe)]; exact all1 _ _ hb
end
end My
namespace My
open PySem L2
section
variable {P : Program} {w : World} {K : PySem.W.Frag} {mg : Str → Option Value} {base : Heap} {C : Addr}
def spDraw : Sp := fun vs H Q _ => ∃ c k m : Int, vs = [.int c, .int k, .int m] ∧ 0 ≤ k ∧ 0 < m ∧ ∀ (v : Int) H', 0 ≤ v → v < m → (∀ b o, H b = some o → H' b = some o) → Q (.int v) H'
theorem scDr : FnScope ["_law_cell", "_law_k", "_law_many", "_law_primes"] ["_law_cell", "_law_k", "_law_many"] (defScope sDraw) := ⟨rfl, rfl, rfl, by decide +kernel, rfl, by decide +kernel, by decide +kernel⟩
def primes : List Int := [1000003, 1000033, 1000037, 1000039, 1000081, 1000099, 1000117, 1000121, 1000133, 1000151, 1000159, 1000171, 1000183, 1000187, 1000193, 1000199]
theorem primes_pos {j : Nat} {p : Int} (h : primes[j]? = some p) : 0 < p := by
  have key : ∀ p ∈ primes, 0 < p := by decide
  exact key p (List.mem_of_getElem? h)
def drA : Stmt := (defBody sDraw).getD 0 (.Pass ⟨0, 0, 0, 0⟩)
def drB : Stmt := (defBody sDraw).getD 1 (.Pass ⟨0, 0, 0, 0⟩)
theorem dr_eq : defBody sDraw = [drA, drB] := rfl
theorem dr_A : ∃ es x1 p1 p2 p3, drA = .Assign [.Name "_law_primes" p1] (.Tuple es x1 p2) p3 ∧ IntCs es primes :=
  ⟨_, _, _, _, _, rfl, .cons (.cons (.cons (.cons (.cons (.cons (.cons (.cons (.cons (.cons (.cons (.cons (.cons (.cons (.cons (.cons .nil)))))))))))))))⟩
theorem ok_draw (F : FunAt K mg "_law_draw" sDraw) : FnP P w K mg base 1 "_law_draw" ["_law_cell", "_law_k", "_law_many"] spDraw := by
  refine F.ok scDr (fun _ _ _ _ _ _ us hl => match us, hl with | [_, _, _], _ => rfl) (fun vs H Q E h => ?_) (fun f0 cdv A outer s H vs Q E hr h => ?_)
  · obtain ⟨c, k, m, rfl, _⟩ := h; rfl
  obtain ⟨c, k, m, rfl, hk, hm, q⟩ := h
  have nd := scDr.nd
  obtain ⟨es, x1, p1, p2, p3, eA, hes⟩ := dr_A
  rw [dr_eq, eA]
  refine ⟨_, pss_cons (ps_set (i := 3) nd rfl (Or.inl rfl) (pe_tup (pa_ints hes))) <|
    pss_one (ps_ret (pe_op op_mod (pe_op op_mod (pe_op op_add (pe_op op_mul (pv 0) pe_int) (pe_op op_mul (pv 1) pe_int)) (pe_ix ix_tup (pv 3) (pe_op op_mod (pv 1) pe_int) (fun _ _ => rfl))) (pv 2))), ?_⟩
  refine ⟨(by show 16 ≤ sizeLine; decide), fun p hp => ?_⟩
  have hj : (k % 16).toNat < primes.length := by show (k % 16).toNat < 16; omega
  obtain ⟨pr, epr⟩ : ∃ pr, primes[(k % 16).toNat]? = some pr := ⟨_, List.getElem?_eq_getElem hj⟩
  have hpr := primes_pos epr
  have eat : atI (primes.map V.int) (k % 16) = some (.int pr) := by
    have z : atI (primes.map V.int) (((k % 16).toNat : Nat) : Int) = some (.int pr) := atI_nat (by rw [List.getElem?_map, epr]; rfl)
    rw [show (((k % 16).toNat : Nat) : Int) = k % 16 by omega] at z
    exact z
  refine ⟨_, rfl, _, _, rfl, rfl, .inr ⟨by decide, by decide⟩, _, rfl, _, _, rfl, rfl, .inr ⟨by decide, by decide⟩, _, _, rfl, rfl, _, rfl, _, rfl, _, _, rfl, rfl, (by show (0 : Int) < 16; decide), p, primes.map V.int, _, _, rfl, rfl, .inl (.inl upd_same), eat, _, _, rfl, rfl, hpr, _, rfl, _, _, rfl, rfl, hm, ?_⟩
  exact q _ _ (Int.emod_nonneg _ (by omega)) (Int.emod_lt_of_pos _ hm) fun b o e => by rw [upd_ne (ne_of_none e hp)]; exact e
end
def SqF (K : PySem.W.Frag) (H : Hp) (a : Addr) (xs : List V) : Prop := (∃ o, H a = some (.frz o (.lst xs))) ∨ ∀ H', SqL K H' a xs
theorem SqF.sq {K : PySem.W.Frag} {H : Hp} {a : Addr} {xs : List V} (h : SqF K H a xs) : SqL K H a xs := by
  rcases h with ⟨o, h⟩ | h
  · exact .inl (.inr ⟨o, h⟩)
  · exact h H
theorem SqF.up {K : PySem.W.Frag} {S : Sl} {n : Nat} {H H' : Hp} {a : Addr} {xs : List V} (h : SqF K H a xs) (g : Gn S n H H') : SqF K H' a xs := by
  rcases h with ⟨o, h⟩ | h
  · exact .inl ⟨o, g.keep _ _ h rfl⟩
  · exact .inr h
theorem sqF_of {K : PySem.W.Frag} {H : Hp} {a : Addr} {xs : List V} (h : SqL K H a xs) (s : Scr K H a xs) : SqF K H a xs := by
  rcases h with (h | ⟨o, h⟩) | h
  · obtain ⟨its, n, r, z, ⟨u, e⟩ | e⟩ := s
    · rw [h] at e; cases e
    · have hl := r.length
      exact .inr fun H' => .inr ⟨_, its.toArray, n, e, rfl, rfl, rfl, by simp; omega, by simpa using r⟩
  · exact .inl ⟨o, h⟩
  · exact .inr fun H' => .inr h
def Sg (x : Str) : Prop := x.length = 1 ∧ ∀ c ∈ x.cps.toList, 32 ≤ c ∧ c ≤ 126
section
variable {P : Program} {w : World} {K : PySem.W.Frag} {mg : Str → Option Value} {base : Heap}
def spWord : Sp := fun vs H Q _ => ∃ c : Int, vs = [.int c] ∧ ∀ (ys : List Str) H', ys.length ≤ 5 → (∀ y ∈ ys, Sg y) → (∀ b o, H b = some o → H' b = some o) → Q (.str (Txt.join "" ys)) H'
theorem scWd : FnScope ["_law_cell", "_law_some", "_law_many", "_law_kept_here"] ["_law_cell"] (defScope sWord) := ⟨rfl, rfl, rfl, by decide +kernel, rfl, by decide +kernel, by decide +kernel⟩
def wdA : Stmt := (defBody sWord).getD 0 (.Pass ⟨0, 0, 0, 0⟩)
theorem wd_A : ∃ z j p1 p2 p3, wdA = .Assign [.Name "_law_some" p1] (.Constant (.str z) j p2) p3 ∧ z.length = 94 ∧ ∀ c ∈ z.cps.toList, 32 ≤ c ∧ c ≤ 126 := ⟨_, _, _, _, _, rfl, by decide +kernel, by decide +kernel⟩
theorem wd_eq : defBody sWord = wdA :: (defBody sWord).drop 1 := rfl
theorem sg_at {z : Str} (h : ∀ c ∈ z.cps.toList, 32 ≤ c ∧ c ≤ 126) (hz : z.length = 94) {v : Int} (h0 : 0 ≤ v) (h1 : v < 94) : ∃ c, atI z.cps.toList v = some c ∧ Sg ⟨#[c]⟩ := by
  have hl : z.cps.toList.length = 94 := by rw [← hz]; simp [Str.length]
  have hv : v.toNat < z.cps.toList.length := by omega
  refine ⟨z.cps.toList[v.toNat], ?_, rfl, fun c hc => ?_⟩
  · have q := atI_nat (List.getElem?_eq_getElem hv)
    rw [show ((v.toNat : Nat) : Int) = v by omega] at q
    exact q
  · have e : c = z.cps.toList[v.toNat] := by simpa using hc
    rw [e]; exact h _ (List.getElem_mem hv)
theorem sum_ones : ∀ {ys : List Str}, (∀ y ∈ ys, Sg y) → (ys.map (·.length)).sum = ys.length
  | [], _ => rfl
  | y :: ys, h => by
    rw [List.map_cons, List.sum_cons, sum_ones (fun z hz => h z (List.mem_cons_of_mem _ hz)), (h y List.mem_cons_self).1, List.length_cons, Nat.add_comm]
theorem ok_word (F : FunAt K mg "_law_word" sWord) (Fd : FnP P w K mg base 1 "_law_draw" ["_law_cell", "_law_k", "_law_many"] spDraw) (ml : mg "len" = none) (mr : mg "range" = none) : FnP P w K mg base 2 "_law_word" ["_law_cell"] spWord := by
  refine F.ok scWd (fun _ _ _ _ _ _ us hl => match us, hl with | [_], _ => rfl) (fun vs H Q E h => ?_) (fun f0 cdv A outer s H vs Q E hr h => ?_)
  · obtain ⟨c, rfl, _⟩ := h; rfl
  obtain ⟨c, rfl, q⟩ := h
  have nd := scWd.nd
  have hun := hr.un
  obtain ⟨z, j, p1, p2, p3, eA, hz, hzc⟩ := wd_A
  rw [wd_eq, eA]
  refine' ⟨_, pss_cons (ps_set (i := 1) nd rfl (Or.inr rfl) pe_str) <|
    pss_cons (ps_set (i := 2) nd rfl (Or.inr rfl) (pe_callB call_len_str rfl ml PySem.boot_len (pa_cons (pv 1) pa_nil))) <|
    pss_cons (ps_setComp (iz := 3) (ys := ["_law_cell", "_law_some", "_law_many"]) (js := [0, 1, 2]) ?ok (pi_range1 rfl mr (pa_cons (pe_callN Fd hr rfl (pa_cons (pv 0) (pa_cons pe_int (pa_cons pe_int pa_nil)))) pa_nil)) (fun _ _ _ => pts_nil) ?he nd rfl (Or.inl rfl) (Or.inl rfl) rfl) <|
    pss_cons (ps_if (PW.pt (pw_and (pt_cmpR op_neB (pv 3) (pe_lst pa_nil) (nomark _)) (pw_and1 (pt_cmpR op_eq (pe_callN Fd hr rfl (pa_cons (pv 0) (pa_cons pe_int (pa_cons pe_int pa_nil)))) pe_int (nomark _)))))
      (pss_cons (ps_setComp (iz := 3) (ys := []) (js := []) ?ok2 (pi_list (pv 3)) (fun _ _ _ => pts_nil) (fun _ _ _ => pe_str) nd rfl (Or.inl rfl) (Or.inl rfl) rfl) <|
        pss_one (ps_asg (pe_ix ix_str (pv 1) (pe_callN Fd hr rfl (pa_cons (pv 0) (pa_cons pe_int (pa_cons (pv 2) pa_nil)))) (fun _ _ => rfl)) (pg_sub (pv 3) (pe_callN Fd hr rfl (pa_cons (pv 0) (pa_cons pe_int (pa_cons (pe_callB call_len_seq rfl ml PySem.boot_len (pa_cons (pv 3) pa_nil)) pa_nil)))) set_list)))
      pss_nil) <|
    pss_one (ps_ret (pe_bm PySem.F.plainAttrs_str PySem.F.slot_str_join PySem.F.type_str_join mt_join pe_str (pa_cons (pv 3) pa_nil))), ?rd⟩
  case ok =>
    refine ⟨rfl, rfl, rfl, by decide +kernel, by decide +kernel, rfl, by decide +kernel, same_of (fun p hp => ?_), rfl, fun i y h => ?_, rfl⟩
    · simp only [List.mem_cons, List.not_mem_nil, or_false] at hp
      rcases hp with rfl | rfl | rfl <;> rfl
    · match i, h with
      | 0, h => simp at h; subst h; exact ⟨0, rfl, rfl, rfl, rfl⟩
      | 1, h => simp at h; subst h; exact ⟨1, rfl, rfl, rfl, rfl⟩
      | 2, h => simp at h; subst h; exact ⟨2, rfl, rfl, rfl, rfl⟩
      | i + 3, h => simp at h
  case he =>
    exact fun _ _ _ => pe_ix ix_str (pv 2) (pe_callN Fd hr rfl (pa_cons (pv 1) (pa_cons (pe_op op_add pe_int (pe_op op_mod (pv 0) pe_int)) (pa_cons (pv 3) pa_nil)))) (fun _ _ => rfl)
  case ok2 =>
    exact ⟨rfl, rfl, rfl, by decide +kernel, by decide +kernel, rfl, by decide +kernel, fun _ _ h => (nomatch h), rfl, fun i y h => by simp at h, rfl⟩
  case rd =>
  refine ⟨_, rfl, z, rfl, by rw [hz, sizeLine_eq]; decide, ?_⟩
  rw [hz]
  refine ⟨_, rfl, c, 13, 6, rfl, by decide, by decide, fun v1 H1 a1 b1 x1 => ⟨v1, rfl, by omega, by omega, ?_⟩⟩
  -- how the text is told behind
  have fin : ∀ (D : Addr) (ys : List Str) (H' : Hp), ys.length ≤ 5 → (∀ y ∈ ys, Sg y) → H' D = some (.lst (ys.map V.str)) → (∀ b o, H b = some o → H' b = some o) →
      tRet (tBM K "str" (fun x vs H Q => ∃ (z : Str) (p : Addr) (ys : List Str), x = .str z ∧ vs = [.ref p] ∧ SqL K H p (ys.map V.str) ∧ (ys.map (·.length)).sum + ys.length * z.length ≤ 16777216 ∧ Q (.str (Txt.join z ys)) H) (tC (.str "")) (tCons (tVar 3) tNil)) { nx := fun _ H' => Q .non H', rt := Q } [some (.int c), some (.str z), some (.int 94), some (.ref D)] H' := fun D ys H' hl hs hD hx => by
    refine ⟨rfl, _, rfl, "", D, ys, rfl, rfl, SqL.of hD, ?_, q ys H' hl hs hx⟩
    rw [sum_ones hs]
    show ys.length + ys.length * 0 ≤ _
    omega
  refine comp_range (fun D i ys H' => (∀ b o, H b = some o → H' b = some o) ∧ H' D = some (.lst ys) ∧ ∃ zs : List Str, ys = zs.map V.str ∧ zs.length = i ∧ ∀ y ∈ zs, Sg y) (fun D hD => ⟨fun b o e => ?_, upd_same, [], rfl, rfl, by simp⟩) ?_ ?_
  · rw [upd_ne (ne_of_none (x1 _ _ e) hD)]; exact x1 _ _ e
  · rintro D i ys H' Qb hD hi ⟨hx, hD', zs, rfl, hzl, hzs⟩ hq
    have r0 : 0 ≤ ((0 : Int) + (i : Nat)) % 4 := Int.emod_nonneg _ (by decide)
    refine ⟨_, rfl, _, rfl, _, rfl, _, _, rfl, rfl, (by show (0 : Int) < 4; decide), _, _, rfl, rfl, _, rfl, c, _, 94, rfl, by omega, by decide, fun v2 H2 a2 b2 x2 => ?_⟩
    obtain ⟨ch, e1, e2⟩ := sg_at hzc hz a2 b2
    refine ⟨z, v2, ch, rfl, rfl, by rw [hz, sizeLine_eq]; decide, e1, hq _ H2 (x2 _ _ hD') (by rw [sizeLine_eq]; simp; omega) ⟨fun b o e => ?_, upd_same, zs ++ [⟨#[ch]⟩], by simp, by simp; omega, fun y hy => ?_⟩⟩
    · have := x2 _ _ (hx _ _ e)
      rw [upd_ne (by rintro rfl; rw [x1 _ _ e] at hD; cases hD)]; exact this
    · rcases List.mem_append.mp hy with w | w
      · exact hzs y w
      · rw [List.mem_singleton.mp w]; exact e2
  · rintro D ys H' hD ⟨hx, hD', zs, rfl, hzl, hzs⟩
    have hz5 : zs.length ≤ 5 := by omega
    refine ⟨_, rfl, by show 0 ≤ sizeLine; decide, fun p hp => ?_⟩
    have hx' : ∀ b o, H b = some o → upd H' p (.lst []) b = some o := fun b o e => by rw [upd_ne (ne_of_none (hx _ _ e) hp)]; exact hx _ _ e
    have hD2 : upd H' p (.lst []) D = some (.lst (zs.map V.str)) := by rw [upd_ne (ne_of_none hD' hp)]; exact hD'
    refine ⟨1, _, eqB_nil hD2 upd_same, by show (A.deeper (PyProof.Rows.envOfC "_law_word" (defScope sWord) s.heap.objs.size f0 cdv)).units + 1 + 1 < cLine; omega, _, rfl, ?_⟩
    refine ite2 (fun cn => ?_) (fun _ => iteF (fin D zs _ hz5 hzs hD2 hx'))
    have zne : zs ≠ [] := by rintro rfl; simp at cn
    have zpos : 0 < zs.length := List.length_pos_iff.mpr zne
    refine ⟨_, rfl, c, 14, 3, rfl, by decide, by decide, fun v2 H2 a2 b2 x2 => ⟨rfl, _, rfl, ?_⟩⟩
    have hx2 : ∀ b o, H b = some o → H2 b = some o := fun b o e => x2 _ _ (hx' _ _ e)
    have hD3 := x2 _ _ hD2
    refine ite2 (fun _ => ?_) (fun _ => fin D zs _ hz5 hzs hD3 hx2)
    refine ⟨_, rfl, D, rfl, ⟨_, SqL.of hD3⟩, ?_⟩
    refine comp_list (K := K) (xs := zs.map V.str) (fun D2 i ys H' => (∀ b o, H2 b = some o → H' b = some o) ∧ H' D2 = some (.lst ys) ∧ ∃ us : List Str, ys = us.map V.str ∧ us.length = i ∧ ∀ y ∈ us, Sg y) (fun D2 h2 => ⟨fun b o e => ?_, upd_same, [], rfl, rfl, by simp⟩) (fun D2 i ys H' h2 h => SqL.of (h.1 _ _ hD3)) ?_ ?_
    · rw [upd_ne (ne_of_none e h2)]; exact e
    · rintro D2 i x ys H3 Qb h2 hx3 ⟨hxx, hD2', us, rfl, hul, hus⟩ hq
      have hi : i < zs.length := by have := (List.getElem?_eq_some_iff.mp hx3).1; simpa using this
      refine hq _ H3 hD2' (by rw [sizeLine_eq]; simp; omega) ⟨fun b o e => ?_, upd_same, us ++ [("a" : Str)], by simp, by simp; omega, fun y hy => ?_⟩
      · rw [upd_ne (by rintro rfl; rw [e] at h2; cases h2)]; exact hxx _ _ e
      · rcases List.mem_append.mp hy with w | w
        · exact hus y w
        · rw [List.mem_singleton.mp w]; exact ⟨by decide +kernel, by decide +kernel⟩
    · rintro D2 ys H3 h2 ⟨hxx, hD2', us, rfl, hul, hus⟩
      rw [List.length_map] at hul
      refine ⟨_, rfl, _, rfl, _, rfl, c, 12, 94, rfl, by decide, by decide, fun v4 H4 a4 b4 x4 => ?_⟩
      obtain ⟨ch, e1, e2⟩ := sg_at hzc hz a4 b4
      refine ⟨z, v4, ch, rfl, rfl, by rw [hz, sizeLine_eq]; decide, e1, ?_⟩
      have hD4 := x4 _ _ hD2'
      refine ⟨_, rfl, _, rfl, _, rfl, D2, _, rfl, .inl (SqL.of hD4), ?_⟩
      refine ⟨c, 15, _, rfl, by decide, by rw [List.length_map]; omega, fun v5 H5 a5 b5 x5 => ?_⟩
      rw [List.length_map] at b5
      have hD5 := x5 _ _ hD4
      refine ⟨D2, us.map V.str, v5, v5.toNat, rfl, rfl, hD5, ?_, ?_⟩
      · rw [List.length_map]; unfold ixN; rw [if_pos a5, if_pos b5]
      · have es : (us.map V.str).set v5.toNat (.str ⟨#[ch]⟩) = (us.set v5.toNat ⟨#[ch]⟩).map V.str := by rw [List.map_set]
        rw [es]
        refine fin D2 _ _ (by rw [List.length_set]; omega) (fun y hy => ?_) upd_same fun b o e => ?_
        · rcases List.mem_or_eq_of_mem_set hy with w | w
          · exact hus y w
          · rw [w]; exact e2
        · have h6 := x5 _ _ (x4 _ _ (hxx _ _ (hx2 _ _ e)))
          rw [upd_ne (by rintro rfl; rw [hx2 _ _ e] at h2; cases h2)]; exact h6
end
def Gd (lf : Srt) (B : Nat) (t : Tm) : Prop := t.dep ≤ B ∧ WsN lf t
def Pap (lf : Srt) (S : Sl) (H : Hp) (B : Nat) (pv : V) : Option (List Tm) → Prop
  | some os => ∃ b ws, pv = .ref b ∧ H b = some (.lst ws) ∧ isTs S H os ws ∧ ∀ t ∈ os, Gd lf B t
  | none => flatV pv = true ∨ ∃ b ws os, pv = .ref b ∧ H b = some (.tup ws) ∧ isTs S H os ws ∧ ∀ t ∈ os, Gd lf B t
theorem Pap.up {lf : Srt} {S : Sl} {H H' : Hp} {B n : Nat} {pv : V} {po : Option (List Tm)} (h : Pap lf S H B pv po) (g : Gr S n H H') : Pap lf S H' B pv po := by
  cases po with
  | some os =>
    obtain ⟨b, ws, rfl, hb, it, hg⟩ := h
    exact ⟨b, ws, rfl, g.lst hb, isTs_up g.gn it, hg⟩
  | none =>
    rcases h with h | ⟨b, ws, os, rfl, hb, it, hg⟩
    · exact .inl h
    · exact .inr ⟨b, ws, os, rfl, g.gn.keep _ _ hb rfl, isTs_up g.gn it, hg⟩
end My
namespace My
open PySem L2
section
variable {P : Program} {w : World} {K : PySem.W.Frag} {mg : Str → Option Value} {base : Heap}
def spSame : Sp := fun vs H Q _ => ∃ x y n b, vs = [x, y] ∧ EqB H n x y b ∧ n ≤ 400 ∧ Q (.bl b) H
theorem scSa : FnScope ["one", "other"] ["one", "other"] (defScope sSame) := ⟨rfl, rfl, rfl, by decide +kernel, rfl, by decide +kernel, by decide +kernel⟩
theorem ok_same (F : FunAt K mg "same" sSame) (mb : mg "bool" = none) : FnP P w K mg base 20 "same" ["one", "other"] spSame := by
  refine F.ok scSa (fun _ _ _ _ _ _ us hl => match us, hl with | [_, _], _ => rfl) (fun vs H Q E h => ?_) (fun f0 cdv A outer s H vs Q E hr h => ?_)
  · obtain ⟨x, y, n, b, rfl, _⟩ := h; rfl
  obtain ⟨x, y, n, b, rfl, he, hn, q⟩ := h
  have hun := hr.un
  refine ⟨_, pss_one (ps_ret (pe_callTy call_bool1 rfl mb PyProof.Rows.boot_bool (pa_cons (pe_cmpR op_eqB (pv 0) (pv 1) (nomark _)) pa_nil))), ?_⟩
  exact ⟨_, rfl, _, rfl, n, b, he, by show (A.deeper (PyProof.Rows.envOfC "same" (defScope sSame) s.heap.objs.size f0 cdv)).units + n + 1 < cLine; omega, .inr ⟨b, rfl, q⟩⟩
def stB (po : Option (List Tm)) (size place : Int) (th tl : Tm) : Bool := match po with
  | none => false
  | some os => decide (0 ≤ place ∧ place < size ∧ os.length = (Gb.turnsT size.toNat place.toNat).length ∧ Tm.nd "book" (.int size) (Gb.rise prT (Gb.turnsT size.toNat place.toNat).reverse os tl) = th)
def spStands (K : PySem.W.Frag) (mg : Str → Option Value) (lf : Srt) (B : Nat) : Sp := fun vs H Q _ => ∃ S f th vh tl vl pv po, ∃ size place : Int, vs = [.ref f, .int size, vh, .int place, vl, pv] ∧ SealAt K mg sNumd S H f ∧ Cap S H 50 ∧ isT S H th vh ∧ isT S H tl vl ∧ Gd lf B th ∧ Gd lf B tl ∧ Pap lf S H B pv po ∧ size ≤ 2 ^ 40 ∧ B ≤ 300 ∧
  ∀ H', Gr S 50 H H' → Q (.bl (stB po size place th tl)) H'
theorem Pap.notL {lf : Srt} {S : Sl} {H : Hp} {B : Nat} {pv : V} (h : Pap lf S H B pv none) : NotL H pv := by
  rcases h with h | ⟨b, ws, os, rfl, hb, _⟩
  · exact .inl h
  · exact .inr ⟨b, ws, rfl, hb⟩
theorem scLS : FnScope ["seal", "size", "head", "place", "leaf", "path", "top"] ["seal", "size", "head", "place", "leaf", "path"] (defScope sLStands) := ⟨rfl, rfl, rfl, by decide +kernel, rfl, by decide +kernel, by decide +kernel⟩
theorem ok_lstands {cP : Addr} (F : FunAt K mg "leaf_stands" sLStands) (Fr : FnX P w K mg base 3 "risen" ["seal", "leaf", "place", "size", "path"] (spRisen K mg cP)) (Fb : FnP P w K mg base 2 "book_seal" ["seal", "size", "top"] (spMark K mg "book")) (Fs : FnP P w K mg base 20 "same" ["one", "other"] spSame)
    (xc : XCls K cP) (hP : mg "BadPaper" = some (.ref cP)) (lf : Srt) (B : Nat) : FnP P w K mg base 21 "leaf_stands" ["seal", "size", "head", "place", "leaf", "path"] (spStands K mg lf B) := by
  refine F.ok scLS (fun _ _ _ _ _ _ us hl => match us, hl with | [_, _, _, _, _, _], _ => rfl) (fun vs H Q E h => ?_) (fun f0 cdv A outer s H vs Q E hr h => ?_)
  · obtain ⟨S, f, th, vh, tl, vl, pv, po, size, place, rfl, _⟩ := h; rfl
  obtain ⟨S, f, th, vh, tl, vl, pvv, po, size, place, rfl, hS, hc, ih, il, gh, gl, hp, hsz, hB, q⟩ := h
  have nd := scLS.nd
  refine ⟨_, pss_cons (ps_if (PW.pt (pw_or (pt_cmpR op_lt (pv 3) pe_int (nomark _)) (pw_or1 (pt_cmpR op_ge (pv 3) (pv 1) (nomark _))))) (pss_one (ps_ret pe_bl)) pss_nil) <|
    pss_cons (ps_try0 rfl ⟨rfl, rfl⟩ xc rfl hP
      (pssx_cons (psx_set (i := 6) nd rfl (Or.inl rfl) (pex_callN Fr (hr.mono (by omega)) rfl (pa_cons (pv 0) (pa_cons (pv 4) (pa_cons (pv 3) (pa_cons (pv 1) (pa_cons (pv 5) pa_nil))))))) pssx_nil)
      (fun e => pss_one (ps_ret pe_bl))) <|
    pss_one (ps_ret (pe_callN Fs hr rfl (pa_cons (pe_callN Fb (hr.mono (by omega)) rfl (pa_cons (pv 0) (pa_cons (pv 1) (pa_cons (pv 6) pa_nil)))) (pa_cons (pv 2) pa_nil)))), ?_⟩
  have no : ¬ (0 ≤ place ∧ place < size) → ∀ H', Gr S 50 H H' → Q (.bl false) H' := fun hn H' g => by
    have z := q H' g
    have e : stB po size place th tl = false := by
      cases po with
      | none => rfl
      | some os => exact decide_eq_false fun y => hn ⟨y.1, y.2.1⟩
    rw [e] at z; exact z
  refine ⟨_, rfl, _, _, rfl, rfl, _, rfl, ?_⟩
  refine ite2 (fun c => ?_) (fun c => ?_)
  · have c' : place < 0 := of_decide_eq_true c
    exact iteT (no (by omega) H ((Gr.refl hS.told).up (by omega)))
  have c0 : ¬ place < 0 := of_decide_eq_false (Bool.eq_false_iff.mpr c)
  refine ⟨_, rfl, _, rfl, _, _, rfl, rfl, _, rfl, ?_⟩
  refine ite2 (fun c => ?_) (fun c => ?_)
  · have c' : place ≥ size := of_decide_eq_true c
    exact no (by omega) H ((Gr.refl hS.told).up (by omega))
  have c1 : ¬ place ≥ size := of_decide_eq_false (Bool.eq_false_iff.mpr c)
  obtain ⟨pl, rfl⟩ : ∃ pl : Nat, place = (pl : Int) := ⟨place.toNat, by omega⟩
  obtain ⟨sz, rfl⟩ : ∃ sz : Nat, size = (sz : Int) := ⟨size.toNat, by omega⟩
  have hps : pl < sz := by omega
  have hs40 : sz ≤ 2 ^ 40 := by
    have e : ((2 ^ 40 : Nat) : Int) = (2 : Int) ^ 40 := by norm_cast
    omega
  have tl40 := Gb.turns_len 40 sz pl hs40
  refine ⟨_, rfl, _, rfl, _, rfl, _, rfl, _, rfl, S, f, tl, vl, pl, sz, pvv, rfl, hS, il, hps, hs40, ?_⟩
  have bad : ∀ H1, Gr S 0 H H1 → stB po (sz : Int) (pl : Int) th tl = false → Q (.bl false) H1 := fun H1 g e => by
    have z := q H1 (g.up (by omega))
    rw [e] at z; exact z
  cases po with
  | none => exact .inr ⟨.inr hp.notL, fun H1 g => ⟨cP, rfl, rfl, bad H1 g rfl⟩⟩
  | some os =>
    obtain ⟨b, ws, rfl, hb, it, hg⟩ := hp
    have wl := pr_len it
    by_cases hlen : ws.length = (Gb.turnsT sz pl).length
    · refine .inl ⟨b, ws, os, rfl, hb, it, hlen, hc.dn (by omega), fun v H1 g1 i1 => ?_⟩
      refine ⟨_, rfl, _, rfl, _, rfl, S, f, .int sz, _, _, _, rfl, hS.up g1.gn, hc.go g1.gn (by omega), rfl, i1, fun v2 H2 g2 i2 => ?_⟩
      have g12 := g1.trans g2
      have hS2 := hS.up g12.gn
      have hw : WsN lf (.nd "book" (.int sz) (Gb.rise prT (Gb.turnsT sz pl).reverse os tl)) := ws_book (ws_rise (fun t ht => (hg t ht).2) gl.2)
      have rd := rise_dep (B := B) (Gb.turnsT sz pl).reverse os tl 0 (fun t ht => (hg t ht).1) (by have := gl.1; omega)
      rw [List.length_reverse] at rd
      refine ⟨_, rfl, _, _, _, _, rfl, tree_eqB (g := gS lf) (s := .nd) (fun d e => ⟨hw, gh.2, hS2.ints d e⟩) i2 (isT_up g12.gn ih), ?_, ?_⟩
      · show max 0 (Gb.rise prT (Gb.turnsT sz pl).reverse os tl).dep + 1 ≤ 400
        omega
      · have z := q H2 (g12.up (by omega))
        have e : stB (some os) (sz : Int) (pl : Int) th tl = decide (Tm.nd "book" (.int sz) (Gb.rise prT (Gb.turnsT sz pl).reverse os tl) = th) := by
          show decide _ = decide _
          rw [decide_eq_decide]
          exact ⟨fun y => y.2.2.2, fun y => ⟨by omega, by omega, by rw [← pr_len it] at hlen; exact hlen, y⟩⟩
        rw [e] at z; exact z
    · refine .inr ⟨.inl ⟨b, ws, rfl, hb, hlen⟩, fun H1 g => ⟨cP, rfl, rfl, bad H1 g ?_⟩⟩
      exact decide_eq_false fun y => hlen (by rw [← wl]; exact y.2.2.1)
structure TxS (K : PySem.W.Frag) (mg : Str → Option Value) (C cC : Addr) : Prop where
  cl : Cls K C
  n1 : NoAttr K C "place"
  n2 : NoAttr K C "entry"
  n3 : NoAttr K C "behind"
  mgC : mg "Stands" = some (.ref C)
  mgB : mg "Claim" = some (.ref cC)
  fo : PySem.W.findIn K (.ref C) "__class__" = some (some (.builtin "object.__class__"))
  sp : PySem.W.specialIn K (.builtin "object.__class__") "__get__" = some (some (.builtin "getset_descriptor.__get__"))
  tk : PySem.W.takesIn K (.builtin "object.__class__") = some true
  mo : PySem.W.mroIn K C (.type "object") = some true
  kB : PySem.W.kitOne K (.ref C) (.ref cC) = some true
def flS (p : Int) (x : Str) (v : V) : List (Str × V) := [("place", .int p), ("entry", .str x), ("behind", v)]
theorem flS_new (p : Int) (x : Str) (v : V) : putF "behind" v (putF "entry" (.str x) (putF "place" (.int p) [])) = flS p x v := by
  have e : putF "entry" (.str x) (putF "place" (.int p) []) = ([("place", .int p), ("entry", .str x)] : List (Str × V)) := by
    show (if ("place" : Str) = "entry" then _ else (("place" : Str), V.int p) :: [(("entry" : Str), V.str x)]) = _
    rw [if_neg (by decide +kernel)]
  rw [e]
  show (if ("place" : Str) = "behind" then _ else (("place" : Str), V.int p) :: (if ("entry" : Str) = "behind" then _ else (("entry" : Str), V.str x) :: [(("behind" : Str), v)])) = _
  rw [if_neg (by decide +kernel), if_neg (by decide +kernel)]; rfl
theorem flS_2 (p : Int) (x : Str) : (putF "entry" (V.str x) (putF "place" (.int p) [])).length = 2 := by
  have e : putF "entry" (.str x) (putF "place" (.int p) []) = ([("place", .int p), ("entry", .str x)] : List (Str × V)) := by
    show (if ("place" : Str) = "entry" then _ else (("place" : Str), V.int p) :: [(("entry" : Str), V.str x)]) = _
    rw [if_neg (by decide +kernel)]
  rw [e]; rfl
def StAt (C : Addr) (H : Hp) (x : Addr) (p : Int) (z : Str) (v : V) : Prop := ∃ dx, H x = some (.ins C dx (flS p z v))
theorem StAt.up {C : Addr} {S : Sl} {H H' : Hp} {x : Addr} {p : Int} {z : Str} {v : V} {n : Nat} (h : StAt C H x p z v) (g : Gr S n H H') : StAt C H' x p z v := by
  obtain ⟨dx, h⟩ := h
  exact ⟨dx, g.same h (fun _ e => nomatch e)⟩
variable {C cC : Addr}
def spSI (C : Addr) : Sp := fun vs H Q _ => ∃ (p dx : Addr) (pl : Int) (z : Str) (v : V), vs = [.ref p, .int pl, .str z, v] ∧ H p = some (.ins C dx []) ∧ ∀ H', StAt C H' p pl z v → (∀ b o, H b = some o → b ≠ p → H' b = some o) → Q .non H'
theorem scSI : FnScope ["self", "place", "text", "table"] ["self", "place", "text", "table"] (defScope mSInit) := ⟨rfl, rfl, rfl, by decide +kernel, rfl, by decide +kernel, by decide +kernel⟩
theorem ok_sinit (F : MethAt K C "__init__" "Stands.__init__" mSInit) (T : TxS K mg C cC) : MtP P w K mg base C 1 "__init__" ["self", "place", "text", "table"] (spSI C) := by
  refine F.ok scSI (fun _ _ _ _ _ _ us hl => match us, hl with | [_, _, _, _], _ => rfl) (fun vs H Q E h => ?_) (fun f0 cdv A outer s H vs Q E hr h => ?_)
  · obtain ⟨p, dx, pl, z, v, rfl, _⟩ := h; rfl
  obtain ⟨p, dx, pl, z, v, rfl, hp, k⟩ := h
  refine ⟨_, pss_cons (ps_fld (pv 0) (pv 1) rfl) <| pss_cons (ps_fld (pv 0) (pv 2) rfl) <| pss_one (ps_fld (pv 0) (pv 3) rfl), ?_⟩
  refine ⟨_, rfl, _, rfl, p, C, dx, [], rfl, hp, T.cl, T.n1, (by show 0 < 1000; decide), ?_⟩
  refine ⟨_, rfl, _, rfl, p, C, dx, _, rfl, upd_same, T.cl, T.n2, (by show 1 < 1000; decide), ?_⟩
  refine ⟨_, rfl, _, rfl, p, C, dx, _, rfl, upd_same, T.cl, T.n3, (by rw [flS_2]; decide), ?_⟩
  refine k _ ⟨dx, ?_⟩ fun b o e hb => ?_
  · rw [upd_same, flS_new]
  · rw [upd_ne hb, upd_ne hb, upd_ne hb]; exact e
def spSJ (K : PySem.W.Frag) (mg : Str → Option Value) (C : Addr) (lf : Srt) (B : Nat) : Sp := fun vs H Q _ => ∃ S x f th vh ti vi pv po, ∃ size place : Int, ∃ z : Str, vs = [.ref x, .ref f, .int size, vh, pv] ∧ StAt C H x place z vi ∧ SealAt K mg sNumd S H f ∧ Cap S H 51 ∧ isT S H th vh ∧ isT S H ti vi ∧ Gd lf B th ∧ Gd lf B (.nd "leaf" (.str z) ti) ∧ Pap lf S H B pv po ∧ size ≤ 2 ^ 40 ∧ B ≤ 300 ∧
  ∀ H', Gr S 51 H H' → Q (.bl (stB po size place th (.nd "leaf" (.str z) ti))) H'
theorem scSJ : FnScope ["self", "seal", "size", "head", "paper", "leaf"] ["self", "seal", "size", "head", "paper"] (defScope mSJudged) := ⟨rfl, rfl, rfl, by decide +kernel, rfl, by decide +kernel, by decide +kernel⟩
theorem ok_sjudged (F : MethAt K C "judged" "Stands.judged" mSJudged) (T : TxS K mg C cC) (Fl : FnP P w K mg base 2 "leaf_seal" ["seal", "text", "table"] (spMark K mg "leaf")) (lf : Srt) (B : Nat) (Fs : FnP P w K mg base 21 "leaf_stands" ["seal", "size", "head", "place", "leaf", "path"] (spStands K mg lf B)) :
    MtP P w K mg base C 22 "judged" ["self", "seal", "size", "head", "paper"] (spSJ K mg C lf B) := by
  refine F.ok scSJ (fun _ _ _ _ _ _ us hl => match us, hl with | [_, _, _, _, _], _ => rfl) (fun vs H Q E h => ?_) (fun f0 cdv A outer s H vs Q E hr h => ?_)
  · obtain ⟨S, x, f, th, vh, ti, vi, pv, po, size, place, z, rfl, _⟩ := h; rfl
  obtain ⟨S, x, f, th, vh, ti, vi, pvv, po, size, place, z, rfl, ⟨dx, hx⟩, hS, hc, ih, ii, gh, gl, hp, hsz, hB, q⟩ := h
  have nd := scSJ.nd
  refine ⟨_, pss_cons (ps_set (i := 5) nd rfl (Or.inl rfl) (pe_callN Fl (hr.mono (by omega)) rfl (pa_cons (pv 1) (pa_cons (pe_fld (pv 0) rfl) (pa_cons (pe_fld (pv 0) rfl) pa_nil))))) <|
    pss_one (ps_ret (pe_callN Fs hr rfl (pa_cons (pv 1) (pa_cons (pv 2) (pa_cons (pv 3) (pa_cons (pe_fld (pv 0) rfl) (pa_cons (pv 5) (pa_cons (pv 4) pa_nil)))))))), ?_⟩
  refine ⟨_, rfl, _, rfl, x, C, dx, _, _, rfl, hx, T.cl, T.n2, rfl, _, rfl, x, C, dx, _, _, rfl, hx, T.cl, T.n3, rfl, S, f, .str z, ti, _, _, rfl, hS, hc.dn (by omega), rfl, ii, fun v H1 g1 i1 => ?_⟩
  have hx1 := g1.same hx (fun _ e => nomatch e)
  exact ⟨_, rfl, _, rfl, _, rfl, _, rfl, x, C, dx, _, _, rfl, hx1, T.cl, T.n1, rfl, _, rfl, _, rfl, S, f, th, vh, _, _, pvv, po, size, place, rfl, hS.up g1.gn, hc.go g1.gn (by omega), isT_up g1.gn ih, i1, gh, gl, hp.up g1, hsz, hB, fun H2 g2 => q H2 ((g1.trans g2).up (by omega))⟩
end
section
variable {P : Program} {w : World} {K : PySem.W.Frag} {mg : Str → Option Value} {base : Heap}
def spGturns : Sp := fun vs H Q _ => ∃ old n : Nat, vs = [.int old, .int n] ∧ 1 ≤ old ∧ n ≤ 2 ^ 40 ∧ ∀ r, H r = none → Q (.ref r) (upd H r (.lst ((Gb.gturnsT n old).map tV)))
theorem scGt : FnScope ["old", "size", "turns", "first"] ["old", "size"] (defScope sGturns) := ⟨rfl, rfl, rfl, by decide +kernel, rfl, by decide +kernel, by decide +kernel⟩
theorem ok_gturns (F : FunAt K mg "growth_turns" sGturns) (Fs : FnP P w K mg base 1 "split" ["size"] spSplit) : FnP P w K mg base 2 "growth_turns" ["old", "size"] spGturns := by
  refine F.ok scGt (fun _ _ _ _ _ _ us hl => match us, hl with | [_, _], _ => rfl) (fun vs H Q E h => ?_) (fun f cdv A outer s H vs Q E hr h => ?_)
  · obtain ⟨p, n, rfl, _⟩ := h; rfl
  obtain ⟨p, n, rfl, hp, hn, q⟩ := h
  have nd := scGt.nd
  refine ⟨_, pss_cons (ps_set (i := 2) nd rfl (Or.inl rfl) (pe_lst pa_nil)) <|
    pss_cons (ps_while PassesOwn.never (pt_cmpR op_lt (pv 0) (pv 1) (nomark _)) <|
      pss_cons (ps_set (i := 3) nd rfl (Or.inl rfl) (pe_callN Fs hr rfl (pa_cons (pv 1) pa_nil))) <|
      pss_one (ps_if (pt_cmpR op_le (pv 0) (pv 3) (nomark _))
        (pss_cons (ps_expr (pe_bm PySem.F.plainAttrs_list PySem.F.slot_list_append PySem.F.type_list_append mt_append (pv 2) (pa_cons pe_str pa_nil))) <| pss_one (ps_set (i := 1) nd rfl (Or.inl rfl) (pv 3)))
        (pss_cons (ps_expr (pe_bm PySem.F.plainAttrs_list PySem.F.slot_list_append PySem.F.type_list_append mt_append (pv 2) (pa_cons pe_str pa_nil))) <| pss_cons (ps_set (i := 0) nd rfl (Or.inl rfl) (pe_op op_sub (pv 0) (pv 3))) <| pss_one (ps_set (i := 1) nd rfl (Or.inl rfl) (pe_op op_sub (pv 1) (pv 3)))))) <|
    pss_one (ps_ret (pv 2)), ?_⟩
  have tl := Gb.gturns_len 40 n p hn
  refine ⟨by show 0 ≤ sizeLine; decide, fun r hr0 => ?_⟩
  refine while_by (fun σ H' => ∃ p' n' : Nat, ∃ pre o3, σ = [some (.int p'), some (.int n'), some (.ref r), o3] ∧ H' = upd H r (.lst pre) ∧ pre ++ (Gb.gturnsT n' p').map tV = (Gb.gturnsT n p).map tV ∧ 1 ≤ p' ∧ n' ≤ n)
    (fun σ _ => match σ with | [_, some (.int k), _, _] => k.toNat | _ => 0) ⟨p, n, [], none, rfl, rfl, rfl, hp, Nat.le_refl _⟩ ?_ ?_
  · rintro σ H' ⟨p', n', pre, o3, rfl, rfl, hpre, hp', hn'⟩
    refine ⟨_, rfl, _, rfl, _, _, rfl, rfl, _, rfl, ?_⟩
    have plen : pre.length ≤ 40 := by
      have z := congrArg List.length hpre
      rw [List.length_append, List.length_map, List.length_map] at z
      omega
    refine ite2 (fun c => ?_) (fun c => ?_)
    · have c' : (p' : Int) < (n' : Int) := of_decide_eq_true c
      have h2 : 2 ≤ n' := by omega
      have x1 := Gb.spl_lt h2
      have x2 := Gb.spl_pos n'
      have big : n' < 2 ^ 60 := Nat.lt_of_le_of_lt (Nat.le_trans hn' hn) (by decide)
      refine ⟨_, rfl, _, rfl, by omega, by omega, ?_⟩
      rw [show ((n' : Nat) : Int).toNat = n' from rfl]
      refine ⟨_, rfl, _, rfl, _, _, rfl, rfl, _, rfl, ?_⟩
      refine ite2 (fun c => ?_) (fun c => ?_)
      · have c2 : (p' : Int) ≤ (Gb.spl n' : Nat) := of_decide_eq_true c
        refine ⟨_, rfl, .inl ⟨rfl, _, SqL.of (K := K) upd_same⟩, r, pre, _, rfl, rfl, upd_same, by rw [sizeLine_eq]; omega, ?_⟩
        refine ⟨_, rfl, ⟨p', Gb.spl n', pre ++ [tV true], _, rfl, by rw [upd_upd]; rfl, ?_, by omega, by omega⟩, ?_⟩
        · rw [← hpre, Gb.gturnsT_low (by omega) h2 (by omega)]; simp
        · show ((Gb.spl n' : Nat) : Int).toNat < ((n' : Nat) : Int).toNat
          omega
      · have c2 : ¬ (p' : Int) ≤ (Gb.spl n' : Nat) := of_decide_eq_false (Bool.eq_false_iff.mpr c)
        refine ⟨_, rfl, .inl ⟨rfl, _, SqL.of (K := K) upd_same⟩, r, pre, _, rfl, rfl, upd_same, by rw [sizeLine_eq]; omega, ?_⟩
        refine ⟨_, rfl, _, rfl, _, _, rfl, rfl, _, rfl, _, rfl, _, _, rfl, rfl, ⟨p' - Gb.spl n', n' - Gb.spl n', pre ++ [tV false], some (.int (Gb.spl n' : Nat)), ?_, by rw [upd_upd]; rfl, ?_, by omega, by omega⟩, ?_⟩
        · show [some (V.int ((p' : Int) - (Gb.spl n' : Nat))), some (V.int ((n' : Int) - (Gb.spl n' : Nat))), _, _] = _
          rw [show (p' : Int) - (Gb.spl n' : Nat) = ((p' - Gb.spl n' : Nat) : Int) by omega, show (n' : Int) - (Gb.spl n' : Nat) = ((n' - Gb.spl n' : Nat) : Int) by omega]
        · rw [← hpre, Gb.gturnsT_high (by omega) h2 (by omega)]; simp
        · show ((n' : Int) - (Gb.spl n' : Nat)).toNat < ((n' : Nat) : Int).toNat
          omega
    · have c' : ¬ (p' : Int) < (n' : Int) := of_decide_eq_false (Bool.eq_false_iff.mpr c)
      refine ⟨_, rfl, ?_⟩
      rw [Gb.gturnsT_end (.inl (show n' ≤ p' by omega))] at hpre
      have e : pre = (Gb.gturnsT n p).map tV := by simpa using hpre
      rw [e]
      exact q r hr0
  · rintro σ H' Q1 Q2 hq ⟨v, e1, v2, e4, i, j, e2, e3, k, e7, z⟩
    exact ⟨v, e1, v2, e4, i, j, e2, e3, k, e7, hq _ _ z⟩
def spGrown (K : PySem.W.Frag) (mg : Str → Option Value) (cP : Addr) : Sp := fun vs H Q E => ∃ S f, ∃ p n : Nat, ∃ pv, vs = [.ref f, .int p, .int n, pv] ∧ SealAt K mg sNumd S H f ∧ 1 ≤ p ∧ n ≤ 2 ^ 40 ∧
  ((∃ b ws g0 os, pv = .ref b ∧ H b = some (.lst ws) ∧ isTs S H (g0 :: os) ws ∧ os.length = (Gb.gturnsT n p).length ∧ Cap S H (2 * os.length) ∧ ∀ r v1 v2 H', Gr S (2 * os.length) H H' → H' r = some (.tup [v1, v2]) → isT S H' (Gb.riseG prT (Gb.gturnsT n p).reverse os (g0, g0)).1 v1 → isT S H' (Gb.riseG prT (Gb.gturnsT n p).reverse os (g0, g0)).2 v2 → Q (.ref r) H') ∨
   (((∃ b ws, pv = .ref b ∧ H b = some (.lst ws) ∧ ws.length ≠ (Gb.gturnsT n p).length + 1) ∨ NotL H pv) ∧ ∀ H', Gr S 0 H H' → E (.ref cP) none H'))
theorem scGrn : FnScope ["seal", "old", "size", "growth", "turns", "before", "after", "turn", "other"] ["seal", "old", "size", "growth"] (defScope sGrown) := ⟨rfl, rfl, rfl, by decide +kernel, rfl, by decide +kernel, by decide +kernel⟩
theorem ok_grown {cP : Addr} (F : FunAt K mg "grown" sGrown) (Ft : FnP P w K mg base 2 "growth_turns" ["old", "size"] spGturns) (Fp : FnP P w K mg base 2 "pair_seal" ["seal", "first", "rest"] (spPair K mg))
    (xc : XCls K cP) (hP : mg "BadPaper" = some (.ref cP)) (ml : mg "len" = none) (mli : mg "list" = none) (mi : mg "isinstance" = none) (mz : mg "zip" = none) (mre : mg "reversed" = none) : FnX P w K mg base 3 "grown" ["seal", "old", "size", "growth"] (spGrown K mg cP) := by
  refine F.okX scGrn (fun _ _ _ _ _ _ us hl => match us, hl with | [_, _, _, _], _ => rfl) (fun vs H Q E h => ?_) (fun f0 cdv A outer s H vs Q E hr h => ?_)
  · obtain ⟨S, f, p, n, pv, rfl, _⟩ := h; rfl
  obtain ⟨S, f, p, n, pvv, rfl, hS, hp, hn, h⟩ := h
  have nd := scGrn.nd
  refine ⟨_, pss_cons (ps_set (i := 4) nd rfl (Or.inl rfl) (pe_callN Ft hr rfl (pa_cons (pv 1) (pa_cons (pv 2) pa_nil)))) <|
    pss_cons (ps_if (pt_not (pt_val (pe_callB call_isinst rfl mi PyProof.Rows.boot_isinstance (pa_cons (pv 3) (pa_cons (pe_ty rfl mli PyProof.Rows.boot_list) pa_nil)))))
      (pss_one (ps_raise raises_cx hr.hd xc rfl hP (pa_cons pe_str pa_nil))) pss_nil) <|
    pss_cons (ps_if (pt_cmpR op_ne (pe_callB call_len_seq rfl ml PySem.boot_len (pa_cons (pv 3) pa_nil)) (pe_op op_add (pe_callB call_len_seq rfl ml PySem.boot_len (pa_cons (pv 4) pa_nil)) pe_int) (nomark _))
      (pss_one (ps_raise raises_cx hr.hd xc rfl hP (pa_cons pe_str pa_nil))) pss_nil) <|
    pss_cons (ps_set (i := 5) nd rfl (Or.inl rfl) (pe_ix ix_list (pv 3) pe_int (fun _ _ => rfl))) <|
    pss_cons (ps_set (i := 6) nd rfl (Or.inl rfl) (pe_ix ix_list (pv 3) pe_int (fun _ _ => rfl))) <|
    pss_cons (ps_for PassesOwn.leaving rfl (pi_zipRev rfl mz rfl mre (pv 4) (pe_slice sl_list (pv 3) (po_some pe_int) po_none)) (pg_tup rfl (pgs_cons (pg_name (i := 7) nd rfl (Or.inl rfl)) (pgs_cons (pg_name (i := 8) nd rfl (Or.inl rfl)) pgs_nil))) <|
      pss_one (ps_if (pt_cmpR op_eq (pv 7) pe_str (nomark _))
        (pss_one (ps_set (i := 6) nd rfl (Or.inl rfl) (pe_callN Fp hr rfl (pa_cons (pv 0) (pa_cons (pv 6) (pa_cons (pv 8) pa_nil))))))
        (pss_cons (ps_set (i := 5) nd rfl (Or.inl rfl) (pe_callN Fp hr rfl (pa_cons (pv 0) (pa_cons (pv 8) (pa_cons (pv 5) pa_nil))))) <| pss_one (ps_set (i := 6) nd rfl (Or.inl rfl) (pe_callN Fp hr rfl (pa_cons (pv 0) (pa_cons (pv 8) (pa_cons (pv 6) pa_nil)))))))) <|
    pss_one (ps_ret (pe_tup (pa_cons (pv 5) (pa_cons (pv 6) pa_nil)))), ?_⟩
  refine ⟨_, rfl, _, rfl, p, n, rfl, hp, hn, fun r hr0 => ?_⟩
  have g1 : Gr S 0 H (upd H r (.lst ((Gb.gturnsT n p).map tV))) := .new hS.told hr0
  rcases h with ⟨b, ws, g0, os, rfl, hb, hos, hlen, hc, q⟩ | ⟨⟨b, ws, rfl, hb, hne⟩ | hnl, q⟩
  · have hb1 := g1.lst hb
    have ho := pr_len hos
    rw [List.length_cons] at ho
    refine ⟨_, rfl, _, _, _, _, rfl, .lst hb1, kit_ll, _, rfl, ?_⟩
    refine iteF ?_
    refine ⟨_, rfl, b, ws, rfl, .inl (SqL.of hb1), _, rfl, r, _, rfl, .inl (SqL.of upd_same), _, _, rfl, rfl, rfl, _, rfl, ?_⟩
    rw [List.length_map, decide_eq_true (show V.int (ws.length : Int) = V.int (((Gb.gturnsT n p).length : Int) + 1) from congrArg V.int (by omega))]
    refine iteF ?_
    obtain ⟨w0, wr, rfl, i0, ir⟩ : ∃ w0 wr, ws = w0 :: wr ∧ isT S H g0 w0 ∧ isTs S H os wr := by
      cases hos with
      | cons a t => exact ⟨_, _, rfl, a, t⟩
    refine ⟨_, rfl, b, _, _, w0, rfl, rfl, SqL.of hb1, atI_nat (j := 0) rfl, _, rfl, b, _, _, w0, rfl, rfl, SqL.of hb1, atI_nat (j := 0) rfl, ?_⟩
    refine ⟨_, rfl, r, _, rfl, SqL.of upd_same, _, rfl, _, rfl, b, _, rfl, SqL.of hb1, fun p2 hp2 => ?_⟩
    have ec : cutV (w0 :: wr) (some (1 : Int)) none = wr := cut_drop (xs := w0 :: wr) (k := 1)
    rw [ec]
    have g2 : Gr S 0 _ (upd (upd H r (.lst ((Gb.gturnsT n p).map tV))) p2 (.lst wr)) := .new g1.gn.told2 hp2
    have g12 := g1.trans g2
    have hr2 := g2.lst (show upd H r (.lst ((Gb.gturnsT n p).map tV)) r = some (.lst ((Gb.gturnsT n p).map tV)) from upd_same)
    have ol := pr_len ir
    refine ⟨p2, wr, rfl, SqL.of hr2, SqL.of upd_same, by rw [List.length_map]; omega, ?_⟩
    have hc2 : Cap S (upd (upd H r (.lst ((Gb.gturnsT n p).map tV))) p2 (.lst wr)) (2 * os.length) := hc.go g12.gn (by omega)
    refine for_zipR (by rw [List.length_map]; omega) (fun i σ H' => Gr S (2 * i) (upd (upd H r (.lst ((Gb.gturnsT n p).map tV))) p2 (.lst wr)) H' ∧ ∃ v1 v2 o7 o8, σ = [some (.ref f), some (.int p), some (.int n), some (.ref b), some (.ref r), some v1, some v2, o7, o8] ∧
        isT S H' (Gb.riseG prT ((Gb.gturnsT n p).reverse.take i) (os.take i) (g0, g0)).1 v1 ∧ isT S H' (Gb.riseG prT ((Gb.gturnsT n p).reverse.take i) (os.take i) (g0, g0)).2 v2)
      ⟨.refl g12.gn.told2, w0, w0, none, none, rfl, isT_up g12.gn i0, isT_up g12.gn i0⟩ (fun i σ H' _ h => ⟨SqL.of (h.1.lst hr2), SqL.of (h.1.lst upd_same)⟩) ?_ ?_
    · rintro i u v pp σ H2 hi hu hv hpp ⟨g3, v1, v2, o7, o8, rfl, it1, it2⟩
      rw [List.length_map] at hi hu
      obtain ⟨tb, htb, rfl⟩ : ∃ tb, (Gb.gturnsT n p).reverse[i]? = some tb ∧ u = tV tb := by
        rw [List.getElem?_map] at hu
        rw [List.getElem?_reverse hi]
        cases z : (Gb.gturnsT n p)[(Gb.gturnsT n p).length - 1 - i]? with
        | none => rw [z] at hu; cases hu
        | some tb => rw [z] at hu; exact ⟨tb, rfl, (Option.some.inj hu).symm⟩
      obtain ⟨to, hto, ito⟩ := pr_get2 ir hv
      have g4 : Gr S 0 H2 (upd H2 pp (.tup [tV tb, v])) := .new g3.gn.told2 hpp
      have g14 := (g12.trans g3).trans g4
      have hS4 := hS.up g14.gn
      have c4 : Cap S (upd H2 pp (.tup [tV tb, v])) 2 := hc.go g14.gn (by omega)
      have j1 := isT_up g4.gn it1
      have j2 := isT_up g4.gn it2
      have ioth := isT_up g14.gn ito
      refine ⟨pp, _, rfl, SqT.of upd_same, rfl, _, _, rfl, _, _, rfl, rfl, _, rfl, rfl, _, rfl, ?_⟩
      have step := Gb.riseG_take prT (p := (g0, g0)) (by rw [List.length_reverse]; omega) htb hto
      cases tb with
      | true =>
        rw [show decide (tV true = V.str "first") = true from rfl]
        refine iteT ?_
        refine ⟨_, rfl, _, rfl, _, rfl, S, f, _, _, _, _, rfl, hS4, c4.dn (by omega), j2, ioth, fun v3 H3 g5 i3 => ⟨(g3.trans (g4.trans g5)).up (by omega), v1, v3, _, _, rfl, ?_, ?_⟩⟩
        · rw [step]; exact isT_up g5.gn j1
        · rw [step]; exact i3
      | false =>
        rw [show decide (tV false = V.str "first") = false from by decide]
        refine iteF ?_
        refine ⟨_, rfl, _, rfl, _, rfl, S, f, _, _, _, _, rfl, hS4, c4.dn (by omega), ioth, j1, fun v3 H3 g5 i3 => ?_⟩
        refine ⟨_, rfl, _, rfl, _, rfl, S, f, _, _, _, _, rfl, hS4.up g5.gn, c4.go g5.gn (by omega), isT_up g5.gn ioth, isT_up g5.gn j2, fun v4 H4 g6 i4 => ⟨(g3.trans (g4.trans (g5.trans g6))).up (by omega), v3, v4, _, _, rfl, ?_, ?_⟩⟩
        · rw [step]; exact isT_up g6.gn i3
        · rw [step]; exact i4
    · rintro σ H2 ⟨g3, v1, v2, o7, o8, rfl, it1, it2⟩
      rw [List.length_map] at g3 it1 it2
      rw [List.take_of_length_le (by rw [List.length_reverse]; omega), List.take_of_length_le (by omega)] at it1 it2
      refine ⟨_, rfl, _, rfl, (by show 2 ≤ sizeLine; decide), fun p4 hp4 => ?_⟩
      have g4 : Gr S 0 H2 (upd H2 p4 (.tup [v1, v2])) := .new g3.gn.told2 hp4
      exact q p4 v1 v2 _ (((g12.trans g3).trans g4).up (by omega)) upd_same (isT_up g4.gn it1) (isT_up g4.gn it2)
  · have hb1 := g1.lst hb
    refine ⟨_, rfl, _, _, _, _, rfl, .lst hb1, kit_ll, _, rfl, ?_⟩
    refine iteF ?_
    refine ⟨_, rfl, b, ws, rfl, .inl (SqL.of hb1), _, rfl, r, _, rfl, .inl (SqL.of upd_same), _, _, rfl, rfl, rfl, _, rfl, ?_⟩
    rw [List.length_map, decide_eq_false (show ¬ V.int (ws.length : Int) = V.int (((Gb.gturnsT n p).length : Int) + 1) from fun z => hne (by injection z with z; omega))]
    refine iteT ?_
    exact ⟨by show 1 ≤ sizeLine; decide, q _ g1⟩
  · obtain ⟨T, hT, hk⟩ := (hnl.new (o := .lst ((Gb.gturnsT n p).map tV)) hr0).ty K
    refine ⟨_, rfl, _, _, _, _, rfl, hT, hk, _, rfl, ?_⟩
    refine iteT ?_
    exact ⟨by show 1 ≤ sizeLine; decide, q _ g1⟩
end
abbrev mtT : Tm := .nd "book" (.int 0) nlT
def grB (po : Option (List Tm)) (size old : Int) (th te : Tm) : Bool := match po with
  | none => false
  | some [] => decide (old = 0 ∧ (size = 0 → mtT = th) ∧ mtT = te)
  | some (g0 :: os) => decide (0 < old ∧ old ≤ size ∧ os.length = (Gb.gturnsT size.toNat old.toNat).length ∧ Tm.nd "book" (.int old) (Gb.riseG prT (Gb.gturnsT size.toNat old.toNat).reverse os (g0, g0)).1 = te ∧ Tm.nd "book" (.int size) (Gb.riseG prT (Gb.gturnsT size.toNat old.toNat).reverse os (g0, g0)).2 = th)
theorem gr_cons0 {g0 : Tm} {os : List Tm} {size : Int} {th te : Tm} : grB (some (g0 :: os)) size 0 th te = false := by unfold grB; exact decide_eq_false fun y => absurd y.1 (by omega)
theorem gr_nil1 {size old : Int} {th te : Tm} (h : old ≠ 0) : grB (some []) size old th te = false := by unfold grB; exact decide_eq_false fun y => h y.1
structure TxG (K : PySem.W.Frag) (mg : Str → Option Value) (C cC : Addr) : Prop where
  cl : Cls K C
  n1 : NoAttr K C "old"
  n2 : NoAttr K C "early"
  mgC : mg "Grows" = some (.ref C)
  mgB : mg "Claim" = some (.ref cC)
  fo : PySem.W.findIn K (.ref C) "__class__" = some (some (.builtin "object.__class__"))
  sp : PySem.W.specialIn K (.builtin "object.__class__") "__get__" = some (some (.builtin "getset_descriptor.__get__"))
  tk : PySem.W.takesIn K (.builtin "object.__class__") = some true
  mo : PySem.W.mroIn K C (.type "object") = some true
  kB : PySem.W.kitOne K (.ref C) (.ref cC) = some true
def flG (p : Int) (v : V) : List (Str × V) := [("old", .int p), ("early", v)]
theorem flG_new (p : Int) (v : V) : putF "early" v (putF "old" (.int p) []) = flG p v := by
  show (if ("old" : Str) = "early" then _ else (("old" : Str), V.int p) :: [(("early" : Str), v)]) = _
  rw [if_neg (by decide +kernel)]; rfl
def GrAt (C : Addr) (H : Hp) (x : Addr) (p : Int) (v : V) : Prop := ∃ dx, H x = some (.ins C dx (flG p v))
section
variable {P : Program} {w : World} {K : PySem.W.Frag} {mg : Str → Option Value} {base : Heap} {C cC : Addr}
def spGI (C : Addr) : Sp := fun vs H Q _ => ∃ (p dx : Addr) (pl : Int) (v : V), vs = [.ref p, .int pl, v] ∧ H p = some (.ins C dx []) ∧ ∀ H', GrAt C H' p pl v → (∀ b o, H b = some o → b ≠ p → H' b = some o) → Q .non H'
theorem scGI : FnScope ["self", "old", "head"] ["self", "old", "head"] (defScope mGInit) := ⟨rfl, rfl, rfl, by decide +kernel, rfl, by decide +kernel, by decide +kernel⟩
theorem ok_ginit (F : MethAt K C "__init__" "Grows.__init__" mGInit) (T : TxG K mg C cC) : MtP P w K mg base C 1 "__init__" ["self", "old", "head"] (spGI C) := by
  refine F.ok scGI (fun _ _ _ _ _ _ us hl => match us, hl with | [_, _, _], _ => rfl) (fun vs H Q E h => ?_) (fun f0 cdv A outer s H vs Q E hr h => ?_)
  · obtain ⟨p, dx, pl, v, rfl, _⟩ := h; rfl
  obtain ⟨p, dx, pl, v, rfl, hp, k⟩ := h
  refine ⟨_, pss_cons (ps_fld (pv 0) (pv 1) rfl) <| pss_one (ps_fld (pv 0) (pv 2) rfl), ?_⟩
  refine ⟨_, rfl, _, rfl, p, C, dx, [], rfl, hp, T.cl, T.n1, (by show 0 < 1000; decide), ?_⟩
  refine ⟨_, rfl, _, rfl, p, C, dx, _, rfl, upd_same, T.cl, T.n2, (by show 1 < 1000; decide), ?_⟩
  refine k _ ⟨dx, ?_⟩ fun b o e hb => ?_
  · rw [upd_same, flG_new]
  · rw [upd_ne hb, upd_ne hb]; exact e
def spGN (K : PySem.W.Frag) (mg : Str → Option Value) (C : Addr) (lf : Srt) (B : Nat) : Sp := fun vs H Q _ => ∃ S x f th vh te ve pv po, ∃ size : Nat, vs = [.ref x, .ref f, .int size, vh, pv] ∧ GrAt C H x 0 ve ∧ SealAt K mg sNumd S H f ∧ Cap S H 2 ∧ isT S H th vh ∧ isT S H te ve ∧ Gd lf B th ∧ Gd lf B te ∧ Pap lf S H B pv po ∧ B ≤ 300 ∧
  ∀ H', Gr S 2 H H' → Q (.bl (grB po size 0 th te)) H'
theorem scGN : FnScope ["self", "seal", "size", "head", "paper", "empty"] ["self", "seal", "size", "head", "paper"] (defScope mGNone) := ⟨rfl, rfl, rfl, by decide +kernel, rfl, by decide +kernel, by decide +kernel⟩
theorem gd_mt {lf : Srt} {B : Nat} (h : 2 ≤ B) : Gd lf B mtT := ⟨h, ws_book ws_nl⟩
theorem ok_gnone (F : MethAt K C "judged_from_none" "Grows.judged_from_none" mGNone) (T : TxG K mg C cC) (Fn : FnP P w K mg base 2 "none_seal" ["seal"] (spNone K mg)) (Fb : FnP P w K mg base 2 "book_seal" ["seal", "size", "top"] (spMark K mg "book")) (Fs : FnP P w K mg base 20 "same" ["one", "other"] spSame) (ml : mg "len" = none) (mli : mg "list" = none) (mi : mg "isinstance" = none) (lf : Srt) (B : Nat) :
    MtP P w K mg base C 21 "judged_from_none" ["self", "seal", "size", "head", "paper"] (spGN K mg C lf B) := by
  refine F.ok scGN (fun _ _ _ _ _ _ us hl => match us, hl with | [_, _, _, _, _], _ => rfl) (fun vs H Q E h => ?_) (fun f0 cdv A outer s H vs Q E hr h => ?_)
  · obtain ⟨S, x, f, th, vh, te, ve, pv, po, size, rfl, _⟩ := h; rfl
  obtain ⟨S, x, f, th, vh, te, ve, pvv, po, size, rfl, ⟨dx, hx⟩, hS, hc, ih, ie, gh, ge, hp, hB, q⟩ := h
  have nd := scGN.nd
  refine ⟨_, pss_cons (ps_if (PW.pt (pw_or (pt_not (pt_val (pe_callB call_isinst rfl mi PyProof.Rows.boot_isinstance (pa_cons (pv 4) (pa_cons (pe_ty rfl mli PyProof.Rows.boot_list) pa_nil))))) (pw_or1 (pt_cmpR op_gt (pe_callB call_len_seq rfl ml PySem.boot_len (pa_cons (pv 4) pa_nil)) pe_int (nomark _))))) (pss_one (ps_ret pe_bl)) pss_nil) <|
    pss_cons (ps_set (i := 5) nd rfl (Or.inl rfl) (pe_callN Fb (hr.mono (by omega)) rfl (pa_cons (pv 1) (pa_cons pe_int (pa_cons (pe_callN Fn (hr.mono (by omega)) rfl (pa_cons (pv 1) pa_nil)) pa_nil))))) <|
    pss_cons (ps_if (PW.pt (pw_and (pt_cmpR op_eq (pv 2) pe_int (nomark _)) (pw_and1 (pt_not (pt_val (pe_callN Fs hr rfl (pa_cons (pv 5) (pa_cons (pv 3) pa_nil)))))))) (pss_one (ps_ret pe_bl)) pss_nil) <|
    pss_one (ps_ret (pe_callN Fs hr rfl (pa_cons (pv 5) (pa_cons (pe_fld (pv 0) rfl) pa_nil)))), ?_⟩
  have r0 : Gr S 2 H H := (Gr.refl hS.told).up (by omega)
  cases po with
  | none =>
    obtain ⟨Ty, hT, hkT⟩ := hp.notL.ty K
    exact ⟨_, rfl, _, _, _, false, rfl, hT, hkT, _, rfl, iteT (iteT (q H r0))⟩
  | some os =>
    obtain ⟨b, ws, rfl, hb, it, hg⟩ := hp
    have wl := pr_len it
    refine ⟨_, rfl, _, _, _, true, rfl, .lst hb, kit_ll, _, rfl, iteF ?_⟩
    refine ⟨_, rfl, b, ws, rfl, .inl (SqL.of hb), _, _, rfl, rfl, _, rfl, ?_⟩
    refine ite2 (fun c => ?_) (fun c => ?_)
    · have c' : ((ws.length : Nat) : Int) > 0 := of_decide_eq_true c
      have z := q H r0
      cases os with
      | nil => simp at wl; omega
      | cons g0 os => rw [gr_cons0] at z; exact z
    have c' : ¬ ((ws.length : Nat) : Int) > 0 := of_decide_eq_false (Bool.eq_false_iff.mpr c)
    have eo : os = [] := List.eq_nil_of_length_eq_zero (by omega)
    subst eo
    refine ⟨_, rfl, _, rfl, S, f, rfl, hS, hc.dn (by omega), fun v1 H1 g1 i1 => ?_⟩
    refine ⟨S, f, .int 0, _, _, _, rfl, hS.up g1.gn, hc.go g1.gn (by omega), rfl, i1, fun v2 H2 g2 i2 => ?_⟩
    have g12 := g1.trans g2
    have hS2 := hS.up g12.gn
    have hx2 := g12.same hx (fun _ e => nomatch e)
    have fin : (size = 0 → mtT = th) → _ := fun hz => (show tRet (tCall spSame [] E0 (tCons (tVar 5) (tCons (tFld K (tVar 0) "early") tNil))) { nx := fun _ H' => Q .non H', rt := Q } [some (.ref x), some (.ref f), some (.int size), some vh, some (.ref b), some v2] H2 from by
      refine ⟨_, rfl, _, rfl, x, C, dx, _, _, rfl, hx2, T.cl, T.n2, rfl, _, _, _, _, rfl, tree_eqB (g := gS lf) (s := .nd) (fun d e => ⟨(gd_mt (B := 2) (Nat.le_refl _)).2, ge.2, hS2.ints d e⟩) i2 (isT_up g12.gn ie), by show 2 ≤ 400; omega, ?_⟩
      have z := q H2 (g12.up (by omega))
      have e : grB (some []) (size : Int) 0 th te = decide (mtT = te) := by
        show decide _ = decide _
        rw [decide_eq_decide]
        exact ⟨fun y => y.2.2, fun y => ⟨rfl, fun e => hz (by omega), y⟩⟩
      rw [e] at z; exact z)
    refine ⟨_, rfl, rfl, _, rfl, ?_⟩
    refine ite2 (fun c => ?_) (fun c => ?_)
    rotate_left
    · have c' : ¬ V.int (size : Int) = V.int 0 := of_decide_eq_false (Bool.eq_false_iff.mpr c)
      exact iteF (fin fun z => absurd (by rw [z]; rfl) c')
    have c' : V.int (size : Int) = V.int 0 := of_decide_eq_true c
    have hz : size = 0 := by injection c' with c'; omega
    subst hz
    refine ⟨_, rfl, _, rfl, _, _, _, _, rfl, tree_eqB (g := gS lf) (s := .nd) (fun d e => ⟨(gd_mt (B := 2) (Nat.le_refl _)).2, gh.2, hS2.ints d e⟩) i2 (isT_up g12.gn ih), by show 2 ≤ 400; omega, _, rfl, ?_⟩
    by_cases hth : mtT = th
    · rw [decide_eq_true hth]
      exact iteF (fin fun _ => hth)
    · rw [decide_eq_false hth]
      refine iteT ?_
      have z := q H2 (g12.up (by omega))
      rw [show grB (some []) ((0 : Nat) : Int) 0 th te = false from decide_eq_false fun y => hth (y.2.1 rfl)] at z
      exact z
def spGJ (K : PySem.W.Frag) (mg : Str → Option Value) (C : Addr) (lf : Srt) (B : Nat) : Sp := fun vs H Q _ => ∃ S x f th vh te ve pv po, ∃ size : Nat, ∃ old : Int, vs = [.ref x, .ref f, .int size, vh, pv] ∧ GrAt C H x old ve ∧ SealAt K mg sNumd S H f ∧ Cap S H 90 ∧ isT S H th vh ∧ isT S H te ve ∧ Gd lf B th ∧ Gd lf B te ∧ Pap lf S H B pv po ∧ size ≤ 2 ^ 40 ∧ B ≤ 300 ∧
  ∀ H', Gr S 90 H H' → Q (.bl (grB po size old th te)) H'
theorem scGJ : FnScope ["self", "seal", "size", "head", "paper", "tops"] ["self", "seal", "size", "head", "paper"] (defScope mGJudged) := ⟨rfl, rfl, rfl, by decide +kernel, rfl, by decide +kernel, by decide +kernel⟩
theorem riseG_dep {B : Nat} : ∀ (us : List Bool) (os : List Tm) (p : Tm × Tm) (k : Nat), (∀ t ∈ os, t.dep ≤ B) → p.1.dep ≤ B + k → p.2.dep ≤ B + k → (Gb.riseG prT us os p).1.dep ≤ B + k + us.length ∧ (Gb.riseG prT us os p).2.dep ≤ B + k + us.length
  | [], _, p, k, _, h1, h2 => by unfold Gb.riseG; exact ⟨by omega, by omega⟩
  | u :: us, [], p, k, _, h1, h2 => by unfold Gb.riseG; exact ⟨by omega, by omega⟩
  | u :: us, o :: os, p, k, h, h1, h2 => by
    show (Gb.riseG prT us os (Gb.stepG prT u o p)).1.dep ≤ _ ∧ (Gb.riseG prT us os (Gb.stepG prT u o p)).2.dep ≤ _
    have ho := h o List.mem_cons_self
    have z := riseG_dep us os (Gb.stepG prT u o p) (k + 1) (fun t ht => h t (List.mem_cons_of_mem _ ht)) (by
      cases u
      · show max o.dep p.1.dep + 1 ≤ _; omega
      · show p.1.dep ≤ _; omega) (by
      cases u
      · show max o.dep p.2.dep + 1 ≤ _; omega
      · show max p.2.dep o.dep + 1 ≤ _; omega)
    rw [List.length_cons]
    exact ⟨by omega, by omega⟩
theorem ok_gjudged {cP : Addr} (F : MethAt K C "judged" "Grows.judged" mGJudged) (T : TxG K mg C cC) (Fg : FnX P w K mg base 3 "grown" ["seal", "old", "size", "growth"] (spGrown K mg cP)) (Fb : FnP P w K mg base 2 "book_seal" ["seal", "size", "top"] (spMark K mg "book")) (Fs : FnP P w K mg base 20 "same" ["one", "other"] spSame) (lf : Srt) (B : Nat)
    (Mn : MtP P w K mg base C 21 "judged_from_none" ["self", "seal", "size", "head", "paper"] (spGN K mg C lf B)) (xc : XCls K cP) (hP : mg "BadPaper" = some (.ref cP)) : MtP P w K mg base C 22 "judged" ["self", "seal", "size", "head", "paper"] (spGJ K mg C lf B) := by
  refine F.ok scGJ (fun _ _ _ _ _ _ us hl => match us, hl with | [_, _, _, _, _], _ => rfl) (fun vs H Q E h => ?_) (fun f0 cdv A outer s H vs Q E hr h => ?_)
  · obtain ⟨S, x, f, th, vh, te, ve, pv, po, size, old, rfl, _⟩ := h; rfl
  obtain ⟨S, x, f, th, vh, te, ve, pvv, po, size, old, rfl, hgr, hS, hc, ih, ie, gh, ge, hp, hsz, hB, q⟩ := h
  obtain ⟨dx, hx⟩ := id hgr
  have nd := scGJ.nd
  refine ⟨_, pss_cons (ps_if (PW.pt (pw_or (pt_cmpR op_lt (pe_fld (pv 0) rfl) pe_int (nomark _)) (pw_or1 (pt_cmpR op_gt (pe_fld (pv 0) rfl) (pv 2) (nomark _))))) (pss_one (ps_ret pe_bl)) pss_nil) <|
    pss_cons (ps_if (pt_cmpR op_eq (pe_fld (pv 0) rfl) pe_int (nomark _)) (pss_one (ps_ret (pe_methN Mn (pv 0) T.cl (hr.mono (by omega)) (pa_cons (pv 1) (pa_cons (pv 2) (pa_cons (pv 3) (pa_cons (pv 4) pa_nil))))))) pss_nil) <|
    pss_cons (ps_try0 rfl ⟨rfl, rfl⟩ xc rfl hP
      (pssx_cons (psx_set (i := 5) nd rfl (Or.inl rfl) (pex_callN Fg (hr.mono (by omega)) rfl (pa_cons (pv 1) (pa_cons (pe_fld (pv 0) rfl) (pa_cons (pv 2) (pa_cons (pv 4) pa_nil)))))) pssx_nil)
      (fun e => pss_one (ps_ret pe_bl))) <|
    pss_one (ps_ret (pe_and (pe_callN Fs (hr.mono (by omega)) rfl (pa_cons (pe_callN Fb (hr.mono (by omega)) rfl (pa_cons (pv 1) (pa_cons (pe_fld (pv 0) rfl) (pa_cons (pe_ix ix_tup (pv 5) pe_int (fun _ _ => rfl)) pa_nil)))) (pa_cons (pe_fld (pv 0) rfl) pa_nil)))
      (pe_one (pe_callN Fs (hr.mono (by omega)) rfl (pa_cons (pe_callN Fb (hr.mono (by omega)) rfl (pa_cons (pv 1) (pa_cons (pv 2) (pa_cons (pe_ix ix_tup (pv 5) pe_int (fun _ _ => rfl)) pa_nil)))) (pa_cons (pv 3) pa_nil)))))), ?_⟩
  have no : ∀ H', Gr S 90 H H' → grB po size old th te = false → Q (.bl false) H' := fun H' g e => by
    have z := q H' g
    rw [e] at z; exact z
  have r0 : Gr S 90 H H := (Gr.refl hS.told).up (by omega)
  have out : ¬ (0 ≤ old ∧ old ≤ (size : Int)) → grB po size old th te = false := fun hn => by
    match po with
    | none => rfl
    | some [] => exact decide_eq_false fun y => hn (by omega)
    | some (g0 :: os) => exact decide_eq_false fun y => hn (by omega)
  refine ⟨_, rfl, x, C, dx, _, _, rfl, hx, T.cl, T.n1, rfl, _, _, rfl, rfl, _, rfl, ?_⟩
  refine ite2 (fun c => ?_) (fun c => ?_)
  · have c' : old < 0 := of_decide_eq_true c
    exact iteT (no H r0 (out (by omega)))
  have c0 : ¬ old < 0 := of_decide_eq_false (Bool.eq_false_iff.mpr c)
  refine ⟨_, rfl, x, C, dx, _, _, rfl, hx, T.cl, T.n1, rfl, _, rfl, _, _, rfl, rfl, _, rfl, ?_⟩
  refine ite2 (fun c => ?_) (fun c => ?_)
  · have c' : old > (size : Int) := of_decide_eq_true c
    exact no H r0 (out (by omega))
  have c1 : ¬ old > (size : Int) := of_decide_eq_false (Bool.eq_false_iff.mpr c)
  refine ⟨_, rfl, x, C, dx, _, _, rfl, hx, T.cl, T.n1, rfl, rfl, _, rfl, ?_⟩
  refine ite2 (fun c => ?_) (fun c => ?_)
  · have c' : V.int old = V.int 0 := of_decide_eq_true c
    obtain rfl : old = 0 := by injection c' with c'
    exact ⟨_, rfl, x, dx, _, rfl, hx, rfl, _, rfl, _, rfl, _, rfl, _, rfl, S, x, f, th, vh, te, ve, pvv, po, size, rfl, hgr, hS, hc.dn (by omega), ih, ie, gh, ge, hp, hB, fun H' g => q H' (g.up (by omega))⟩
  have c2 : ¬ V.int old = V.int 0 := of_decide_eq_false (Bool.eq_false_iff.mpr c)
  have c3 : old ≠ 0 := fun z => c2 (by rw [z])
  obtain ⟨od, rfl⟩ : ∃ od : Nat, old = (od : Int) := ⟨old.toNat, by omega⟩
  have tl40 := Gb.gturns_len 40 size od hsz
  refine ⟨_, rfl, _, rfl, x, C, dx, _, _, rfl, hx, T.cl, T.n1, rfl, _, rfl, _, rfl, S, f, od, size, pvv, rfl, hS, by omega, hsz, ?_⟩
  match po, hp, q, no with
  | none, hp, q, no => exact .inr ⟨.inr hp.notL, fun H1 g => ⟨cP, rfl, rfl, no H1 (g.up (by omega)) rfl⟩⟩
  | some [], hp, q, no =>
    obtain ⟨b, ws, rfl, hb, it, hg⟩ := hp
    have wl := pr_len it
    exact .inr ⟨.inl ⟨b, ws, rfl, hb, by rw [← wl]; simp⟩, fun H1 g => ⟨cP, rfl, rfl, no H1 (g.up (by omega)) (gr_nil1 c3)⟩⟩
  | some (g0 :: os), hp, q, no =>
    obtain ⟨b, ws, rfl, hb, it, hg⟩ := hp
    have wl := pr_len it
    rw [List.length_cons] at wl
    by_cases hlen : os.length = (Gb.gturnsT size od).length
    rotate_left
    · exact .inr ⟨.inl ⟨b, ws, rfl, hb, by omega⟩, fun H1 g => ⟨cP, rfl, rfl, no H1 (g.up (by omega)) (decide_eq_false fun y => hlen y.2.2.1)⟩⟩
    refine .inl ⟨b, ws, g0, os, rfl, hb, it, hlen, hc.dn (by omega), fun r v1 v2 H1 g1 hr1 i1 i2 => ?_⟩
    have hx1 := g1.same hx (fun _ e => nomatch e)
    have gg0 := hg g0 List.mem_cons_self
    have gos : ∀ t ∈ os, Gd lf B t := fun t ht => hg t (List.mem_cons_of_mem _ ht)
    obtain ⟨w1, w2⟩ := Gb.riseG_all prT (Pd := WsN lf) (fun _ _ a b => ws_pr a b) (Gb.gturnsT size od).reverse os (g0, g0) (fun t ht => (gos t ht).2) gg0.2 gg0.2
    obtain ⟨d1, d2⟩ := riseG_dep (B := B) (Gb.gturnsT size od).reverse os (g0, g0) 0 (fun t ht => (gos t ht).1) gg0.1 gg0.1
    rw [List.length_reverse] at d1 d2
    have eB : grB (some (g0 :: os)) (size : Int) (od : Int) th te = (decide (Tm.nd "book" (.int od) (Gb.riseG prT (Gb.gturnsT size od).reverse os (g0, g0)).1 = te) && decide (Tm.nd "book" (.int size) (Gb.riseG prT (Gb.gturnsT size od).reverse os (g0, g0)).2 = th)) := by
      rw [Bool.eq_iff_iff, Bool.and_eq_true, decide_eq_true_eq, decide_eq_true_eq]
      show decide _ = true ↔ _
      rw [decide_eq_true_eq]
      exact ⟨fun y => y.2.2.2, fun y => ⟨by omega, by omega, hlen, y⟩⟩
    generalize hr1e : (Gb.riseG prT (Gb.gturnsT size od).reverse os (g0, g0)).1 = r1 at i1 w1 d1 eB
    generalize hr2e : (Gb.riseG prT (Gb.gturnsT size od).reverse os (g0, g0)).2 = r2 at i2 w2 d2 eB
    refine ⟨_, rfl, _, rfl, x, C, dx, _, _, rfl, hx1, T.cl, T.n1, rfl, _, rfl, r, _, _, _, rfl, rfl, .inl (.inl hr1), atI_nat (j := 0) rfl, S, f, .int od, _, _, _, rfl, hS.up g1.gn, hc.go g1.gn (by omega), rfl, i1, fun v3 H2 g2 i3 => ?_⟩
    have g12 := g1.trans g2
    have hS2 := hS.up g12.gn
    have hx2 := g12.same hx (fun _ e => nomatch e)
    have hr2 := g2.gn.keep _ _ hr1 rfl
    refine ⟨_, rfl, x, C, dx, _, _, rfl, hx2, T.cl, T.n2, rfl, _, _, _, _, rfl, tree_eqB (g := gS lf) (s := .nd) (fun d e => ⟨ws_book w1, ge.2, hS2.ints d e⟩) i3 (isT_up g12.gn ie), by show max 0 r1.dep + 1 ≤ 400; omega, _, rfl, ?_⟩
    refine ite2 (fun c => ?_) (fun c => ?_)
    rotate_left
    · have z := q H2 (g12.up (by omega))
      rw [eB, Bool.eq_false_iff.mpr c, Bool.false_and] at z
      exact z
    refine ⟨_, rfl, _, rfl, _, rfl, r, _, _, _, rfl, rfl, .inl (.inl hr2), atI_nat (j := 1) rfl, S, f, .int size, _, _, _, rfl, hS2, hc.go g12.gn (by omega), rfl, isT_up g2.gn i2, fun v4 H3 g3 i4 => ?_⟩
    have g13 := g12.trans g3
    have hS3 := hS.up g13.gn
    refine ⟨_, rfl, _, _, _, _, rfl, tree_eqB (g := gS lf) (s := .nd) (fun d e => ⟨ws_book w2, gh.2, hS3.ints d e⟩) i4 (isT_up g13.gn ih), by show max 0 r2.dep + 1 ≤ 400; omega, ?_⟩
    have z := q H3 (g13.up (by omega))
    rw [eB, c, Bool.true_and] at z
    exact z
end
structure KeepX (S : Sl) (n : Nat) (p : Addr) (H H' : Hp) : Prop where
  gn : Gn S n H H'
  all : ∀ b o, H b = some o → b ≠ p → S.d ≠ some b → H' b = some o
theorem KeepX.trans {S : Sl} {a b : Nat} {p : Addr} {H H1 H2 : Hp} (g : KeepX S a p H H1) (g2 : KeepX S b p H1 H2) : KeepX S (a + b) p H H2 := ⟨g.gn.trans g2.gn, fun c o h n d => g2.all c o (g.all c o h n d) n d⟩
theorem KeepX.of {S : Sl} {n : Nat} {p : Addr} {H H' : Hp} (g : Gr S n H H') : KeepX S n p H H' := ⟨g.gn, fun b o h _ d => g.all b o h d⟩
theorem KeepX.chg {S : Sl} {H : Hp} {p C dx : Addr} {fs : List (Str × V)} {o' : HO} (t : Told S H) (h : H p = some (.ins C dx fs)) : KeepX S 0 p H (upd H p o') := ⟨Gn.chg t h rfl (fun _ e => nomatch e), fun b o e n _ => by rw [upd_ne n]; exact e⟩
theorem KeepX.up {S : Sl} {a b : Nat} {p : Addr} {H H1 : Hp} (g : KeepX S a p H H1) (h : a ≤ b) : KeepX S b p H H1 := ⟨g.gn.up h, g.all⟩
theorem Gr.made {S : Sl} {n : Nat} {H H' : Hp} {x dx C : Addr} (t : Told S H) (nx : H x = none) (ndx : H dx = none) (nex : dx ≠ x) (g : KeepX S n x (upd (upd H dx (.own x)) x (.ins C dx [])) H') : Gr S n H H' := by
  have g1 : Gr S 0 H (upd H dx (.own x)) := .new t ndx
  have hx : upd H dx (.own x) x = none := by rw [upd_ne nex.symm]; exact nx
  have g2 : Gr S 0 (upd H dx (.own x)) (upd (upd H dx (.own x)) x (.ins C dx [])) := .new g1.gn.told2 hx
  have g12 := g1.trans g2
  exact ⟨by simpa using g12.gn.trans g.gn, fun b o h d => g.all b o (g12.all b o h d) (ne_of_none h nx) d⟩
structure TxF (K : PySem.W.Frag) (mg : Str → Option Value) (C : Addr) : Prop where
  cl : Cls K C
  n1 : NoAttr K C "seal"
  n2 : NoAttr K C "count"
  n3 : NoAttr K C "latest"
  mgC : mg "Follower" = some (.ref C)
def flF (f : Addr) (n : Int) (v : V) : List (Str × V) := [("seal", .ref f), ("count", .int n), ("latest", v)]
theorem flF_2 (f : Addr) (n : Int) : putF "count" (.int n) (putF "seal" (.ref f) []) = ([("seal", .ref f), ("count", .int n)] : List (Str × V)) := by
  show (if ("seal" : Str) = "count" then _ else (("seal" : Str), V.ref f) :: [(("count" : Str), V.int n)]) = _
  rw [if_neg (by decide +kernel)]
theorem flF_new (f : Addr) (n : Int) (v : V) : putF "latest" v ([("seal", .ref f), ("count", .int n)] : List (Str × V)) = flF f n v := by
  show (if ("seal" : Str) = "latest" then _ else (("seal" : Str), V.ref f) :: (if ("count" : Str) = "latest" then _ else (("count" : Str), V.int n) :: [(("latest" : Str), v)])) = _
  rw [if_neg (by decide +kernel), if_neg (by decide +kernel)]; rfl
theorem flF_c (f : Addr) (n m : Int) (v : V) : putF "count" (.int m) (flF f n v) = flF f m v := by
  show (if ("seal" : Str) = "count" then _ else (("seal" : Str), V.ref f) :: (if ("count" : Str) = "count" then (("count" : Str), V.int m) :: [(("latest" : Str), v)] else _)) = _
  rw [if_neg (by decide +kernel), if_pos rfl]; rfl
theorem flF_l (f : Addr) (n : Int) (v u : V) : putF "latest" u (flF f n v) = flF f n u := by
  show (if ("seal" : Str) = "latest" then _ else (("seal" : Str), V.ref f) :: (if ("count" : Str) = "latest" then _ else (("count" : Str), V.int n) :: (if ("latest" : Str) = "latest" then (("latest" : Str), u) :: [] else _))) = _
  rw [if_neg (by decide +kernel), if_neg (by decide +kernel), if_pos rfl]; rfl
def FoAt (C : Addr) (H : Hp) (x f : Addr) (n : Int) (v : V) : Prop := ∃ dx, H x = some (.ins C dx (flF f n v))
theorem FoAt.up {C : Addr} {S : Sl} {H H' : Hp} {x f : Addr} {m : Int} {v : V} {n : Nat} (h : FoAt C H x f m v) (g : Gr S n H H') : FoAt C H' x f m v := by
  obtain ⟨dx, h⟩ := h
  exact ⟨dx, g.same h (fun _ e => nomatch e)⟩
section
variable {P : Program} {w : World} {K : PySem.W.Frag} {mg : Str → Option Value} {base : Heap} {C cC cG : Addr}
def spFI (K : PySem.W.Frag) (mg : Str → Option Value) (C : Addr) : Sp := fun vs H Q _ => ∃ (S : Sl) (p dx f : Addr), vs = [.ref p, .ref f] ∧ H p = some (.ins C dx []) ∧ SealAt K mg sNumd S H f ∧ Cap S H 2 ∧ ∀ v H', FoAt C H' p f 0 v → isT S H' mtT v → KeepX S 2 p H H' → Q .non H'
theorem scFI : FnScope ["self", "seal"] ["self", "seal"] (defScope mFInit) := ⟨rfl, rfl, rfl, by decide +kernel, rfl, by decide +kernel, by decide +kernel⟩
theorem ok_finit (F : MethAt K C "__init__" "Follower.__init__" mFInit) (T : TxF K mg C) (Fn : FnP P w K mg base 2 "none_seal" ["seal"] (spNone K mg)) (Fb : FnP P w K mg base 2 "book_seal" ["seal", "size", "top"] (spMark K mg "book")) : MtP P w K mg base C 3 "__init__" ["self", "seal"] (spFI K mg C) := by
  refine F.ok scFI (fun _ _ _ _ _ _ us hl => match us, hl with | [_, _], _ => rfl) (fun vs H Q E h => ?_) (fun f0 cdv A outer s H vs Q E hr h => ?_)
  · obtain ⟨S, p, dx, f, rfl, _⟩ := h; rfl
  obtain ⟨S, p, dx, f, rfl, hp, hS, hc, k⟩ := h
  refine ⟨_, pss_cons (ps_fld (pv 0) (pv 1) rfl) <| pss_cons (ps_fld (pv 0) pe_int rfl) <| pss_one (ps_fld (pv 0) (pe_callN Fb hr rfl (pa_cons (pv 1) (pa_cons pe_int (pa_cons (pe_callN Fn hr rfl (pa_cons (pv 1) pa_nil)) pa_nil)))) rfl), ?_⟩
  refine ⟨_, rfl, _, rfl, p, C, dx, [], rfl, hp, T.cl, T.n1, (by show 0 < 1000; decide), ?_⟩
  have k1 : KeepX S 0 p H (upd H p (.ins C dx (putF "seal" (.ref f) []))) := .chg hS.told hp
  refine ⟨_, rfl, p, C, dx, _, rfl, upd_same, T.cl, T.n2, (by show 1 < 1000; decide), ?_⟩
  have k2 : KeepX S 0 p _ (upd (upd H p (.ins C dx (putF "seal" (.ref f) []))) p (.ins C dx (putF "count" (.int 0) (putF "seal" (.ref f) [])))) := .chg k1.gn.told2 upd_same
  have k12 := k1.trans k2
  have hS2 := hS.up k12.gn
  refine ⟨_, rfl, _, rfl, S, f, rfl, hS2, hc.go k12.gn (by omega), fun v1 H1 g1 i1 => ?_⟩
  have k13 := k12.trans (.of g1)
  refine ⟨S, f, .int 0, _, _, _, rfl, hS.up k13.gn, hc.go k13.gn (by omega), rfl, i1, fun v2 H2 g2 i2 => ?_⟩
  have g12 := g1.trans g2
  have k14 := k13.trans (.of g2)
  have hp2 : H2 p = some (.ins C dx (putF "count" (.int 0) (putF "seal" (.ref f) []))) := g12.same upd_same (fun _ e => nomatch e)
  rw [flF_2] at hp2
  refine ⟨_, rfl, p, C, dx, _, rfl, hp2, T.cl, T.n3, (by show 2 < 1000; decide), ?_⟩
  have k5 : KeepX S 0 p H2 (upd H2 p (.ins C dx (putF "latest" v2 [("seal", .ref f), ("count", .int 0)]))) := .chg g2.gn.told2 hp2
  refine k v2 _ ⟨dx, ?_⟩ (isT_up k5.gn i2) ((k14.trans k5).up (by omega))
  rw [upd_same, flF_new]
def spFT (K : PySem.W.Frag) (mg : Str → Option Value) (C : Addr) (lf : Srt) (B : Nat) : Sp := fun vs H Q _ => ∃ S x f th vh te ve pv po, ∃ size n : Nat, vs = [.ref x, .int size, vh, pv] ∧ FoAt C H x f n ve ∧ SealAt K mg sNumd S H f ∧ Cap S H 90 ∧ isT S H th vh ∧ isT S H te ve ∧ Gd lf B th ∧ Gd lf B te ∧ Pap lf S H B pv po ∧ size ≤ 2 ^ 40 ∧ B ≤ 300 ∧
  ∀ H', KeepX S 90 x H H' → (if grB po size n th te = true then FoAt C H' x f size vh else FoAt C H' x f n ve) → Q (.bl (grB po size n th te)) H'
theorem scFT : FnScope ["self", "size", "head", "paper"] ["self", "size", "head", "paper"] (defScope mFTake) := ⟨rfl, rfl, rfl, by decide +kernel, rfl, by decide +kernel, by decide +kernel⟩
theorem ok_ftake (F : MethAt K C "take" "Follower.take" mFTake) (T : TxF K mg C) (TG : TxG K mg cG cC) (M : ∃ fI, Mk K cG fI) (Mi : MtP P w K mg base cG 1 "__init__" ["self", "old", "head"] (spGI cG)) (lf : Srt) (B : Nat) (Mj : MtP P w K mg base cG 22 "judged" ["self", "seal", "size", "head", "paper"] (spGJ K mg cG lf B)) :
    MtP P w K mg base C 23 "take" ["self", "size", "head", "paper"] (spFT K mg C lf B) := by
  refine F.ok scFT (fun _ _ _ _ _ _ us hl => match us, hl with | [_, _, _, _], _ => rfl) (fun vs H Q E h => ?_) (fun f0 cdv A outer s H vs Q E hr h => ?_)
  · obtain ⟨S, x, f, th, vh, te, ve, pv, po, size, n, rfl, _⟩ := h; rfl
  obtain ⟨S, x, f, th, vh, te, ve, pvv, po, size, n, rfl, ⟨dx, hx⟩, hS, hc, ih, ie, gh, ge, hp, hsz, hB, q⟩ := h
  refine ⟨_, pss_cons (ps_if (pt_not (pt_val (pe_methN Mj (pe_makeM M Mi (hr.mono (by omega)) rfl TG.mgC (pa_cons (pe_fld (pv 0) rfl) (pa_cons (pe_fld (pv 0) rfl) pa_nil))) TG.cl hr (pa_cons (pe_fld (pv 0) rfl) (pa_cons (pv 1) (pa_cons (pv 2) (pa_cons (pv 3) pa_nil))))))) (pss_one (ps_ret pe_bl)) pss_nil) <|
    pss_cons (ps_fld (pv 0) (pv 1) rfl) <| pss_cons (ps_fld (pv 0) (pv 2) rfl) <| pss_one (ps_ret pe_bl), ?_⟩
  refine ⟨_, rfl, x, C, dx, _, _, rfl, hx, T.cl, T.n2, rfl, _, rfl, x, C, dx, _, _, rfl, hx, T.cl, T.n3, rfl, fun y dy ny ndy ney => ⟨y, dy, (n : Int), ve, rfl, upd_same, fun H1 hy k1 => ⟨rfl, ?_⟩⟩⟩
  have all1 : ∀ b o, H b = some o → H1 b = some o := fun b o h => k1 b o (by rw [upd_ne (ne_of_none h ny), upd_ne (ne_of_none h ndy)]; exact h) (ne_of_none h ny)
  have g1 : Gr S 0 H H1 := .ext hS.told all1
  have hx1 := all1 _ _ hx
  obtain ⟨dy1, hy1⟩ := id hy
  refine ⟨y, dy1, _, rfl, hy1, rfl, _, rfl, x, C, dx, _, _, rfl, hx1, T.cl, T.n1, rfl, _, rfl, _, rfl, _, rfl, ?_⟩
  refine ⟨S, y, f, th, vh, te, ve, pvv, po, size, (n : Int), rfl, hy, hS.up g1.gn, hc.go g1.gn (by omega), isT_up g1.gn ih, isT_up g1.gn ie, gh, ge, hp.up g1, hsz, hB, fun H2 g2 => ⟨_, rfl, ?_⟩⟩
  have g12 := g1.trans g2
  have hx2 := g12.same hx (fun _ e => nomatch e)
  cases hb : grB po size n th te with
  | false =>
    refine iteT ?_
    have z := q H2 ((KeepX.of g12).up (by omega)) (by rw [hb]; exact ⟨dx, hx2⟩)
    rw [hb] at z; exact z
  | true =>
    refine iteF ?_
    refine ⟨_, rfl, _, rfl, x, C, dx, _, rfl, hx2, T.cl, T.n2, (by show 3 < 1000; decide), ?_⟩
    have k3 : KeepX S 0 x H2 (upd H2 x (.ins C dx (putF "count" (.int size) (flF f n ve)))) := .chg g12.gn.told2 hx2
    have hx3 : upd H2 x (.ins C dx (putF "count" (.int size) (flF f n ve))) x = some (.ins C dx (flF f size ve)) := by rw [upd_same, flF_c]
    refine ⟨_, rfl, _, rfl, x, C, dx, _, rfl, hx3, T.cl, T.n3, (by show 3 < 1000; decide), ?_⟩
    have k4 : KeepX S 0 x _ (upd (upd H2 x (.ins C dx (putF "count" (.int size) (flF f n ve)))) x (.ins C dx (putF "latest" vh (flF f size ve)))) := .chg k3.gn.told2 hx3
    have z := q _ ((((KeepX.of g12).trans k3).trans k4).up (by omega)) (by rw [hb]; exact ⟨dx, by rw [upd_same, flF_l]⟩)
    rw [hb] at z; exact z
theorem scFJ : FnScope ["self", "claim", "paper"] ["self", "claim", "paper"] (defScope mFJudge) := ⟨rfl, rfl, rfl, by decide +kernel, rfl, by decide +kernel, by decide +kernel⟩
end
end My
namespace My
open PySem L2
def Rem (z : Str) : Prop := ∃ w : Str, z = "#" ++ w ∧ (∀ c ∈ w.cps.toList, 32 ≤ c) ∧ w.length ≤ 5
theorem rem_cps (w : Str) : (("#" : Str) ++ w).cps.toList = 35 :: w.cps.toList := by
  show ((("#" : Str).cps ++ w.cps).toList) = _
  rw [Array.toList_append]; rfl
theorem rem_len {z : Str} (h : Rem z) : z.length ≤ 6 := by
  obtain ⟨w, rfl, _, hl⟩ := h
  have e : (("#" : Str) ++ w).length = (("#" : Str) ++ w).cps.toList.length := by simp [Str.length]
  have e2 : w.length = w.cps.toList.length := by simp [Str.length]
  rw [e, rem_cps, List.length_cons]; omega
theorem cnt_none {c : Nat} : ∀ {l : List Nat}, c ∉ l → PyProof.Rows.cnt c l = 0
  | [], _ => rfl
  | n :: r, h => by
    have hn : n ≠ c := fun e => h (by rw [e]; exact List.mem_cons_self)
    have ih := cnt_none (c := c) (l := r) fun z => h (List.mem_cons_of_mem _ z)
    show (if PySem.Spec.same (.str ⟨#[n]⟩) (.str ⟨#[c]⟩) then 1 else 0) + PyProof.Rows.cnt c r = (0 : Int)
    rw [ih, if_neg (by simp [PySem.Spec.same, hn])]; rfl
theorem rem_split {z : Str} (h : Rem z) : Txt.split z "\n" = [z] := by
  obtain ⟨w, rfl, hw, _⟩ := h
  have hc : (10 : Nat) ∉ (("#" : Str) ++ w).cps.toList := by
    rw [rem_cps]
    intro hm
    rcases List.mem_cons.mp hm with e | e
    · exact absurd e (by decide)
    · have := hw 10 e; omega
  have hl := PyProof.Rows.split_len (("#" : Str) ++ w) 10
  rw [cnt_none hc] at hl
  have e10 : (⟨#[10]⟩ : Str) = "\n" := by decide +kernel
  rw [e10] at hl
  have hj := StrLaws.join_split (("#" : Str) ++ w) "\n"
  match hs : Txt.split (("#" : Str) ++ w) "\n", hl with
  | [p], _ =>
    rw [hs] at hj
    have : p = ("#" : Str) ++ w := hj
    rw [this]
theorem rem_lstrip {z : Str} (h : Rem z) : Txt.lstripChars z " " = z := by
  obtain ⟨w, rfl, _, _⟩ := h
  have e0 : stripLo (" " : Str).cps.contains true (("#" : Str) ++ w) = 0 := by
    show (((("#" : Str) ++ w).cps.toList.takeWhile (" " : Str).cps.contains)).length = 0
    rw [rem_cps, List.takeWhile_cons, if_neg (by decide +kernel)]; rfl
  show (if stripSame (" " : Str).cps.contains true false (("#" : Str) ++ w) then _ else _) = _
  rw [if_pos]
  show (stripLo _ true _ == 0 && stripHi _ false _ _ == _) = true
  rw [e0]
  simp [stripHi]
theorem rem_starts {z : Str} (h : Rem z) : Txt.startswith z "#" = true := by
  obtain ⟨w, rfl, _, _⟩ := h
  exact PySem.W.KT.starts_app _ _
section
variable {P : Program} {w : World} {K : PySem.W.Frag} {mg : Str → Option Value} {base : Heap} {C cT : Addr}
def spReadR : Sp := fun vs H Q _ => ∃ (z : Str) (D p : V), vs = [.str z, D, p] ∧ Rem z ∧ Q .non H
theorem scRA : FnScope ["row", "depth", "place", "bare", "parts"] ["row", "depth", "place"] (defScope sReadAt) := ⟨rfl, rfl, rfl, by decide +kernel, rfl, by decide +kernel, by decide +kernel⟩
theorem ok_readR (F : FunAt K mg "read_at" sReadAt) : FnP P w K mg base 1 "read_at" ["row", "depth", "place"] spReadR := by
  refine F.ok scRA (fun _ _ _ _ _ _ us hl => match us, hl with | [_, _, _], _ => rfl) (fun vs H Q E h => ?_) (fun f0 cdv A outer s H vs Q E hr h => ?_)
  · obtain ⟨z, D, p, rfl, _⟩ := h; rfl
  obtain ⟨z, D, p, rfl, hz, q⟩ := h
  have nd := scRA.nd
  refine ⟨_, pss_cons (ps_set (i := 3) nd rfl (Or.inl rfl) (pe_bm PySem.F.plainAttrs_str PySem.F.slot_str_lstrip PySem.F.type_str_lstrip mt_lstripC (pv 0) (pa_cons pe_str pa_nil))) <|
    pss_cons (ps_if (PW.pt (pw_or (pt_cmpR op_eq (pv 3) pe_str (nomark _)) (pw_or1 (pt_val (pe_bm PySem.F.plainAttrs_str PySem.F.slot_str_startswith PySem.F.type_str_startswith mt_starts (pv 3) (pa_cons pe_str pa_nil)))))) (pss_one (ps_ret pe_non)) pss_nil) <|
    pss_never, ?_⟩
  have hl := rem_len hz
  refine ⟨_, rfl, rfl, z, " ", rfl, rfl, by rw [sizeLine_eq]; omega, ?_⟩
  rw [rem_lstrip hz]
  refine ⟨_, rfl, rfl, _, rfl, ?_⟩
  refine ite2 (fun c => iteT q) (fun _ => ?_)
  refine ⟨_, rfl, rfl, z, "#", rfl, rfl, _, rfl, ?_⟩
  rw [rem_starts hz]
  exact iteT q
def spChgR (cT : Addr) : Sp := fun vs H Q _ => ∃ (x d f : Addr) (D : Nat) (kvs : List (Key × V)) (z : Str), vs = [.ref x, .str z, .int D] ∧ TabAt cT H x d f D kvs ∧ Rem z ∧ ∀ y e H', TabAt cT H' y e f D kvs → (∀ b o, H b = some o → H' b = some o) → Q (.ref y) H'
theorem scCg : FnScope ["table", "text", "depth", "after", "place", "row", "step"] ["table", "text", "depth"] (defScope sChanged) := ⟨rfl, rfl, rfl, by decide +kernel, rfl, by decide +kernel, by decide +kernel⟩
theorem ok_chgR (F : FunAt K mg "changed" sChanged) (T : Txt K mg cT) (Mt : MtP P w K mg base cT 3 "twin" ["self"] (spTwin cT)) (Fr : FnP P w K mg base 1 "read_at" ["row", "depth", "place"] spReadR) (me : mg "enumerate" = none) : FnP P w K mg base 4 "changed" ["table", "text", "depth"] (spChgR cT) := by
  refine F.ok scCg (fun _ _ _ _ _ _ us hl => match us, hl with | [_, _, _], _ => rfl) (fun vs H Q E h => ?_) (fun f0 cdv A outer s H vs Q E hr h => ?_)
  · obtain ⟨x, d, f, D, kvs, z, rfl, _⟩ := h; rfl
  obtain ⟨x, d, f, D, kvs, z, rfl, hT, hz, q⟩ := h
  have nd := scCg.nd
  refine ⟨_, pss_cons (ps_set (i := 3) nd rfl (Or.inl rfl) (pe_methN0 Mt (pv 0) T.cl hr)) <|
    pss_cons (ps_for PassesOwn.never rfl (pi_enum rfl me (pa_cons (pe_bm PySem.F.plainAttrs_str PySem.F.slot_str_split PySem.F.type_str_split mt_split (pv 1) (pa_cons pe_str pa_nil)) pa_nil)) (pg_tup rfl (pgs_cons (pg_name (i := 4) nd rfl (Or.inl rfl)) (pgs_cons (pg_name (i := 5) nd rfl (Or.inl rfl)) pgs_nil))) <|
      pss_cons (ps_set (i := 6) nd rfl (Or.inl rfl) (pe_callN Fr (hr.mono (by omega)) rfl (pa_cons (pv 5) (pa_cons (pv 2) (pa_cons (pv 4) pa_nil))))) <|
      pss_one (ps_if (pt_cmpR op_notN (pv 6) pe_non (nomark _)) pss_never pss_nil)) <|
    pss_one (ps_ret (pv 3)), ?_⟩
  obtain ⟨⟨dx, h1⟩, h2⟩ := id hT
  refine ⟨_, rfl, x, dx, _, rfl, h1, rfl, x, d, f, D, kvs, rfl, hT, fun y e H1 T1 x1 _ _ => ?_⟩
  have hl := rem_len hz
  refine ⟨_, rfl, rfl, z, "\n", rfl, rfl, by decide +kernel, by rw [sizeLine_eq]; omega, by rw [rem_split hz, sizeLine_eq]; simp, fun l hl1 => ?_⟩
  rw [rem_split hz]
  have k2 : ∀ b o, H1 b = some o → upd H1 l (.lst [V.str z]) b = some o := fun b o hb => by rw [upd_ne (ne_of_none hb hl1)]; exact hb
  refine ⟨l, [V.str z], rfl, SqL.of upd_same, ?_⟩
  refine for_enum (xs := [V.str z]) (fun i σ H' => (∀ b o, upd H1 l (.lst [V.str z]) b = some o → H' b = some o) ∧ ∃ o4 o5 o6, σ = [some (.ref x), some (.str z), some (.int D), some (.ref y), o4, o5, o6]) ⟨fun _ _ hb => hb, none, none, none, rfl⟩ (fun i σ H' _ h => SqL.of (h.1 _ _ upd_same)) ?_ ?_
  · rintro i v p σ H2 hv hp ⟨x2, o4, o5, o6, rfl⟩
    obtain ⟨rfl, ev⟩ : i = 0 ∧ v = V.str z := by
      match i, hv with
      | 0, hv => exact ⟨rfl, by simpa using hv.symm⟩
      | i + 1, hv => simp at hv
    subst ev
    refine ⟨p, _, rfl, .inl (.inl upd_same), rfl, _, _, rfl, _, _, rfl, rfl, ?_⟩
    refine ⟨_, rfl, _, rfl, _, rfl, z, _, _, rfl, hz, ?_⟩
    refine ⟨_, rfl, rfl, _, rfl, ?_⟩
    refine iteF ⟨fun b o hb => ?_, _, _, _, rfl⟩
    rw [upd_ne (ne_of_none (x2 _ _ hb) hp)]; exact x2 _ _ hb
  · rintro σ H2 ⟨x2, o4, o5, o6, rfl⟩
    refine ⟨_, rfl, q y e H2 ?_ fun b o hb => x2 _ _ (k2 _ _ (x1 _ _ hb))⟩
    obtain ⟨⟨dy, t1⟩, t2⟩ := T1
    exact ⟨⟨dy, x2 _ _ (k2 _ _ t1)⟩, x2 _ _ (k2 _ _ t2)⟩
abbrev emT : Tm := .nd "table" (.int 8) nlT
abbrev lfE (z : Str) : Tm := .nd "leaf" (.str z) emT
structure TxK (K : PySem.W.Frag) (mg : Str → Option Value) (C : Addr) : Prop where
  cl : Cls K C
  n1 : NoAttr K C "seal"
  n2 : NoAttr K C "depth"
  n3 : NoAttr K C "texts"
  n4 : NoAttr K C "leaves"
  n5 : NoAttr K C "tables"
  mgC : mg "Keeper" = some (.ref C)
def flK (f aT aL aB : Addr) : List (Str × V) := [("seal", .ref f), ("depth", .int 8), ("texts", .ref aT), ("leaves", .ref aL), ("tables", .ref aB)]
theorem put_new {k : Str} {v : V} : ∀ {l : List (Str × V)}, (∀ q ∈ l.map (·.1), q ≠ k) → putF k v l = l ++ [(k, v)]
  | [], _ => rfl
  | (g, x) :: r, h => by
    show (if g = k then _ else (g, x) :: putF k v r) = _
    rw [if_neg (h g List.mem_cons_self), put_new fun q hq => h q (List.mem_cons_of_mem _ hq)]; rfl
structure KpAt (C cT : Addr) (S : Sl) (H : Hp) (x f aT aL aB : Addr) (texts : List Str) : Prop where
  ob : ∃ dx, H x = some (.ins C dx (flK f aT aL aB))
  tx : H aT = some (.lst (texts.map V.str))
  lv : ∃ wL, H aL = some (.lst wL) ∧ isTs S H (texts.map lfE) wL
  tb : ∃ ws t d, H aB = some (.lst (ws ++ [.ref t])) ∧ ws.length = texts.length ∧ TabAt cT H t d f 8 []
  n1 : aT ≠ aL
  n2 : aT ≠ aB
  n3 : aL ≠ aB
theorem KpAt.up {S : Sl} {H H' : Hp} {x f aT aL aB : Addr} {texts : List Str} {n : Nat} (h : KpAt C cT S H x f aT aL aB texts) (g : Gr S n H H') : KpAt C cT S H' x f aT aL aB texts := by
  obtain ⟨⟨dx, h1⟩, h2, ⟨wL, h3, h4⟩, ⟨ws, t, d, h5, h6, h7⟩, n1, n2, n3⟩ := h
  exact ⟨⟨dx, g.same h1 (fun _ e => nomatch e)⟩, g.lst h2, ⟨wL, g.lst h3, isTs_up g.gn h4⟩, ⟨ws, t, d, g.lst h5, h6, h7.up g⟩, n1, n2, n3⟩
def spKI (C cT : Addr) : Sp := fun vs H Q _ => ∃ (S : Sl) (p dx f : Addr), vs = [.ref p, .ref f, .int 8] ∧ Told S H ∧ H p = some (.ins C dx []) ∧ ∀ aT aL aB H', KpAt C cT S H' p f aT aL aB [] → (∀ b o, H b = some o → b ≠ p → H' b = some o) → H aT = none → H aL = none → H aB = none → Q .non H'
theorem scKI : FnScope ["self", "seal", "depth"] ["self", "seal", "depth"] (defScope kInit) := ⟨rfl, rfl, rfl, by decide +kernel, rfl, by decide +kernel, by decide +kernel⟩
theorem ok_kinit {fI : Addr} {fdI : FuncData} (F : MethV K C "__init__" "Keeper.__init__" kInit (.int 8)) (T : TxK K mg C) (TT : Txt K mg cT) (M : Mk K cT fI) (GI : FnOk P w K mg base CX0 1 fI fdI ["self", "seal", "depth"] (spTI cT)) (bI : Binds K fdI ["self", "seal", "depth"] []) : MtD P w K mg base C 3 "__init__" ["self", "seal", "depth"] (spKI C cT) (.int 8) := by
  refine F.ok scKI (fun _ _ _ _ _ _ _ _ us hl => match us, hl with | [_, _, _], _ => ⟨_, rfl, rfl⟩) (fun _ _ _ _ _ _ _ _ us hl => match us, hl with | [_, _], _ => ⟨_, rfl, rfl⟩) (fun vs H Q E h => ?_) (fun f0 cdv A outer s H vs Q E hr h => ?_)
  · obtain ⟨S, p, dx, f, rfl, _⟩ := h; rfl
  obtain ⟨S, p, dx, f, rfl, tld, hp, k⟩ := h
  refine ⟨_, pss_cons (ps_fld (pv 0) (pv 1) rfl) <| pss_cons (ps_fld (pv 0) (pv 2) rfl) <| pss_cons (ps_fld (pv 0) (pe_lst pa_nil) rfl) <| pss_cons (ps_fld (pv 0) (pe_lst pa_nil) rfl) <|
    pss_one (ps_fld (pv 0) (pe_lst (pa_cons (pe_make M GI hr rfl TT.mgC bI .nil pass0 (pa_cons (pv 1) (pa_cons (pv 2) pa_nil))) pa_nil)) rfl), ?_⟩
  have e1 : putF "seal" (V.ref f) [] = ([("seal", .ref f)] : List (Str × V)) := rfl
  have e2 : putF "depth" (V.int 8) ([("seal", .ref f)] : List (Str × V)) = ([("seal", .ref f), ("depth", .int 8)] : List (Str × V)) := put_new (by simp only [List.map_cons, List.map_nil]; decide +kernel)
  refine ⟨_, rfl, _, rfl, p, C, dx, [], rfl, hp, T.cl, T.n1, (by show 0 < 1000; decide), ?_⟩
  rw [e1]
  refine ⟨_, rfl, _, rfl, p, C, dx, _, rfl, upd_same, T.cl, T.n2, (by show 1 < 1000; decide), ?_⟩
  rw [e2, upd_upd]
  refine ⟨by show 0 ≤ sizeLine; decide, fun aT hT => ?_⟩
  have npT : p ≠ aT := ne_of_none upd_same hT
  have hT0 : H aT = none := by rw [upd_ne npT.symm] at hT; exact hT
  refine ⟨_, rfl, p, C, dx, _, rfl, (by rw [upd_ne npT, upd_same]), T.cl, T.n3, (by show 2 < 1000; decide), ?_⟩
  have e3 : putF "texts" (V.ref aT) ([("seal", .ref f), ("depth", .int 8)] : List (Str × V)) = ([("seal", .ref f), ("depth", .int 8), ("texts", .ref aT)] : List (Str × V)) := put_new (by simp only [List.map_cons, List.map_nil]; decide +kernel)
  rw [e3]
  generalize hH1 : upd (upd (upd H p (.ins C dx [("seal", .ref f), ("depth", .int 8)])) aT (.lst [])) p (.ins C dx [("seal", .ref f), ("depth", .int 8), ("texts", .ref aT)]) = H1
  have p1 : H1 p = some (.ins C dx [("seal", .ref f), ("depth", .int 8), ("texts", .ref aT)]) := by rw [← hH1, upd_same]
  have t1 : H1 aT = some (.lst []) := by rw [← hH1, upd_ne npT.symm, upd_same]
  have k1 : ∀ b o, H b = some o → b ≠ p → H1 b = some o := fun b o hb hn => by rw [← hH1, upd_ne hn, upd_ne (ne_of_none hb hT0), upd_ne hn]; exact hb
  refine ⟨by show 0 ≤ sizeLine; decide, fun aL hL => ?_⟩
  have npL : p ≠ aL := ne_of_none p1 hL
  have nTL : aT ≠ aL := ne_of_none t1 hL
  have hL0 : H aL = none := by
    cases z : H aL with
    | none => rfl
    | some o => rw [k1 _ _ z npL.symm] at hL; cases hL
  refine ⟨_, rfl, p, C, dx, _, rfl, (by rw [upd_ne npL]; exact p1), T.cl, T.n4, (by show 3 < 1000; decide), ?_⟩
  have e4 : putF "leaves" (V.ref aL) ([("seal", .ref f), ("depth", .int 8), ("texts", .ref aT)] : List (Str × V)) = ([("seal", .ref f), ("depth", .int 8), ("texts", .ref aT), ("leaves", .ref aL)] : List (Str × V)) := put_new (by simp only [List.map_cons, List.map_nil]; decide +kernel)
  rw [e4]
  generalize hH2 : upd (upd H1 aL (.lst [])) p (.ins C dx [("seal", .ref f), ("depth", .int 8), ("texts", .ref aT), ("leaves", .ref aL)]) = H2
  have p2 : H2 p = some (.ins C dx [("seal", .ref f), ("depth", .int 8), ("texts", .ref aT), ("leaves", .ref aL)]) := by rw [← hH2, upd_same]
  have t2 : H2 aT = some (.lst []) := by rw [← hH2, upd_ne npT.symm, upd_ne nTL]; exact t1
  have l2 : H2 aL = some (.lst []) := by rw [← hH2, upd_ne npL.symm, upd_same]
  have k2 : ∀ b o, H b = some o → b ≠ p → H2 b = some o := fun b o hb hn => by rw [← hH2, upd_ne hn, upd_ne (ne_of_none hb hL0)]; exact k1 _ _ hb hn
  refine ⟨_, rfl, _, rfl, fun y dy ny ndy ney => ⟨y, dy, f, 8, rfl, upd_same, fun d H3 nd3 T3 k3 => ⟨rfl, ?_⟩⟩⟩
  have all3 : ∀ b o, H2 b = some o → H3 b = some o := fun b o h => k3 b o (by rw [upd_ne (ne_of_none h ny), upd_ne (ne_of_none h ndy)]; exact h) (ne_of_none h ny)
  refine ⟨by show 1 ≤ sizeLine; decide, fun aB hB => ?_⟩
  have p3 := all3 _ _ p2
  have npB : p ≠ aB := ne_of_none p3 hB
  have nTB : aT ≠ aB := ne_of_none (all3 _ _ t2) hB
  have nLB : aL ≠ aB := ne_of_none (all3 _ _ l2) hB
  have hB0 : H aB = none := by
    cases z : H aB with
    | none => rfl
    | some o => rw [all3 _ _ (k2 _ _ z npB.symm)] at hB; cases hB
  refine ⟨_, rfl, p, C, dx, _, rfl, (by rw [upd_ne npB]; exact p3), T.cl, T.n5, (by show 4 < 1000; decide), ?_⟩
  have e5 : putF "tables" (V.ref aB) ([("seal", .ref f), ("depth", .int 8), ("texts", .ref aT), ("leaves", .ref aL)] : List (Str × V)) = flK f aT aL aB := put_new (by simp only [List.map_cons, List.map_nil]; decide +kernel)
  rw [e5]
  obtain ⟨⟨dy3, y3⟩, d3⟩ := T3
  have nyB : y ≠ aB := ne_of_none y3 hB
  have ndB : d ≠ aB := ne_of_none d3 hB
  have nyp : y ≠ p := Ne.symm (ne_of_none p2 ny)
  have ndp : d ≠ p := by rintro rfl; rw [p3] at d3; cases d3
  refine k aT aL aB _ ⟨⟨dx, upd_same⟩, ?_, ⟨[], ?_, .nil⟩, ⟨[], y, d, ?_, rfl, ⟨dy3, ?_⟩, ?_⟩, nTL, nTB, nLB⟩ (fun b o hb hn => ?_) hT0 hL0 hB0
  · rw [upd_ne npT.symm, upd_ne nTB]; exact all3 _ _ t2
  · rw [upd_ne npL.symm, upd_ne nLB]; exact all3 _ _ l2
  · rw [upd_ne npB.symm, upd_same]; rfl
  · rw [upd_ne nyp, upd_ne nyB]; exact y3
  · rw [upd_ne ndp, upd_ne ndB]; exact d3
  · rw [upd_ne hn, upd_ne (ne_of_none hb hB0)]; exact all3 _ _ (k2 _ _ hb hn)
end
end My
namespace My
open PySem L2
structure KeepL (S : Sl) (n : Nat) (l : List Addr) (H H' : Hp) : Prop where
  gn : Gn S n H H'
  all : ∀ b o, H b = some o → b ∉ l → S.d ≠ some b → H' b = some o
theorem KeepL.trans {S : Sl} {a b : Nat} {l : List Addr} {H H1 H2 : Hp} (g : KeepL S a l H H1) (g2 : KeepL S b l H1 H2) : KeepL S (a + b) l H H2 := ⟨g.gn.trans g2.gn, fun c o h n d => g2.all c o (g.all c o h n d) n d⟩
theorem KeepL.of {S : Sl} {n : Nat} {l : List Addr} {H H' : Hp} (g : Gr S n H H') : KeepL S n l H H' := ⟨g.gn, fun b o h _ d => g.all b o h d⟩
theorem KeepL.chg {S : Sl} {H : Hp} {p : Addr} {l : List Addr} {xs : List V} {o' : HO} (t : Told S H) (h : H p = some (.lst xs)) (hp : p ∈ l) : KeepL S 0 l H (upd H p o') := ⟨Gn.chg t h rfl (fun _ e => nomatch e), fun b o e n _ => by rw [upd_ne (by rintro rfl; exact n hp)]; exact e⟩
theorem KeepL.up {S : Sl} {a b : Nat} {l : List Addr} {H H1 : Hp} (g : KeepL S a l H H1) (h : a ≤ b) : KeepL S b l H H1 := ⟨g.gn.up h, g.all⟩
theorem at_last {ws : List V} {v : V} : atI (ws ++ [v]) (-1) = some v := by
  unfold atI ixN
  rw [if_neg (by decide), if_pos (by rw [List.length_append]; simp; omega)]
  show (ws ++ [v])[((-1 : Int) + ((ws ++ [v]).length : Nat)).toNat]? = _
  rw [show ((-1 : Int) + ((ws ++ [v]).length : Nat)).toNat = ws.length by rw [List.length_append]; simp; omega]
  simp
section
variable {P : Program} {w : World} {K : PySem.W.Frag} {mg : Str → Option Value} {base : Heap} {C cT : Addr}
def spKAdd (K : PySem.W.Frag) (mg : Str → Option Value) (C cT : Addr) : Sp := fun vs H Q _ => ∃ (S : Sl) (x f aT aL aB : Addr) (texts : List Str) (z : Str), vs = [.ref x, .str z] ∧ KpAt C cT S H x f aT aL aB texts ∧ SealAt K mg sNumd S H f ∧ Cap S H 5 ∧ Rem z ∧ texts.length ≤ 1000 ∧
  ∀ v H', KpAt C cT S H' x f aT aL aB (texts ++ [z]) → KeepL S 5 [aT, aL, aB] H H' → Q v H'
theorem scKA : FnScope ["self", "text", "table", "leaf"] ["self", "text"] (defScope kAdd) := ⟨rfl, rfl, rfl, by decide +kernel, rfl, by decide +kernel, by decide +kernel⟩
theorem ok_kadd (F : MethAt K C "add" "Keeper.add" kAdd) (T : TxK K mg C) (TT : Txt K mg cT) (Fc : FnP P w K mg base 4 "changed" ["table", "text", "depth"] (spChgR cT)) (Fl : FnP P w K mg base 2 "leaf_seal" ["seal", "text", "table"] (spMark K mg "leaf")) (Mh : MtP P w K mg base cT 20 "head" ["self"] (spTHead K mg cT)) (ml : mg "len" = none) : MtP P w K mg base C 21 "add" ["self", "text"] (spKAdd K mg C cT) := by
  refine F.ok scKA (fun _ _ _ _ _ _ us hl => match us, hl with | [_, _], _ => rfl) (fun vs H Q E h => ?_) (fun f0 cdv A outer s H vs Q E hr h => ?_)
  · obtain ⟨S, x, f, aT, aL, aB, texts, z, rfl, _⟩ := h; rfl
  obtain ⟨S, x, f, aT, aL, aB, texts, z, rfl, hK, hS, hc, hz, hl, q⟩ := h
  have nd := scKA.nd
  refine ⟨_, pss_cons (ps_set (i := 2) nd rfl (Or.inl rfl) (pe_callN Fc (hr.mono (by omega)) rfl (pa_cons (pe_ix ix_list (pe_fld (pv 0) rfl) (pe_un un_neg pe_int) (fun _ _ => rfl)) (pa_cons (pv 1) (pa_cons (pe_fld (pv 0) rfl) pa_nil))))) <|
    pss_cons (ps_set (i := 3) nd rfl (Or.inl rfl) (pe_callN Fl (hr.mono (by omega)) rfl (pa_cons (pe_fld (pv 0) rfl) (pa_cons (pv 1) (pa_cons (pe_methN0 Mh (pv 2) TT.cl hr) pa_nil))))) <|
    pss_cons (ps_expr (pe_bm PySem.F.plainAttrs_list PySem.F.slot_list_append PySem.F.type_list_append mt_append (pe_fld (pv 0) rfl) (pa_cons (pv 1) pa_nil))) <|
    pss_cons (ps_expr (pe_bm PySem.F.plainAttrs_list PySem.F.slot_list_append PySem.F.type_list_append mt_append (pe_fld (pv 0) rfl) (pa_cons (pv 3) pa_nil))) <|
    pss_cons (ps_expr (pe_bm PySem.F.plainAttrs_list PySem.F.slot_list_append PySem.F.type_list_append mt_append (pe_fld (pv 0) rfl) (pa_cons (pv 2) pa_nil))) <|
    pss_one (ps_ret (pe_op op_sub (pe_callB call_len_seq rfl ml PySem.boot_len (pa_cons (pe_fld (pv 0) rfl) pa_nil)) pe_int)), ?_⟩
  obtain ⟨⟨dx, h1⟩, h2, ⟨wL, h3, h4⟩, ⟨ws, t, d, h5, h6, h7⟩, n1, n2, n3⟩ := hK
  have wl := pr_len h4
  rw [List.length_map] at wl
  refine ⟨_, rfl, x, C, dx, _, _, rfl, h1, T.cl, T.n5, rfl, _, rfl, aB, _, _, _, rfl, rfl, SqL.of h5, at_last, _, rfl, _, rfl, x, C, dx, _, _, rfl, h1, T.cl, T.n2, rfl, ?_⟩
  refine ⟨t, d, f, 8, [], z, rfl, h7, hz, fun y e H1 T1 x1 => ?_⟩
  have g1 : Gr S 0 H H1 := .ext hS.told x1
  have h11 := x1 _ _ h1
  obtain ⟨⟨dy, y1⟩, e1⟩ := id T1
  have c8 : cstP 8 ([] : List Rw) = 1 := by simp [cstP]
  refine ⟨_, rfl, x, C, dx, _, _, rfl, h11, T.cl, T.n1, rfl, _, rfl, _, rfl, y, dy, _, rfl, y1, rfl, ?_⟩
  refine ⟨S, y, e, f, 8, [], [], rfl, T1, hS.up g1.gn, .nil, by simp, ⟨by simp, by simp⟩, by omega, by rw [c8]; exact hc.go g1.gn (by omega), fun v2 H2 g2 i2 => ?_⟩
  rw [c8] at g2
  have i2 : isT S H2 emT v2 := by
    have z0 : isT S H2 (.nd "table" (.int ((8 : Nat) : Int)) (topP 8 [])) v2 := i2
    rw [topP_nil] at z0; exact z0
  have g12 := g1.trans g2
  refine ⟨S, f, .str z, emT, _, _, rfl, hS.up g12.gn, hc.go g12.gn (by omega), rfl, i2, fun v3 H3 g3 i3 => ?_⟩
  have g13 := g12.trans g3
  have tld3 := g13.gn.told2
  have h13 := g13.same h1 (fun _ e => nomatch e)
  have h23 := g13.lst h2
  have h33 := g13.lst h3
  have h53 := g13.lst h5
  have h43 := isTs_up g13.gn h4
  have T3 := (T1.up g2).up g3
  have nxT : x ≠ aT := by rintro rfl; rw [h13] at h23; cases h23
  have nxL : x ≠ aL := by rintro rfl; rw [h13] at h33; cases h33
  have nxB : x ≠ aB := by rintro rfl; rw [h13] at h53; cases h53
  -- the text
  refine ⟨_, rfl, x, C, dx, _, _, rfl, h13, T.cl, T.n3, rfl, .inl ⟨rfl, _, SqL.of h23⟩, _, rfl, aT, _, _, rfl, rfl, h23, by rw [sizeLine_eq, List.length_map]; omega, ?_⟩
  have k4 : KeepL S 0 [aT, aL, aB] H3 (upd H3 aT (.lst (texts.map V.str ++ [.str z]))) := .chg tld3 h23 (by simp)
  generalize hH4 : upd H3 aT (.lst (texts.map V.str ++ [.str z])) = H4 at k4
  have a4 : ∀ b o, H3 b = some o → b ≠ aT → H4 b = some o := fun b o hb hn => by rw [← hH4, upd_ne hn]; exact hb
  have t4 : H4 aT = some (.lst (texts.map V.str ++ [.str z])) := by rw [← hH4, upd_same]
  -- the leaf
  refine ⟨_, rfl, x, C, dx, _, _, rfl, a4 _ _ h13 nxT, T.cl, T.n4, rfl, .inl ⟨rfl, _, SqL.of (a4 _ _ h33 n1.symm)⟩, _, rfl, aL, _, _, rfl, rfl, a4 _ _ h33 n1.symm, by rw [sizeLine_eq]; omega, ?_⟩
  have k5 : KeepL S 0 [aT, aL, aB] H4 (upd H4 aL (.lst (wL ++ [v3]))) := .chg k4.gn.told2 (a4 _ _ h33 n1.symm) (by simp)
  generalize hH5 : upd H4 aL (.lst (wL ++ [v3])) = H5 at k5
  have a5 : ∀ b o, H4 b = some o → b ≠ aL → H5 b = some o := fun b o hb hn => by rw [← hH5, upd_ne hn]; exact hb
  have l5 : H5 aL = some (.lst (wL ++ [v3])) := by rw [← hH5, upd_same]
  have b5 := a5 _ _ (a4 _ _ h53 n2.symm) n3.symm
  -- the table
  refine ⟨_, rfl, x, C, dx, _, _, rfl, a5 _ _ (a4 _ _ h13 nxT) nxL, T.cl, T.n5, rfl, .inl ⟨rfl, _, SqL.of b5⟩, _, rfl, aB, _, _, rfl, rfl, b5, by rw [sizeLine_eq, List.length_append]; simp; omega, ?_⟩
  have k6 : KeepL S 0 [aT, aL, aB] H5 (upd H5 aB (.lst (ws ++ [.ref t] ++ [.ref y]))) := .chg k5.gn.told2 b5 (by simp)
  generalize hH6 : upd H5 aB (.lst (ws ++ [.ref t] ++ [.ref y])) = H6 at k6
  have a6 : ∀ b o, H5 b = some o → b ≠ aB → H6 b = some o := fun b o hb hn => by rw [← hH6, upd_ne hn]; exact hb
  have b6 : H6 aB = some (.lst (ws ++ [.ref t] ++ [.ref y])) := by rw [← hH6, upd_same]
  have x6 := a6 _ _ (a5 _ _ (a4 _ _ h13 nxT) nxL) nxB
  have t6 := a6 _ _ (a5 _ _ t4 n1) n2
  refine ⟨_, rfl, x, C, dx, _, _, rfl, x6, T.cl, T.n3, rfl, aT, _, rfl, .inl (SqL.of t6), _, _, rfl, rfl, ?_⟩
  obtain ⟨⟨dy3, y3⟩, e3⟩ := T3
  have no : ∀ {a : Addr} {xs : List V} {b : Addr} {o : HO}, H3 a = some (.lst xs) → H3 b = some o → (∀ ys, o ≠ .lst ys) → b ≠ a := fun ha hb hn => by rintro rfl; rw [ha] at hb; cases hb; exact hn _ rfl
  have go : ∀ b o, H3 b = some o → (∀ ys, o ≠ .lst ys) → H6 b = some o := fun b o hb hn => a6 _ _ (a5 _ _ (a4 _ _ hb (no h23 hb hn)) (no h33 hb hn)) (no h53 hb hn)
  refine q _ _ ⟨⟨dx, x6⟩, ?_, ⟨wL ++ [v3], a6 _ _ l5 n3, ?_⟩, ⟨ws ++ [.ref t], y, e, b6, by simp; omega, ⟨dy3, go _ _ y3 (fun _ e => nomatch e)⟩, go _ _ e3 (fun _ e => nomatch e)⟩, n1, n2, n3⟩ (((((KeepL.of g13).trans k4).trans k5).trans k6).up (by omega))
  · rw [List.map_append]; exact t6
  · rw [List.map_append]
    have g36 := (k4.trans k5).trans k6
    exact pr_app (isTs_up g36.gn h43) (.cons (isT_up g36.gn i3) .nil)
def spKSow (C cT : Addr) : Sp := fun vs H Q _ => ∃ (S : Sl) (x f aT aL aB : Addr) (texts : List Str) (n : Nat), vs = [.ref x, .int n] ∧ KpAt C cT S H x f aT aL aB texts ∧ n ≤ texts.length ∧ Q (.int n) H
theorem scKS : FnScope ["self", "size"] ["self", "size"] (defScope kSow) := ⟨rfl, rfl, rfl, by decide +kernel, rfl, by decide +kernel, by decide +kernel⟩
theorem ok_ksow (F : MethAt K C "size_or_whole" "Keeper.size_or_whole" kSow) (T : TxK K mg C) (ml : mg "len" = none) : MtP P w K mg base C 1 "size_or_whole" ["self", "size"] (spKSow C cT) := by
  refine F.ok scKS (fun _ _ _ _ _ _ us hl => match us, hl with | [_, _], _ => rfl) (fun vs H Q E h => ?_) (fun f0 cdv A outer s H vs Q E hr h => ?_)
  · obtain ⟨S, x, f, aT, aL, aB, texts, n, rfl, _⟩ := h; rfl
  obtain ⟨S, x, f, aT, aL, aB, texts, n, rfl, hK, hn, q⟩ := h
  obtain ⟨dx, h1⟩ := hK.ob
  refine ⟨_, pss_cons (ps_if (pt_cmpR op_isN (pv 1) pe_non (nomark _)) pss_never pss_nil) <|
    pss_cons (ps_if (PW.pt (pw_or (pt_cmpR op_lt (pv 1) pe_int (nomark _)) (pw_or1 (pt_cmpR op_gt (pv 1) (pe_callB call_len_seq rfl ml PySem.boot_len (pa_cons (pe_fld (pv 0) rfl) pa_nil)) (nomark _))))) pss_never pss_nil) <|
    pss_one (ps_ret (pv 1)), ?_⟩
  refine ⟨_, rfl, rfl, _, rfl, iteF ?_⟩
  refine ⟨_, rfl, _, _, rfl, rfl, _, rfl, ?_⟩
  rw [decide_eq_false (show ¬ (n : Int) < 0 by omega)]
  refine iteF ?_
  refine ⟨_, rfl, _, rfl, x, C, dx, _, _, rfl, h1, T.cl, T.n3, rfl, aT, _, rfl, .inl (SqL.of hK.tx), _, _, rfl, rfl, _, rfl, ?_⟩
  rw [List.length_map, decide_eq_false (show ¬ (n : Int) > (texts.length : Int) by omega)]
  exact iteF ⟨_, rfl, q⟩
abbrev hdE (zs : List Str) : Tm := .nd "book" (.int (zs.length : Int)) (tpT (zs.map lfE))
def spKHead (K : PySem.W.Frag) (mg : Str → Option Value) (C cT : Addr) : Sp := fun vs H Q _ => ∃ (S : Sl) (x f aT aL aB : Addr) (texts : List Str) (n : Nat), vs = [.ref x, .int n] ∧ KpAt C cT S H x f aT aL aB texts ∧ SealAt K mg sNumd S H f ∧ n ≤ texts.length ∧ texts.length ≤ 300 ∧ Cap S H 310 ∧ ∀ v H', Gr S 310 H H' → isT S H' (hdE (texts.take n)) v → Q v H'
theorem scKH : FnScope ["self", "size", "count"] ["self", "size"] (defScope kHead) := ⟨rfl, rfl, rfl, by decide +kernel, rfl, by decide +kernel, by decide +kernel⟩
theorem ok_khead (F : MethV K C "head" "Keeper.head" kHead .non) (T : TxK K mg C) (Ms : MtP P w K mg base C 1 "size_or_whole" ["self", "size"] (spKSow C cT)) (Fb : FnP P w K mg base 2 "book_seal" ["seal", "size", "top"] (spMark K mg "book")) (Ft : FnP P w K mg base 12 "top_of" ["seal", "leaves"] (spTop K mg 9)) : MtD P w K mg base C 13 "head" ["self", "size"] (spKHead K mg C cT) .non := by
  refine F.ok scKH (fun _ _ _ _ _ _ _ _ us hl => match us, hl with | [_, _], _ => ⟨_, rfl, rfl⟩) (fun _ _ _ _ _ _ _ _ us hl => match us, hl with | [_], _ => ⟨_, rfl, rfl⟩) (fun vs H Q E h => ?_) (fun f0 cdv A outer s H vs Q E hr h => ?_)
  · obtain ⟨S, x, f, aT, aL, aB, texts, n, rfl, _⟩ := h; rfl
  obtain ⟨S, x, f, aT, aL, aB, texts, n, rfl, hK, hS, hn, hl, hc, q⟩ := h
  have nd := scKH.nd
  obtain ⟨dx, h1⟩ := hK.ob
  obtain ⟨wL, h3, h4⟩ := hK.lv
  refine ⟨_, pss_cons (ps_set (i := 2) nd rfl (Or.inl rfl) (pe_methN Ms (pv 0) T.cl (hr.mono (by omega)) (pa_cons (pv 1) pa_nil))) <|
    pss_one (ps_ret (pe_callN Fb (hr.mono (by omega)) rfl (pa_cons (pe_fld (pv 0) rfl) (pa_cons (pv 2) (pa_cons (pe_callN Ft hr rfl (pa_cons (pe_fld (pv 0) rfl) (pa_cons (pe_slice sl_list (pe_fld (pv 0) rfl) po_none (po_some (pv 2))) pa_nil))) pa_nil))))), ?_⟩
  refine ⟨_, rfl, x, dx, _, rfl, h1, rfl, _, rfl, S, x, f, aT, aL, aB, texts, n, rfl, hK, hn, ?_⟩
  refine ⟨_, rfl, x, C, dx, _, _, rfl, h1, T.cl, T.n1, rfl, _, rfl, _, rfl, x, C, dx, _, _, rfl, h1, T.cl, T.n1, rfl, _, rfl, x, C, dx, _, _, rfl, h1, T.cl, T.n4, rfl, _, rfl, _, rfl, aL, wL, rfl, SqL.of h3, fun p hp => ?_⟩
  have g1 : Gr S 0 H (upd H p (.lst (cutV wL none (some (n : Int))))) := .new hS.told hp
  have l1 : upd H p (.lst (cutV wL none (some (n : Int)))) p = some (.lst (wL.take n)) := by rw [upd_same, show cutV wL none (some (n : Int)) = wL.take n from cut_take]
  have lt : ((texts.map lfE).take n).length = n := by rw [List.length_take, List.length_map]; omega
  have cl := cst_le ((texts.map lfE).take n)
  refine ⟨S, f, p, _, (texts.map lfE).take n, rfl, hS.up g1.gn, SqL.of l1, pr_take n (isTs_up g1.gn h4), by omega, hc.go g1.gn (by omega), fun v H2 g2 i2 => ?_⟩
  have g12 := g1.trans g2
  refine ⟨S, f, .int (n : Int), _, _, _, rfl, hS.up g12.gn, hc.go g12.gn (by omega), rfl, i2, fun v3 H3 g3 i3 => q v3 H3 ((g12.trans g3).up (by omega)) ?_⟩
  have e1 : (texts.take n).length = n := by rw [List.length_take]; omega
  show isT S H3 (.nd "book" (.int ((texts.take n).length : Int)) (tpT ((texts.take n).map lfE))) v3
  rw [e1, List.map_take]; exact i3
def spCkP : Sp := fun vs H Q _ => ∃ p n : Nat, vs = [.int p, .int n] ∧ p < n ∧ Q .non H
theorem scCP : FnScope ["place", "size"] ["place", "size"] (defScope sCheckP) := ⟨rfl, rfl, rfl, by decide +kernel, rfl, by decide +kernel, by decide +kernel⟩
theorem ok_ckp (F : FunAt K mg "check_place" sCheckP) : FnP P w K mg base 1 "check_place" ["place", "size"] spCkP := by
  refine F.ok scCP (fun _ _ _ _ _ _ us hl => match us, hl with | [_, _], _ => rfl) (fun vs H Q E h => ?_) (fun f0 cdv A outer s H vs Q E hr h => ?_)
  · obtain ⟨p, n, rfl, _⟩ := h; rfl
  obtain ⟨p, n, rfl, hp, q⟩ := h
  refine ⟨_, pss_one (ps_if (PW.pt (pw_or (pt_cmpR op_lt (pv 0) pe_int (nomark _)) (pw_or1 (pt_cmpR op_ge (pv 0) (pv 1) (nomark _))))) pss_never pss_nil), ?_⟩
  refine ⟨_, rfl, _, _, rfl, rfl, _, rfl, ?_⟩
  rw [decide_eq_false (show ¬ (p : Int) < 0 by omega)]
  refine iteF ?_
  refine ⟨_, rfl, _, rfl, _, _, rfl, rfl, _, rfl, ?_⟩
  rw [decide_eq_false (show ¬ (p : Int) ≥ (n : Int) by omega)]
  exact iteF q
def spKPath (K : PySem.W.Frag) (mg : Str → Option Value) (C cT : Addr) : Sp := fun vs H Q _ => ∃ (S : Sl) (x f aT aL aB : Addr) (texts : List Str) (p n : Nat), vs = [.ref x, .int p, .int n] ∧ KpAt C cT S H x f aT aL aB texts ∧ SealAt K mg sNumd S H f ∧ p < n ∧ n ≤ texts.length ∧ texts.length ≤ 300 ∧ Cap S H 310 ∧
  ∀ r rs H', Gr S 310 H H' → H' r = some (.lst rs) → isTs S H' (paT ((texts.take n).map lfE) p) rs → Q (.ref r) H'
theorem scKP : FnScope ["self", "place", "size", "count"] ["self", "place", "size"] (defScope kPath) := ⟨rfl, rfl, rfl, by decide +kernel, rfl, by decide +kernel, by decide +kernel⟩
theorem ok_kpath (F : MethV K C "path" "Keeper.path" kPath .non) (T : TxK K mg C) (Ms : MtP P w K mg base C 1 "size_or_whole" ["self", "size"] (spKSow C cT)) (Fc : FnP P w K mg base 1 "check_place" ["place", "size"] spCkP) (Fp : FnP P w K mg base 13 "path_of" ["seal", "leaves", "place"] (spPath K mg 9)) : MtD P w K mg base C 14 "path" ["self", "place", "size"] (spKPath K mg C cT) .non := by
  refine F.ok scKP (fun _ _ _ _ _ _ _ _ us hl => match us, hl with | [_, _, _], _ => ⟨_, rfl, rfl⟩) (fun _ _ _ _ _ _ _ _ us hl => match us, hl with | [_, _], _ => ⟨_, rfl, rfl⟩) (fun vs H Q E h => ?_) (fun f0 cdv A outer s H vs Q E hr h => ?_)
  · obtain ⟨S, x, f, aT, aL, aB, texts, p, n, rfl, _⟩ := h; rfl
  obtain ⟨S, x, f, aT, aL, aB, texts, p, n, rfl, hK, hS, hp, hn, hl, hc, q⟩ := h
  have nd := scKP.nd
  obtain ⟨dx, h1⟩ := hK.ob
  obtain ⟨wL, h3, h4⟩ := hK.lv
  refine ⟨_, pss_cons (ps_set (i := 3) nd rfl (Or.inl rfl) (pe_methN Ms (pv 0) T.cl (hr.mono (by omega)) (pa_cons (pv 2) pa_nil))) <|
    pss_cons (ps_expr (pe_callN Fc (hr.mono (by omega)) rfl (pa_cons (pv 1) (pa_cons (pv 3) pa_nil)))) <|
    pss_one (ps_ret (pe_callN Fp hr rfl (pa_cons (pe_fld (pv 0) rfl) (pa_cons (pe_slice sl_list (pe_fld (pv 0) rfl) po_none (po_some (pv 3))) (pa_cons (pv 1) pa_nil))))), ?_⟩
  refine ⟨_, rfl, x, dx, _, rfl, h1, rfl, _, rfl, S, x, f, aT, aL, aB, texts, n, rfl, hK, hn, ?_⟩
  refine ⟨_, rfl, _, rfl, p, n, rfl, hp, ?_⟩
  refine ⟨_, rfl, x, C, dx, _, _, rfl, h1, T.cl, T.n1, rfl, _, rfl, x, C, dx, _, _, rfl, h1, T.cl, T.n4, rfl, _, rfl, _, rfl, aL, wL, rfl, SqL.of h3, fun p1 hp1 => ⟨_, rfl, ?_⟩⟩
  have g1 : Gr S 0 H (upd H p1 (.lst (cutV wL none (some (n : Int))))) := .new hS.told hp1
  have l1 : upd H p1 (.lst (cutV wL none (some (n : Int)))) p1 = some (.lst (wL.take n)) := by rw [upd_same, show cutV wL none (some (n : Int)) = wL.take n from cut_take]
  have lt : ((texts.take n).map lfE).length = n := by rw [List.length_map, List.length_take]; omega
  refine ⟨S, f, p1, _, (texts.take n).map lfE, p, rfl, hS.up g1.gn, SqL.of l1, by rw [List.map_take]; exact pr_take n (isTs_up g1.gn h4), by omega, by omega, hc.go g1.gn (by omega), fun r rs H2 g2 nr er ir => q r rs H2 ((g1.trans g2).up (by omega)) er ir⟩
def spKGrow (K : PySem.W.Frag) (mg : Str → Option Value) (C cT : Addr) : Sp := fun vs H Q _ => ∃ (S : Sl) (x f aT aL aB : Addr) (texts : List Str) (p n : Nat), vs = [.ref x, .int p, .int n] ∧ KpAt C cT S H x f aT aL aB texts ∧ SealAt K mg sNumd S H f ∧ p ≤ n ∧ n ≤ texts.length ∧ texts.length ≤ 300 ∧ Cap S H 310 ∧
  ∀ r rs H', Gr S 310 H H' → H' r = some (.lst rs) → isTs S H' (gwT ((texts.take n).map lfE) p) rs → Q (.ref r) H'
theorem scKG : FnScope ["self", "old", "size", "count"] ["self", "old", "size"] (defScope kGrowth) := ⟨rfl, rfl, rfl, by decide +kernel, rfl, by decide +kernel, by decide +kernel⟩
theorem ok_kgrow (F : MethV K C "growth" "Keeper.growth" kGrowth .non) (T : TxK K mg C) (Ms : MtP P w K mg base C 1 "size_or_whole" ["self", "size"] (spKSow C cT)) (Fg : FnP P w K mg base 13 "growth_of" ["seal", "leaves", "old"] (spGrow K mg 9)) : MtD P w K mg base C 14 "growth" ["self", "old", "size"] (spKGrow K mg C cT) .non := by
  refine F.ok scKG (fun _ _ _ _ _ _ _ _ us hl => match us, hl with | [_, _, _], _ => ⟨_, rfl, rfl⟩) (fun _ _ _ _ _ _ _ _ us hl => match us, hl with | [_, _], _ => ⟨_, rfl, rfl⟩) (fun vs H Q E h => ?_) (fun f0 cdv A outer s H vs Q E hr h => ?_)
  · obtain ⟨S, x, f, aT, aL, aB, texts, p, n, rfl, _⟩ := h; rfl
  obtain ⟨S, x, f, aT, aL, aB, texts, p, n, rfl, hK, hS, hp, hn, hl, hc, q⟩ := h
  have nd := scKG.nd
  obtain ⟨dx, h1⟩ := hK.ob
  obtain ⟨wL, h3, h4⟩ := hK.lv
  refine ⟨_, pss_cons (ps_set (i := 3) nd rfl (Or.inl rfl) (pe_methN Ms (pv 0) T.cl (hr.mono (by omega)) (pa_cons (pv 2) pa_nil))) <|
    pss_cons (ps_if (PW.pt (pw_or (pt_cmpR op_lt (pv 1) pe_int (nomark _)) (pw_or1 (pt_cmpR op_gt (pv 1) (pv 3) (nomark _))))) pss_never pss_nil) <|
    pss_one (ps_ret (pe_callN Fg hr rfl (pa_cons (pe_fld (pv 0) rfl) (pa_cons (pe_slice sl_list (pe_fld (pv 0) rfl) po_none (po_some (pv 3))) (pa_cons (pv 1) pa_nil))))), ?_⟩
  refine ⟨_, rfl, x, dx, _, rfl, h1, rfl, _, rfl, S, x, f, aT, aL, aB, texts, n, rfl, hK, hn, ?_⟩
  refine ⟨_, rfl, _, _, rfl, rfl, _, rfl, ?_⟩
  rw [decide_eq_false (show ¬ (p : Int) < 0 by omega)]
  refine iteF ?_
  refine ⟨_, rfl, _, rfl, _, _, rfl, rfl, _, rfl, ?_⟩
  rw [decide_eq_false (show ¬ (p : Int) > (n : Int) by omega)]
  refine iteF ?_
  refine ⟨_, rfl, x, C, dx, _, _, rfl, h1, T.cl, T.n1, rfl, _, rfl, x, C, dx, _, _, rfl, h1, T.cl, T.n4, rfl, _, rfl, _, rfl, aL, wL, rfl, SqL.of h3, fun p1 hp1 => ⟨_, rfl, ?_⟩⟩
  have g1 : Gr S 0 H (upd H p1 (.lst (cutV wL none (some (n : Int))))) := .new hS.told hp1
  have l1 : upd H p1 (.lst (cutV wL none (some (n : Int)))) p1 = some (.lst (wL.take n)) := by rw [upd_same, show cutV wL none (some (n : Int)) = wL.take n from cut_take]
  have lt : ((texts.take n).map lfE).length = n := by rw [List.length_map, List.length_take]; omega
  refine ⟨S, f, p1, _, (texts.take n).map lfE, p, rfl, hS.up g1.gn, SqL.of l1, by rw [List.map_take]; exact pr_take n (isTs_up g1.gn h4), by omega, by omega, hc.go g1.gn (by omega), fun r rs H2 g2 nr er ir => q r rs H2 ((g1.trans g2).up (by omega)) er ir⟩
end
end My
namespace My
open PySem L2
theorem st_iff {ts : List Tm} {size held place : Nat} {os : List Tm} {tl t0 : Tm} (hp : place < size) (hs : size ≤ ts.length) (ht : ts[place]? = some t0) :
    stB (some os) (size : Int) (place : Int) (.nd "book" (.int (held : Int)) (tpT (ts.take held))) tl = decide (held = size ∧ tl = t0 ∧ os = paT (ts.take size) place) := by
  have hl : (ts.take size).length = size := by rw [List.length_take]; omega
  have ht' : (ts.take size)[place]? = some t0 := by rw [List.getElem?_take, if_pos hp]; exact ht
  obtain ⟨p1, p2⟩ := Gb.path_turns nlT prT size (ts.take size) place hl hp
  have p2 := p2 t0 ht'
  show decide _ = decide _
  rw [decide_eq_decide]
  constructor
  · rintro ⟨_, _, h1, h2⟩
    have h1 : os.length = (Gb.turnsT size place).length := h1
    have h2 : Tm.nd "book" (.int (size : Int)) (Gb.rise prT (Gb.turnsT size place).reverse os tl) = .nd "book" (.int (held : Int)) (tpT (ts.take held)) := h2
    injection h2 with _ e1 e2
    injection e1 with e1
    have e : held = size := by omega
    subst e
    have e2 : Gb.rise prT (Gb.turnsT held place).reverse os tl = Gb.topT nlT prT (ts.take held) := e2
    rw [← p2] at e2
    obtain ⟨q1, q2⟩ := Gb.rise_inj prT prT_inj (by rw [List.length_reverse]; omega) (by rw [List.length_reverse]; omega) e2
    exact ⟨rfl, q2, q1⟩
  · rintro ⟨rfl, rfl, rfl⟩
    refine ⟨by omega, by omega, p1, ?_⟩
    show Tm.nd "book" (.int (held : Int)) (Gb.rise prT (Gb.turnsT held place).reverse (Gb.pathT nlT prT (ts.take held) place) tl) = _
    rw [p2]
theorem st_out {po : Option (List Tm)} {size place : Int} {th tl : Tm} (h : ¬ (0 ≤ place ∧ place < size)) : stB po size place th tl = false := by
  cases po with
  | none => rfl
  | some os => exact decide_eq_false fun y => h ⟨y.1, y.2.1⟩
theorem gr_iff {ts : List Tm} {size held old : Nat} {os : List Tm} {te : Tm} (h1 : 1 ≤ old) (h2 : old ≤ size) (hs : size ≤ ts.length) :
    grB (some os) (size : Int) (old : Int) (.nd "book" (.int (held : Int)) (tpT (ts.take held))) te = decide (held = size ∧ te = .nd "book" (.int (old : Int)) (tpT (ts.take old)) ∧ os = gwT (ts.take size) old) := by
  have hl : (ts.take size).length = size := by rw [List.length_take]; omega
  obtain ⟨g0, gs, e1, e2, e3⟩ := Gb.grow_turns nlT prT size (ts.take size) old hl h1 h2
  have e1 : gwT (ts.take size) old = g0 :: gs := e1
  rw [List.take_take, Nat.min_eq_left h2] at e3
  match os with
  | [] =>
    rw [e1]
    show decide _ = decide _
    rw [decide_eq_decide]
    constructor
    · intro y; omega
    · rintro ⟨_, _, z⟩; cases z
  | o0 :: os =>
    show decide _ = decide _
    rw [decide_eq_decide, e1]
    constructor
    · rintro ⟨_, _, q1, q2, q3⟩
      have q1 : os.length = (Gb.gturnsT size old).length := q1
      have q2 : Tm.nd "book" (.int (old : Int)) (Gb.riseG prT (Gb.gturnsT size old).reverse os (o0, o0)).1 = te := q2
      have q3 : Tm.nd "book" (.int (size : Int)) (Gb.riseG prT (Gb.gturnsT size old).reverse os (o0, o0)).2 = .nd "book" (.int (held : Int)) (tpT (ts.take held)) := q3
      injection q3 with _ z1 z2
      injection z1 with z1
      have e : held = size := by omega
      subst e
      have z3 : (Gb.riseG prT (Gb.gturnsT held old).reverse gs (g0, g0)).2 = tpT (ts.take held) := by rw [e3]
      rw [Gb.riseG_snd] at z2 z3
      rw [← z3] at z2
      obtain ⟨r1, r2⟩ := Gb.rise_inj prT prT_inj (by rw [List.length_reverse]; omega) (by rw [List.length_reverse]; omega) z2
      have r2 : o0 = g0 := r2
      subst r1 r2
      rw [e3] at q2
      exact ⟨rfl, q2.symm, rfl⟩
    · rintro ⟨rfl, rfl, z⟩
      injection z with z1 z2
      subst z1 z2
      refine ⟨by omega, by omega, e2, ?_, ?_⟩
      · show Tm.nd "book" (.int (old : Int)) (Gb.riseG prT (Gb.gturnsT held old).reverse os (o0, o0)).1 = _
        rw [e3]
      · show Tm.nd "book" (.int (held : Int)) (Gb.riseG prT (Gb.gturnsT held old).reverse os (o0, o0)).2 = _
        rw [e3]
theorem gr_out {po : Option (List Tm)} {size old : Int} {th te : Tm} (h0 : 0 < old) (h : ¬ old ≤ size) : grB po size old th te = false := by
  match po with
  | none => rfl
  | some [] => exact decide_eq_false fun y => by omega
  | some (g0 :: os) => exact decide_eq_false fun y => by omega
theorem gr_held {po : Option (List Tm)} {size held old : Int} {t te : Tm} (h0 : 0 < old) (h : held ≠ size) : grB po size old (.nd "book" (.int held) t) te = false := by
  match po with
  | none => rfl
  | some [] => exact decide_eq_false fun y => by omega
  | some (g0 :: os) =>
    refine decide_eq_false fun y => h ?_
    obtain ⟨_, _, _, _, z⟩ := y
    injection z with _ z _
    injection z with z
    exact z.symm
theorem gr_zero {po : Option (List Tm)} {size : Nat} {th te : Tm} : grB po (size : Int) 0 th te = (decide (te = mtT) && decide (po = some []) && (decide (0 < size) || decide (th = te))) := by
  match po with
  | none => simp [grB]
  | some (g0 :: os) =>
    rw [gr_cons0]
    simp
  | some [] =>
    show decide _ = _
    rw [Bool.eq_iff_iff]
    simp only [decide_eq_true_eq, Bool.and_eq_true, Bool.or_eq_true]
    constructor
    · rintro ⟨_, h1, h2⟩
      refine ⟨⟨h2.symm, trivial⟩, ?_⟩
      by_cases hz : size = 0
      · right; rw [← h2, h1 (by omega)]
      · left; omega
    · rintro ⟨⟨h1, _⟩, h2⟩
      refine ⟨trivial, fun hz => ?_, h1.symm⟩
      rcases h2 with h2 | h2
      · omega
      · rw [h2, h1]
theorem joinIf {c : TT} {ta tb : TE} {σ : St} {H : Hp} {Q : VK} (R : V → Hp → Prop) (hm : ∀ Q' : VK, (∀ v H', R v H' → Q' v H') → tIf c ta tb σ H Q') (hq : ∀ v H', R v H' → Q v H') : tIf c ta tb σ H Q := hm Q hq
theorem joinAsg {c : TT} {ta tb : TE} {g : TG} {rest : TS} {D : Ends} {σ : St} {H : Hp} (R : V → Hp → Prop) (hm : ∀ Q' : VK, (∀ v H', R v H' → Q' v H') → tIf c ta tb σ H Q') (hq : ∀ v H', R v H' → g v σ H' (rest D)) : tSeq (tAsg (tIf c ta tb) g) rest D σ H := hm _ hq
theorem gd_nl {lf : Srt} {B : Nat} (h : 1 ≤ B) : Gd lf B nlT := ⟨h, ws_nl⟩
abbrev nBe : List Str := ["_law_seal", "_law_paper", "_law_cell", "_law_bend", "_law_at"]
section
variable {P : Program} {w : World} {K : PySem.W.Frag} {mg : Str → Option Value} {base : Heap}
def spBent (K : PySem.W.Frag) (mg : Str → Option Value) (B : Nat) : Sp := fun vs H Q _ => ∃ S f b ws os, ∃ cell : Int, vs = [.ref f, .ref b, .int cell] ∧ SealAt K mg sNumd S H f ∧ Cap S H 1 ∧ H b = some (.lst ws) ∧ isTs S H os ws ∧ (∀ t ∈ os, Gd .nd B t) ∧ 1 ≤ B ∧ ws.length ≤ 1000 ∧
  ∀ pv po H', Gr S 1 H H' → Pap .nd S H' B pv po → Q pv H'
theorem scBe : FnScope nBe ["_law_seal", "_law_paper", "_law_cell"] (defScope sBent) := ⟨rfl, rfl, rfl, by decide +kernel, rfl, by decide +kernel, by decide +kernel⟩
theorem ok_bent (F : FunAt K mg "_law_bent" sBent) (Fd : FnP P w K mg base 1 "_law_draw" ["_law_cell", "_law_k", "_law_many"] spDraw) (Fl : CallOk P w K mg base CX0 1 (spSeal K mg sNumd)) (ml : mg "len" = none) (mli : mg "list" = none) (mre : mg "reversed" = none) (mt : mg "tuple" = none) (B : Nat) : FnP P w K mg base 2 "_law_bent" ["_law_seal", "_law_paper", "_law_cell"] (spBent K mg B) := by
  refine F.ok scBe (fun _ _ _ _ _ _ us hl => match us, hl with | [_, _, _], _ => rfl) (fun vs H Q E h => ?_) (fun f0 cdv A outer s H vs Q E hr h => ?_)
  · obtain ⟨S, f, b, ws, os, cell, rfl, _⟩ := h; rfl
  obtain ⟨S, f, b, ws, os, cell, rfl, hS, hc, hb, it, hg, hB, hl, q⟩ := h
  have nd := scBe.nd
  refine ⟨_, pss_cons (ps_set (i := 3) nd rfl (Or.inl rfl) (pe_callN Fd hr rfl (pa_cons (pv 2) (pa_cons pe_int (pa_cons pe_int pa_nil))))) <|
    pss_cons (ps_set (i := 4) nd rfl (Or.inl rfl) (pe_callN Fd hr rfl (pa_cons (pv 2) (pa_cons pe_int (pa_cons (pe_op op_add (pe_callB call_len_seq rfl ml PySem.boot_len (pa_cons (pv 1) pa_nil)) pe_int) pa_nil))))) <|
    pss_cons (ps_if (pt_cmpR op_eq (pv 3) pe_int (nomark _)) (pss_one (ps_ret (pe_op op_cat (pe_slice sl_list (pv 1) po_none (po_some (pv 4))) (pe_slice sl_list (pv 1) (po_some (pe_op op_add (pv 4) pe_int)) po_none)))) pss_nil) <|
    pss_cons (ps_if (pt_cmpR op_eq (pv 3) pe_int (nomark _)) (pss_one (ps_ret (pe_op op_cat (pe_op op_cat (pe_slice sl_list (pv 1) po_none (po_some (pv 4))) (pe_lst (pa_cons (pe_callV (i := 0) Fl hr pass0 rfl (Or.inl rfl) (pa_cons pe_str (pa_cons pe_int (pa_cons pe_int pa_nil)))) pa_nil))) (pe_slice sl_list (pv 1) (po_some (pv 4)) po_none)))) pss_nil) <|
    pss_cons (ps_if (pt_cmpR op_eq (pv 3) pe_int (nomark _)) (pss_one (ps_ret (pe_listRev rfl rfl mre rfl mli (pa_cons (pv 1) pa_nil)))) pss_nil) <|
    pss_cons (ps_if (pt_cmpR op_eq (pv 3) pe_int (nomark _)) (pss_one (ps_ret (pe_callTy call_tuple_of rfl mt PyProof.Rows.boot_tuple (pa_cons (pv 1) pa_nil)))) pss_nil) <|
    pss_one (ps_ret (pv 1)), ?_⟩
  refine ⟨_, rfl, cell, 6, 12, rfl, by decide, by decide, fun v1 H1 _ _ x1 => ?_⟩
  have g1 : Gr S 0 H H1 := .ext hS.told x1
  refine ⟨_, rfl, _, rfl, b, ws, rfl, .inl (SqL.of (x1 _ _ hb)), _, _, rfl, rfl, cell, 7, _, rfl, by decide, by omega, fun v2 H2 a2 b2 x2 => ?_⟩
  have g2 : Gr S 0 H H2 := g1.trans (.ext g1.gn.told2 x2)
  have hb2 := g2.lst hb
  have hS2 := hS.up g2.gn
  have it2 := isTs_up g2.gn it
  have hc2 : Cap S H2 1 := hc.go g2.gn (by omega)
  obtain ⟨k, rfl⟩ : ∃ k : Nat, v2 = (k : Int) := ⟨v2.toNat, by omega⟩
  have q2 : ∀ pv po H', Gr S 1 H2 H' → Pap .nd S H' B pv po → Q pv H' := fun pv po H' g => q pv po H' ((g2.trans g).up (by omega))
  have cz := cutV_length ws none (some (k : Int))
  have cz2 := cutV_length ws (some ((k : Int) + 1)) none
  have cz3 := cutV_length ws (some (k : Int)) none
  -- one left out
  refine ⟨_, rfl, rfl, _, rfl, ?_⟩
  refine ite2 (fun _ => ?_) (fun _ => ?_)
  · refine ⟨_, rfl, _, rfl, _, rfl, b, ws, rfl, SqL.of hb2, fun p hp => ?_⟩
    have g3 : Gr S 0 H2 (upd H2 p (.lst (cutV ws none (some (k : Int))))) := .new hS2.told hp
    refine ⟨_, rfl, _, rfl, _, _, rfl, rfl, _, rfl, ?_⟩
    refine ⟨b, ws, rfl, SqL.of (g3.lst hb2), fun p4 hp4 => ?_⟩
    dsimp only at hp4 ⊢
    generalize hH3 : upd H2 p (.lst (cutV ws none (some (k : Int)))) = H3 at g3 hp4 ⊢
    have l3 : H3 p = some (.lst (cutV ws none (some (k : Int)))) := by rw [← hH3]; exact upd_same
    have g4 : Gr S 0 H3 (upd H3 p4 (.lst (cutV ws (some ((k : Int) + 1)) none))) := .new g3.gn.told2 hp4
    refine ⟨p, p4, _, _, rfl, rfl, g4.lst l3, upd_same, by rw [sizeLine_eq]; omega, fun p5 hp5 => ?_⟩
    have g5 : Gr S 0 _ (upd (upd H3 p4 (.lst (cutV ws (some ((k : Int) + 1)) none))) p5 (.lst (cutV ws none (some (k : Int)) ++ cutV ws (some ((k : Int) + 1)) none))) := .new g4.gn.told2 hp5
    have gg := (g3.trans g4).trans g5
    refine q2 _ (some (os.take k ++ os.drop (k + 1))) _ (gg.up (by omega)) ⟨p5, _, rfl, upd_same, ?_, fun t ht => ?_⟩
    · have it6 := isTs_up gg.gn it2
      generalize upd (upd H3 p4 (.lst (cutV ws (some ((k : Int) + 1)) none))) p5 (.lst (cutV ws none (some (k : Int)) ++ cutV ws (some ((k : Int) + 1)) none)) = H6 at it6
      rw [show cutV ws none (some (k : Int)) = ws.take k from cut_take, show cutV ws (some ((k : Int) + 1)) none = ws.drop (k + 1) from cut_drop (k := k + 1)]
      exact pr_app (pr_take k it6) (pr_drop (k + 1) it6)
    · rcases List.mem_append.mp ht with z | z
      · exact hg t (List.mem_of_mem_take z)
      · exact hg t (List.mem_of_mem_drop z)
  -- one put in
  refine ⟨_, rfl, rfl, _, rfl, ?_⟩
  refine ite2 (fun _ => ?_) (fun _ => ?_)
  · refine ⟨_, rfl, _, rfl, _, rfl, b, ws, rfl, SqL.of hb2, fun p hp => ?_⟩
    have g3 : Gr S 0 H2 (upd H2 p (.lst (cutV ws none (some (k : Int))))) := .new hS2.told hp
    dsimp only
    generalize hH3 : upd H2 p (.lst (cutV ws none (some (k : Int)))) = H3 at g3 ⊢
    have l3 : H3 p = some (.lst (cutV ws none (some (k : Int)))) := by rw [← hH3]; exact upd_same
    have hS3 := hS2.up g3.gn
    refine ⟨f, rfl, hS3.fny, hS3.fny, S, _, .int 0, .int 0, _, _, hS3, hc2.go g3.gn (by omega), rfl, rfl, rfl, fun v H4 g4 i4 => ⟨by show 1 ≤ sizeLine; decide, fun p5 hp5 => ?_⟩⟩
    have g5 : Gr S 0 H4 (upd H4 p5 (.lst [v])) := .new g4.gn.told2 hp5
    refine ⟨p, p5, _, _, rfl, rfl, g5.lst (g4.lst l3), upd_same, by rw [sizeLine_eq]; simp; omega, fun p6 hp6 => ?_⟩
    have g6 : Gr S 0 _ (upd (upd H4 p5 (.lst [v])) p6 (.lst (cutV ws none (some (k : Int)) ++ [v]))) := .new g5.gn.told2 hp6
    have g36 := ((g3.trans g4).trans g5).trans g6
    generalize hH6 : upd (upd H4 p5 (.lst [v])) p6 (.lst (cutV ws none (some (k : Int)) ++ [v])) = H6 at g6 g36
    have l6 : H6 p6 = some (.lst (cutV ws none (some (k : Int)) ++ [v])) := by rw [← hH6]; exact upd_same
    refine ⟨_, rfl, _, rfl, _, rfl, b, ws, rfl, SqL.of (g36.lst hb2), fun p7 hp7 => ?_⟩
    have g7 : Gr S 0 H6 (upd H6 p7 (.lst (cutV ws (some (k : Int)) none))) := .new g6.gn.told2 hp7
    refine ⟨p6, p7, _, _, rfl, rfl, g7.lst l6, upd_same, by rw [sizeLine_eq]; simp; omega, fun p8 hp8 => ?_⟩
    have g8 : Gr S 0 _ (upd (upd H6 p7 (.lst (cutV ws (some (k : Int)) none))) p8 (.lst (cutV ws none (some (k : Int)) ++ [v] ++ cutV ws (some (k : Int)) none))) := .new g7.gn.told2 hp8
    have gg := (g36.trans g7).trans g8
    refine q2 _ (some (os.take k ++ [nlT] ++ os.drop k)) _ (gg.up (by omega)) ⟨p8, _, rfl, upd_same, ?_, fun t ht => ?_⟩
    · have it6 := isTs_up gg.gn it2
      have iv6 := isT_up (((g5.trans g6).trans g7).trans g8).gn i4
      generalize upd (upd H6 p7 (.lst (cutV ws (some (k : Int)) none))) p8 (.lst (cutV ws none (some (k : Int)) ++ [v] ++ cutV ws (some (k : Int)) none)) = H9 at it6 iv6
      rw [show cutV ws none (some (k : Int)) = ws.take k from cut_take, show cutV ws (some (k : Int)) none = ws.drop k from cut_drop (k := k)]
      exact pr_app (pr_app (pr_take k it6) (.cons iv6 .nil)) (pr_drop k it6)
    · rcases List.mem_append.mp ht with z | z
      · rcases List.mem_append.mp z with z | z
        · exact hg t (List.mem_of_mem_take z)
        · rw [List.mem_singleton.mp z]; exact gd_nl hB
      · exact hg t (List.mem_of_mem_drop z)
  -- turned round
  refine ⟨_, rfl, rfl, _, rfl, ?_⟩
  refine ite2 (fun _ => ?_) (fun _ => ?_)
  · refine ⟨_, rfl, b, ws, rfl, SqL.of hb2, fun p hp => ?_⟩
    have g : Gr S 0 H2 (upd H2 p (.lst ws.reverse)) := .new hS2.told hp
    exact q2 _ (some os.reverse) _ (g.up (by omega)) ⟨p, _, rfl, upd_same, pr_reverse (isTs_up g.gn it2), fun t ht => hg t (List.mem_reverse.mp ht)⟩
  -- no list
  refine ⟨_, rfl, rfl, _, rfl, ?_⟩
  refine ite2 (fun _ => ?_) (fun _ => ?_)
  · refine ⟨_, rfl, b, ws, rfl, .inl ⟨SqL.of hb2, fun p hp => ?_⟩⟩
    have g : Gr S 0 H2 (upd H2 p (.tup ws)) := .new hS2.told hp
    exact q2 _ none _ (g.up (by omega)) (.inr ⟨p, ws, os, rfl, upd_same, isTs_up g.gn it2, hg⟩)
  -- as it is
  exact ⟨_, rfl, q2 _ (some os) _ ((Gr.refl hS2.told).up (by omega)) ⟨b, ws, rfl, hb2, it2, hg⟩⟩
end
end My
namespace My
open PySem L2
theorem gS_table (lf : Srt) : gS lf "table" = (.int, .nd) := by unfold gS; rw [if_neg (by decide), if_neg (by decide), if_neg (by decide), if_neg (by decide), if_neg (by decide), if_pos rfl]
theorem ws_em : WsN .nd emT := ⟨rfl, by rw [gS_table]; rfl, by rw [gS_table]; exact ws_nl⟩
theorem lfE_gd (z : Str) {B : Nat} (h : 3 ≤ B) : Gd .nd B (lfE z) := ⟨by show (3 : Nat) ≤ B; exact h, ws_leaf ws_em⟩
theorem lfE_inj {a b : Str} (h : lfE a = lfE b) : a = b := by
  injection h with _ h _
  injection h
theorem lfEs_gd {zs : List Str} : ∀ t ∈ zs.map lfE, Gd .nd 3 t := fun t ht => by
  obtain ⟨z, _, rfl⟩ := List.mem_map.mp ht
  exact lfE_gd z (by omega)
theorem top_gd {zs : List Str} (hl : zs.length ≤ 260) : Gd .nd 264 (tpT (zs.map lfE)) := ⟨Nat.le_trans (tp_dep 260 _ 3 (by rw [List.length_map]; exact hl) fun t ht => (lfEs_gd t ht).1) (by omega), ws_top fun t ht => (lfEs_gd t ht).2⟩
theorem hdE_gd {zs : List Str} (hl : zs.length ≤ 260) : Gd .nd 265 (hdE zs) := by
  have z := top_gd hl
  exact ⟨by show max 0 (tpT (zs.map lfE)).dep + 1 ≤ 265; have := z.1; omega, ws_book z.2⟩
theorem grow_gd {zs : List Str} {p : Nat} (hl : zs.length ≤ 260) : ∀ t ∈ gwT (zs.map lfE) p, Gd .nd 265 t := fun t ht => ⟨Nat.le_trans (gw_dep 260 _ p 3 (by rw [List.length_map]; exact hl) (fun t ht => (lfEs_gd t ht).1) t ht) (by omega), ws_grow (fun t ht => (lfEs_gd t ht).2) t ht⟩
theorem path_gd {zs : List Str} {p : Nat} (hl : zs.length ≤ 260) : ∀ t ∈ paT (zs.map lfE) p, Gd .nd 265 t := fun t ht => ⟨Nat.le_trans (path_dep (n := 260) (by rw [List.length_map]; exact hl) (fun t ht => (lfEs_gd t ht).1) t ht) (by omega), ws_path (fun t ht => (lfEs_gd t ht).2) t ht⟩
theorem top_inj : ∀ (n : Nat) (ts us : List Tm), ts.length = n → us.length = n → tpT ts = tpT us → ts = us
  | 0, ts, us, h1, h2, _ => by rw [List.eq_nil_of_length_eq_zero h1, List.eq_nil_of_length_eq_zero h2]
  | 1, ts, us, h1, h2, e => by
    match ts, us, h1, h2 with
    | [t], [u], _, _ =>
      have e : Gb.topT nlT prT [t] = Gb.topT nlT prT [u] := e
      rw [Gb.topT_one, Gb.topT_one] at e
      rw [e]
  | n + 2, ts, us, h1, h2, e => by
    have l1 : 2 ≤ ts.length := by omega
    have l2 : 2 ≤ us.length := by omega
    have e : Gb.topT nlT prT ts = Gb.topT nlT prT us := e
    rw [Gb.topT_more nlT prT l1, Gb.topT_more nlT prT l2, h1, h2] at e
    obtain ⟨e1, e2⟩ := prT_inj _ _ _ _ e
    have s1 := Gb.spl_lt (n := n + 2) (by omega)
    have s2 := Gb.spl_pos (n + 2)
    have t1 := top_inj (Gb.spl (n + 2)) (ts.take (Gb.spl (n + 2))) (us.take (Gb.spl (n + 2))) (by rw [List.length_take]; omega) (by rw [List.length_take]; omega) e1
    have t2 := top_inj (n + 2 - Gb.spl (n + 2)) (ts.drop (Gb.spl (n + 2))) (us.drop (Gb.spl (n + 2))) (by rw [List.length_drop]; omega) (by rw [List.length_drop]; omega) e2
    rw [← List.take_append_drop (Gb.spl (n + 2)) ts, t1, t2, List.take_append_drop]
termination_by n => n
theorem map_lfE_inj : ∀ {a b : List Str}, a.map lfE = b.map lfE → a = b
  | [], [], _ => rfl
  | [], _ :: _, h => by simp at h
  | _ :: _, [], h => by simp at h
  | x :: a, y :: b, h => by
    rw [List.map_cons, List.map_cons] at h
    injection h with h1 h2
    rw [lfE_inj h1, map_lfE_inj h2]
theorem hdE_inj {a b : List Str} (h : hdE a = hdE b) : a = b := by
  injection h with _ h1 h2
  injection h1 with h1
  exact map_lfE_inj (top_inj a.length _ _ (by rw [List.length_map]) (by rw [List.length_map]; omega) h2)
theorem hdE_nil : hdE [] = mtT := by show Tm.nd "book" (.int 0) (Gb.topT nlT prT []) = _; rw [Gb.topT_nil]
theorem hdE_take {bk : List Str} {n : Nat} (h : n ≤ bk.length) : hdE (bk.take n) = .nd "book" (.int (n : Int)) (tpT ((bk.map lfE).take n)) := by
  have e : (bk.take n).length = n := by rw [List.length_take]; omega
  show Tm.nd "book" (.int ((bk.take n).length : Int)) (tpT ((bk.take n).map lfE)) = _
  rw [e, List.map_take]
theorem gr_all {bk took : List Str} {size told : Nat} {po : Option (List Tm)} (hs : size ≤ bk.length) (h0 : took = [] → told = size) :
    grB po (told : Int) (took.length : Int) (hdE (bk.take size)) (hdE took) = decide (told = size ∧ took.length ≤ size ∧ bk.take took.length = took ∧ po = some (gwT ((bk.take size).map lfE) took.length)) := by
  by_cases hz : took = []
  · subst hz
    rw [h0 rfl]
    show grB po (size : Int) 0 (hdE (bk.take size)) (hdE []) = _
    rw [gr_zero, hdE_nil]
    have eg : gwT ((bk.take size).map lfE) ([] : List Str).length = [] := Gb.growT_zero nlT prT _
    rw [eg, Bool.eq_iff_iff]
    simp only [decide_eq_true_eq, Bool.and_eq_true, Bool.or_eq_true]
    constructor
    · rintro ⟨⟨_, h1⟩, _⟩
      exact ⟨trivial, Nat.zero_le _, rfl, h1⟩
    · rintro ⟨_, _, _, h1⟩
      refine ⟨⟨trivial, h1⟩, ?_⟩
      by_cases hs0 : size = 0
      · right; subst hs0; rw [List.take_zero]; exact hdE_nil
      · left; omega
  · have hl : 1 ≤ took.length := List.length_pos_iff.mpr hz
    by_cases ht : told = size
    · subst ht
      by_cases hn : took.length ≤ told
      · cases po with
        | none =>
          show false = _
          exact (decide_eq_false fun y => by simpa using y.2.2.2).symm
        | some os =>
          rw [hdE_take hs, gr_iff hl hn (by rw [List.length_map]; exact hs), decide_eq_decide]
          have e1 : Tm.nd "book" (.int (took.length : Int)) (tpT ((bk.map lfE).take took.length)) = hdE (bk.take took.length) := (hdE_take (by omega)).symm
          rw [e1, ← List.map_take]
          constructor
          · rintro ⟨_, h1, h2⟩
            exact ⟨rfl, hn, (hdE_inj h1).symm, by rw [h2]⟩
          · rintro ⟨_, _, h1, h2⟩
            exact ⟨rfl, by rw [h1], Option.some.inj h2⟩
      · rw [gr_out (by omega) (by omega)]
        exact (decide_eq_false fun y => hn y.2.1).symm
    · rw [hdE_take hs, gr_held (by omega) (by omega)]
      exact (decide_eq_false fun y => ht y.1).symm
theorem st_all {took : List Str} {z : Str} {at_ : Nat} {os : List Tm} :
    stB (some os) (took.length : Int) (at_ : Int) (hdE took) (lfE z) = decide (at_ < took.length ∧ took[at_]? = some z ∧ os = paT (took.map lfE) at_) := by
  by_cases hn : at_ < took.length
  · have ht : (took.map lfE)[at_]? = some (lfE took[at_]) := by rw [List.getElem?_map, List.getElem?_eq_getElem hn]; rfl
    have e := st_iff (size := took.length) (held := took.length) (os := os) (tl := lfE z) hn (by rw [List.length_map]; exact Nat.le_refl _) ht
    have e2 : (took.map lfE).take took.length = took.map lfE := by rw [List.take_of_length_le (by rw [List.length_map]; exact Nat.le_refl _)]
    rw [e2] at e
    show stB (some os) (took.length : Int) (at_ : Int) (.nd "book" (.int (took.length : Int)) (tpT (took.map lfE))) (lfE z) = _
    rw [e, decide_eq_decide, List.getElem?_eq_getElem hn]
    constructor
    · rintro ⟨_, h1, h2⟩; exact ⟨hn, by rw [lfE_inj h1], h2⟩
    · rintro ⟨_, h1, h2⟩; exact ⟨rfl, by rw [Option.some.inj h1], h2⟩
  · rw [st_out (by omega)]
    exact (decide_eq_false fun y => hn y.1).symm
theorem texts_eqB {H : Hp} {a b : Addr} {xs ys : List Str} (ha : H a = some (.lst (xs.map V.str))) (hb : H b = some (.lst (ys.map V.str))) : EqB H 1 (.ref a) (.ref b) (decide (xs = ys)) := by
  refine .inr (.inr ⟨a, b, _, _, fun i => decide (xs[i]? = ys[i]?), rfl, rfl, ha, hb, fun i u v h1 h2 => ?_, ?_⟩)
  · rw [List.getElem?_map] at h1 h2
    cases e1 : xs[i]? with
    | none => rw [e1] at h1; cases h1
    | some x =>
      cases e2 : ys[i]? with
      | none => rw [e2] at h2; cases h2
      | some y =>
        rw [e1] at h1; rw [e2] at h2
        cases h1; cases h2
        have z : EqB H 0 (V.str x) (V.str y) (eqV (V.str x) (V.str y)) := eqB_flat rfl rfl
        have e : eqV (V.str x) (V.str y) = decide (xs[i]? = ys[i]?) := by
          rw [e1, e2, Bool.eq_iff_iff]
          simp [eqV]
        dsimp only
        rw [e] at z
        exact z
  · rw [List.length_map, List.length_map, Bool.eq_iff_iff]
    simp only [decide_eq_true_eq, Bool.and_eq_true, beq_iff_eq, List.all_eq_true, List.mem_range]
    constructor
    · rintro rfl; exact ⟨rfl, fun i _ => rfl⟩
    · rintro ⟨e, q⟩
      apply List.ext_getElem?
      intro i
      by_cases hlt : i < xs.length
      · exact q i hlt
      · rw [List.getElem?_eq_none (by omega), List.getElem?_eq_none (by omega)]
theorem kit_bb {K : PySem.W.Frag} : PySem.W.kitOne K (.type "bool") (.type "bool") = some true := by unfold PySem.W.kitOne; rw [if_pos (by simp)]
theorem kit_ii {K : PySem.W.Frag} : PySem.W.kitOne K (.type "int") (.type "int") = some true := by unfold PySem.W.kitOne; rw [if_pos (by simp)]
theorem eB (a b : Bool) (h : a = b) : decide (V.bl a = V.bl b) = true := by rw [h]; exact decide_eq_true rfl
section
variable {P : Program} {w : World} {K : PySem.W.Frag} {mg : Str → Option Value} {base : Heap} {cF : Addr}
def spLeaves (K : PySem.W.Frag) (mg : Str → Option Value) : Sp := fun vs H Q _ => ∃ S f a, ∃ zs : List Str, vs = [.ref f, .ref a] ∧ SealAt K mg sNumd S H f ∧ H a = some (.lst (zs.map V.str)) ∧ zs.length ≤ 260 ∧ Cap S H 800 ∧ ∀ r rs H', Gr S 800 H H' → H' r = some (.lst rs) → isTs S H' (zs.map lfE) rs → Q (.ref r) H'
theorem scLv : FnScope ["_law_seal", "_law_texts"] ["_law_seal", "_law_texts"] (defScope sLLeaves) := ⟨rfl, rfl, rfl, by decide +kernel, rfl, by decide +kernel, by decide +kernel⟩
theorem ok_lleaves (F : FunAt K mg "_law_leaves" sLLeaves) (Fl : CallOk P w K mg base CX0 1 (spSeal K mg sNumd)) : FnP P w K mg base 2 "_law_leaves" ["_law_seal", "_law_texts"] (spLeaves K mg) := by
  refine F.ok scLv (fun _ _ _ _ _ _ us hl => match us, hl with | [_, _], _ => rfl) (fun vs H Q E h => ?_) (fun f0 cdv A outer s H vs Q E hr h => ?_)
  · obtain ⟨S, f, a, zs, rfl, _⟩ := h; rfl
  obtain ⟨S, f, a, zs, rfl, hS, ha, hl, hc, q⟩ := h
  refine' ⟨_, pss_one (ps_ret (pe_comp (ys := ["_law_seal"]) (js := [0]) ?ok (pi_list (pv 1)) (fun _ _ _ => pts_nil) ?he)), ?rd⟩
  case ok =>
    refine ⟨rfl, rfl, rfl, by decide +kernel, by decide +kernel, rfl, by decide +kernel, same_of (fun p hp => ?_), rfl, fun i y h => ?_, rfl⟩
    · simp only [List.mem_cons, List.not_mem_nil, or_false] at hp
      rcases hp with rfl <;> rfl
    · match i, h with
      | 0, h => simp at h; subst h; exact ⟨0, rfl, rfl, rfl, rfl⟩
      | i + 1, h => simp at h
  case he =>
    exact fun _ _ _ => pe_callVK (i := 1) K rfl Fl hr pass0 rfl (Or.inr (Or.inl rfl)) (pa_cons pe_str (pa_cons (pv 0) (pa_cons (pe_callVK (i := 1) K rfl Fl hr pass0 rfl (Or.inr (Or.inl rfl)) (pa_cons pe_str (pa_cons pe_int (pa_cons (pe_callVK (i := 1) K rfl Fl hr pass0 rfl (Or.inr (Or.inl rfl)) (pa_cons pe_str (pa_cons pe_int (pa_cons pe_int pa_nil)))) pa_nil)))) pa_nil)))
  case rd =>
  refine ⟨_, rfl, a, rfl, ⟨_, SqL.of ha⟩, ?_⟩
  refine comp_list (K := K) (xs := zs.map V.str) (fun D i ys H' => Gr S (3 * i) H H' ∧ H' D = some (.lst ys) ∧ ys.length = i ∧ isTs S H' ((zs.take i).map lfE) ys) (fun D hD => ⟨.new hS.told hD, upd_same, rfl, .nil⟩) (fun D i ys H' hD h => SqL.of (h.1.lst ha)) ?_ ?_
  · rintro D i x ys H2 Qb hD hx ⟨g2, hD2, yl, it⟩ hQ
    have hi : i < zs.length := by have := (List.getElem?_eq_some_iff.mp hx).1; simpa using this
    have eE : zs[i]? = some zs[i] := List.getElem?_eq_getElem hi
    obtain rfl : x = V.str zs[i] := by rw [List.getElem?_map, eE] at hx; exact (Option.some.inj hx).symm
    have hS2 := hS.up g2.gn
    refine ⟨f, rfl, hS2.fny, _, rfl, f, rfl, hS2.fny, f, rfl, hS2.fny, hS2.fny, S, _, .int 0, .int 0, _, _, hS2, hc.go g2.gn (by omega), rfl, rfl, rfl, fun v3 H3 g3 i3 => ?_⟩
    have hS3 := hS2.up g3.gn
    have g23 := g2.trans g3
    refine ⟨hS3.fny, S, _, .int 8, nlT, _, _, hS3, hc.go g23.gn (by omega), rfl, rfl, i3, fun v4 H4 g4 i4 => ?_⟩
    have hS4 := hS3.up g4.gn
    have g24 := g23.trans g4
    refine ⟨hS4.fny, S, _, .str zs[i], emT, _, _, hS4, hc.go g24.gn (by omega), rfl, rfl, i4, fun v5 H5 g5 i5 => ?_⟩
    have g25 := g24.trans g5
    have g35 := (g3.trans g4).trans g5
    refine hQ v5 H5 (g35.lst hD2) (by rw [sizeLine_eq]; omega) ⟨(g25.own hD).up (by omega), upd_same, by simp; omega, ?_⟩
    have et : zs.take (i + 1) = zs.take i ++ [zs[i]] := by rw [List.take_succ, eE]; rfl
    rw [et, List.map_append]
    have g6 : Gn S 0 H5 (upd H5 D (.lst (ys ++ [v5]))) := Gn.chg g5.gn.told2 (g35.lst hD2) rfl (fun _ e => nomatch e)
    exact pr_app (isTs_up g6 (isTs_up g35.gn it)) (.cons (isT_up g6 i5) .nil)
  · rintro D ys H2 hD ⟨g2, hD2, yl, it⟩
    rw [List.length_map] at g2 it
    rw [List.take_length] at it
    exact q D ys H2 (g2.up (by omega)) hD2 it
def spLHead (K : PySem.W.Frag) (mg : Str → Option Value) : Sp := fun vs H Q _ => ∃ S f a, ∃ zs : List Str, vs = [.ref f, .ref a] ∧ SealAt K mg sNumd S H f ∧ H a = some (.lst (zs.map V.str)) ∧ zs.length ≤ 260 ∧ Cap S H 1100 ∧ ∀ v H', Gr S 1100 H H' → isT S H' (hdE zs) v → Q v H'
theorem scLH : FnScope ["_law_seal", "_law_texts"] ["_law_seal", "_law_texts"] (defScope sLhead) := ⟨rfl, rfl, rfl, by decide +kernel, rfl, by decide +kernel, by decide +kernel⟩
theorem ok_lhead (F : FunAt K mg "_law_head" sLhead) (Fl : CallOk P w K mg base CX0 1 (spSeal K mg sNumd)) (Flt : FnP P w K mg base 11 "_law_top" ["_law_seal", "_law_leaves_here"] (spTop K mg 9)) (Fv : FnP P w K mg base 2 "_law_leaves" ["_law_seal", "_law_texts"] (spLeaves K mg)) (ml : mg "len" = none) : FnP P w K mg base 12 "_law_head" ["_law_seal", "_law_texts"] (spLHead K mg) := by
  refine F.ok scLH (fun _ _ _ _ _ _ us hl => match us, hl with | [_, _], _ => rfl) (fun vs H Q E h => ?_) (fun f0 cdv A outer s H vs Q E hr h => ?_)
  · obtain ⟨S, f, a, zs, rfl, _⟩ := h; rfl
  obtain ⟨S, f, a, zs, rfl, hS, ha, hl, hc, q⟩ := h
  refine ⟨_, pss_one (ps_ret (pe_callV (i := 0) Fl (hr.mono (by omega)) pass0 rfl (Or.inl rfl) (pa_cons pe_str (pa_cons (pe_callB call_len_seq rfl ml PySem.boot_len (pa_cons (pv 1) pa_nil)) (pa_cons (pe_callN Flt hr rfl (pa_cons (pv 0) (pa_cons (pe_callN Fv (hr.mono (by omega)) rfl (pa_cons (pv 0) (pa_cons (pv 1) pa_nil))) pa_nil))) pa_nil))))), ?_⟩
  refine ⟨f, rfl, hS.fny, _, rfl, a, _, rfl, .inl (SqL.of ha), _, rfl, _, rfl, _, rfl, S, f, a, zs, rfl, hS, ha, hl, hc.dn (by omega), fun r rs H1 g1 er ir => ?_⟩
  have cl := cst_le (zs.map lfE)
  rw [List.length_map] at cl
  refine ⟨S, f, r, rs, zs.map lfE, rfl, hS.up g1.gn, SqL.of er, ir, by rw [List.length_map]; omega, hc.go g1.gn (by omega), fun v H2 g2 i2 => ?_⟩
  have g12 := g1.trans g2
  have hS2 := hS.up g12.gn
  rw [List.length_map]
  exact ⟨hS2.fny, S, _, .int (zs.length : Int), _, _, _, hS2, hc.go g12.gn (by omega), rfl, rfl, i2, fun v3 H3 g3 i3 => q v3 H3 ((g12.trans g3).up (by omega)) i3⟩
def spFS (cF : Addr) : Sp := fun vs H Q _ => ∃ (x f : Addr) (n : Int) (v : V), vs = [.ref x] ∧ FoAt cF H x f n v ∧ Q (.int n) H
theorem scFS : FnScope ["self"] ["self"] (defScope mFSize) := ⟨rfl, rfl, rfl, by decide +kernel, rfl, by decide +kernel, by decide +kernel⟩
theorem ok_fsize (F : MethAt K cF "size" "Follower.size" mFSize) (T : TxF K mg cF) : MtP P w K mg base cF 1 "size" ["self"] (spFS cF) := by
  refine F.ok scFS (fun _ _ _ _ _ _ us hl => match us, hl with | [_], _ => rfl) (fun vs H Q E h => ?_) (fun f0 cdv A outer s H vs Q E hr h => ?_)
  · obtain ⟨x, f, n, v, rfl, _⟩ := h; rfl
  obtain ⟨x, f, n, v, rfl, ⟨dx, hx⟩, q⟩ := h
  refine ⟨_, pss_one (ps_ret (pe_fld (pv 0) rfl)), ?_⟩
  exact ⟨_, rfl, x, cF, dx, _, _, rfl, hx, T.cl, T.n2, rfl, q⟩
def spFH (cF : Addr) : Sp := fun vs H Q _ => ∃ (x f : Addr) (n : Int) (v : V), vs = [.ref x] ∧ FoAt cF H x f n v ∧ Q v H
theorem scFH : FnScope ["self"] ["self"] (defScope mFHead) := ⟨rfl, rfl, rfl, by decide +kernel, rfl, by decide +kernel, by decide +kernel⟩
theorem ok_fhead (F : MethAt K cF "head" "Follower.head" mFHead) (T : TxF K mg cF) : MtP P w K mg base cF 1 "head" ["self"] (spFH cF) := by
  refine F.ok scFH (fun _ _ _ _ _ _ us hl => match us, hl with | [_], _ => rfl) (fun vs H Q E h => ?_) (fun f0 cdv A outer s H vs Q E hr h => ?_)
  · obtain ⟨x, f, n, v, rfl, _⟩ := h; rfl
  obtain ⟨x, f, n, v, rfl, ⟨dx, hx⟩, q⟩ := h
  refine ⟨_, pss_one (ps_ret (pe_fld (pv 0) rfl)), ?_⟩
  exact ⟨_, rfl, x, cF, dx, _, _, rfl, hx, T.cl, T.n3, rfl, q⟩
def spKept (K : PySem.W.Frag) (mg : Str → Option Value) (cF : Addr) : Sp := fun vs H Q _ => ∃ S f x a v, ∃ zs : List Str, vs = [.ref f, .ref x, .ref a] ∧ SealAt K mg sNumd S H f ∧ FoAt cF H x f (zs.length : Int) v ∧ isT S H (hdE zs) v ∧ H a = some (.lst (zs.map V.str)) ∧ zs.length ≤ 260 ∧ Cap S H 1100 ∧ ∀ H', Gr S 1100 H H' → Q (.bl true) H'
theorem scKe : FnScope ["_law_seal", "_law_follower", "_law_took", "_law_size"] ["_law_seal", "_law_follower", "_law_took"] (defScope sKept) := ⟨rfl, rfl, rfl, by decide +kernel, rfl, by decide +kernel, by decide +kernel⟩
theorem ok_lkept (F : FunAt K mg "_law_kept" sKept) (T : TxF K mg cF) (Ms : MtP P w K mg base cF 1 "size" ["self"] (spFS cF)) (Mh : MtP P w K mg base cF 1 "head" ["self"] (spFH cF)) (Flh : FnP P w K mg base 12 "_law_head" ["_law_seal", "_law_texts"] (spLHead K mg)) (ml : mg "len" = none) (mi : mg "isinstance" = none) (mt : mg "int" = none) : FnP P w K mg base 30 "_law_kept" ["_law_seal", "_law_follower", "_law_took"] (spKept K mg cF) := by
  refine F.ok scKe (fun _ _ _ _ _ _ us hl => match us, hl with | [_, _, _], _ => rfl) (fun vs H Q E h => ?_) (fun f0 cdv A outer s H vs Q E hr h => ?_)
  · obtain ⟨S, f, x, a, v, zs, rfl, _⟩ := h; rfl
  obtain ⟨S, f, x, a, v, zs, rfl, hS, hx, iv, ha, hl, hc, q⟩ := h
  have nd := scKe.nd
  have hun := hr.un
  obtain ⟨dx, hx1⟩ := id hx
  refine ⟨_, pss_cons (ps_set (i := 3) nd rfl (Or.inl rfl) (pe_methN0 Ms (pv 1) T.cl (hr.mono (by omega)))) <|
    pss_one (ps_ret (pe_and (pe_callB call_isinst rfl mi PyProof.Rows.boot_isinstance (pa_cons (pv 3) (pa_cons (pe_ty rfl mt PyProof.Rows.boot_int) pa_nil))) (pe_and (pe_cmpR op_eq (pv 3) (pe_callB call_len_seq rfl ml PySem.boot_len (pa_cons (pv 2) pa_nil)) (nomark _)) (pe_one (pe_cmpR op_eqB (pe_methN0 Mh (pv 1) T.cl (hr.mono (by omega))) (pe_callN Flh (hr.mono (by omega)) rfl (pa_cons (pv 0) (pa_cons (pv 2) pa_nil))) (nomark _)))))), ?_⟩
  refine ⟨_, rfl, x, dx, _, rfl, hx1, rfl, x, f, _, v, rfl, hx, ?_⟩
  refine ⟨_, rfl, _, _, _, true, rfl, .int _, kit_ii, _, rfl, ?_⟩
  refine iteT ?_
  refine ⟨_, rfl, _, rfl, a, _, rfl, .inl (SqL.of ha), rfl, _, rfl, ?_⟩
  rw [List.length_map, decide_eq_true rfl]
  refine iteT ?_
  refine ⟨_, rfl, x, dx, _, rfl, hx1, rfl, x, f, _, v, rfl, hx, ?_⟩
  refine ⟨_, rfl, _, rfl, S, f, a, zs, rfl, hS, ha, hl, hc, fun v2 H2 g2 i2 => ?_⟩
  have hS2 := hS.up g2.gn
  have gd := hdE_gd hl
  have z := tree_eqB (g := gS .nd) (s := .nd) (fun d e => ⟨gd.2, gd.2, hS2.ints d e⟩) (isT_up g2.gn iv) i2
  rw [decide_eq_true rfl] at z
  refine ⟨_, _, z, ?_, q H2 g2⟩
  have := gd.1
  show (A.deeper (PyProof.Rows.envOfC "_law_kept" (defScope sKept) s.heap.objs.size f0 cdv)).units + (hdE zs).dep + 1 < cLine
  omega
end
end My
namespace My
open PySem L2
section
variable {P : Program} {w : World} {K : PySem.W.Frag} {mg : Str → Option Value} {base : Heap} {C cT cF cS cC cG : Addr}
def spFJS (K : PySem.W.Frag) (mg : Str → Option Value) (C cS : Addr) (lf : Srt) (B : Nat) : Sp := fun vs H Q _ => ∃ S x y f th vh ti vi pv po, ∃ n : Nat, ∃ place : Int, ∃ z : Str, vs = [.ref x, .ref y, pv] ∧ FoAt C H x f n vh ∧ StAt cS H y place z vi ∧ SealAt K mg sNumd S H f ∧ Cap S H 51 ∧ isT S H th vh ∧ isT S H ti vi ∧ Gd lf B th ∧ Gd lf B (.nd "leaf" (.str z) ti) ∧ Pap lf S H B pv po ∧ n ≤ 2 ^ 40 ∧ B ≤ 300 ∧
  ∀ H', Gr S 51 H H' → Q (.bl (stB po n place th (.nd "leaf" (.str z) ti))) H'
theorem ok_fjudgeS (F : MethAt K cF "judge" "Follower.judge" mFJudge) (T : TxF K mg cF) (TS : TxS K mg cS cC) (lf : Srt) (B : Nat) (Mj : MtP P w K mg base cS 22 "judged" ["self", "seal", "size", "head", "paper"] (spSJ K mg cS lf B)) : MtP P w K mg base cF 23 "judge" ["self", "claim", "paper"] (spFJS K mg cF cS lf B) := by
  refine F.ok scFJ (fun _ _ _ _ _ _ us hl => match us, hl with | [_, _, _], _ => rfl) (fun vs H Q E h => ?_) (fun f0 cdv A outer s H vs Q E hr h => ?_)
  · obtain ⟨S, x, y, f, th, vh, ti, vi, pv, po, n, place, z, rfl, _⟩ := h; rfl
  obtain ⟨S, x, y, f, th, vh, ti, vi, pvv, po, n, place, z, rfl, ⟨dx, hx⟩, hy, hS, hc, ih, ii, gh, gl, hp, hsz, hB, q⟩ := h
  obtain ⟨dy, hy1⟩ := id hy
  refine ⟨_, pss_one (ps_ret (pe_methN Mj (pv 1) TS.cl hr (pa_cons (pe_fld (pv 0) rfl) (pa_cons (pe_fld (pv 0) rfl) (pa_cons (pe_fld (pv 0) rfl) (pa_cons (pv 2) pa_nil)))))), ?_⟩
  exact ⟨_, rfl, y, dy, _, rfl, hy1, rfl, _, rfl, x, cF, dx, _, _, rfl, hx, T.cl, T.n1, rfl, _, rfl, x, cF, dx, _, _, rfl, hx, T.cl, T.n2, rfl, _, rfl, x, cF, dx, _, _, rfl, hx, T.cl, T.n3, rfl, _, rfl, S, y, f, th, vh, ti, vi, pvv, po, (n : Int), place, z, rfl, hy, hS, hc, ih, ii, gh, gl, hp, by exact_mod_cast hsz, hB, q⟩
structure W13 (K : PySem.W.Frag) (mg : Str → Option Value) (C cT : Addr) (S : Sl) (f x0 x1 aK aB l0 l1 : Addr) (b0 b1 : List Str) (n : Nat) (H : Hp) : Prop where
  sl : SealAt K mg sNumd S H f
  cap : Cap S H n
  kl : H aK = some (.lst [.ref x0, .ref x1])
  k0 : ∃ a1 a2 a3, KpAt C cT S H x0 f a1 a2 a3 b0
  k1 : ∃ a1 a2 a3, KpAt C cT S H x1 f a1 a2 a3 b1
  bt : H aB = some (.tup [.ref l0, .ref l1])
  t0 : H l0 = some (.lst (b0.map V.str))
  t1 : H l1 = some (.lst (b1.map V.str))
  n0 : b0.length ≤ 260
  n1 : b1.length ≤ 260
theorem W13.go {S : Sl} {f x0 x1 aK aB l0 l1 : Addr} {b0 b1 : List Str} {n m b : Nat} {H H' : Hp} (h : W13 K mg C cT S f x0 x1 aK aB l0 l1 b0 b1 n H) (g : Gr S m H H') (hn : m + b ≤ n) : W13 K mg C cT S f x0 x1 aK aB l0 l1 b0 b1 b H' := by
  obtain ⟨a1, a2, a3, k0⟩ := h.k0
  obtain ⟨c1, c2, c3, k1⟩ := h.k1
  exact ⟨h.sl.up g.gn, h.cap.go g.gn hn, g.lst h.kl, ⟨a1, a2, a3, k0.up g⟩, ⟨c1, c2, c3, k1.up g⟩, g.gn.keep _ _ h.bt rfl, g.lst h.t0, g.lst h.t1, h.n0, h.n1⟩
theorem W13.at {S : Sl} {f x0 x1 aK aB l0 l1 : Addr} {b0 b1 : List Str} {n : Nat} {H : Hp} (h : W13 K mg C cT S f x0 x1 aK aB l0 l1 b0 b1 n H) {v : Int} (h0 : 0 ≤ v) (h1 : v < 2) :
    ∃ x l bk, atI [V.ref x0, .ref x1] v = some (.ref x) ∧ atI [V.ref l0, .ref l1] v = some (.ref l) ∧ (∃ a1 a2 a3, KpAt C cT S H x f a1 a2 a3 bk) ∧ H l = some (.lst (bk.map V.str)) ∧ bk.length ≤ 260 := by
  have hv : v = 0 ∨ v = 1 := by omega
  rcases hv with rfl | rfl
  · exact ⟨x0, l0, b0, atI_nat (j := 0) rfl, atI_nat (j := 0) rfl, h.k0, h.t0, h.n0⟩
  · exact ⟨x1, l1, b1, atI_nat (j := 1) rfl, atI_nat (j := 1) rfl, h.k1, h.t1, h.n1⟩
theorem KeepX.same {S : Sl} {n : Nat} {p b Cp dx : Addr} {fs : List (Str × V)} {H H' : Hp} {o : HO} (g : KeepX S n p H H') (hp : H p = some (.ins Cp dx fs)) (h : H b = some o) (hi : ∀ Cp dx fs, o ≠ .ins Cp dx fs) (hd : ∀ kvs, o ≠ .dT kvs) : H' b = some o :=
  g.all b o h (by rintro rfl; rw [hp] at h; exact hi _ _ _ (Option.some.inj h).symm) fun e => by
    obtain ⟨kvs, more, h1, _, _, _⟩ := g.gn.told b e
    rw [h] at h1; exact hd _ (Option.some.inj h1)
abbrev nOf : List Str := ["_law_seal", "_law_follower", "_law_took", "_law_books_here", "_law_keepers", "_law_cell", "_law_k", "_law_size", "_law_told", "_law_old", "_law_j", "_law_last", "_law_paper", "_law_found", "_law_due"]
theorem scOf : FnScope nOf ["_law_seal", "_law_follower", "_law_took", "_law_books_here", "_law_keepers", "_law_cell"] (defScope sOffered) := ⟨rfl, rfl, rfl, by decide +kernel, rfl, by decide +kernel, by decide +kernel⟩
theorem off_d {f0 : Addr} {cdv : Value} {A : Around} {outer : List Env} {s : Shared} {H0 : Hp} {E : XK} {Q : VK} (hr : Room 59 (A.deeper (PyProof.Rows.envOfC "_law_offered" (defScope sOffered) s.heap.objs.size f0 cdv))) (mi : mg "isinstance" = none) (mb : mg "bool" = none) :
    ∃ t, PSs (cxOf CX0 P w K mg base nOf "_law_offered" (defScope sOffered) f0 cdv A outer s H0 E).nox ((defBody sOffered).drop 10) t ∧
      ∀ (aTk aB l l0 l1 : Addr) (kk : Int) (size : Nat) (bk : List Str) (fb : Bool) (H : Hp) (o0 o1 o4 o5 o8 o9 o10 o11 o12 : Option V), H aB = some (.tup [.ref l0, .ref l1]) → atI [V.ref l0, .ref l1] kk = some (.ref l) → H l = some (.lst (bk.map V.str)) →
        (fb = false → Q (.ref aTk) H) → (fb = true → ∀ r, H r = none → Q (.ref r) (upd H r (.lst ((bk.take size).map V.str)))) →
        t { nx := fun _ H' => Q .non H', rt := Q } [o0, o1, some (.ref aTk), some (.ref aB), o4, o5, some (.int kk), some (.int size), o8, o9, o10, o11, o12, some (.bl fb), some (.bl fb)] H := by
  have nd := scOf.nd
  refine ⟨_, pss_cons (ps_if (PW.pt (pw_or (pt_not (pt_val (pe_callB call_isinst rfl mi PyProof.Rows.boot_isinstance (pa_cons (pv 13) (pa_cons (pe_ty rfl mb PyProof.Rows.boot_bool) pa_nil))))) (pw_or1 (pt_cmpR op_ne (pv 13) (pv 14) (nomark _))))) (pss_one (ps_ret pe_non)) pss_nil) <|
    pss_one (ps_ret (pe_ifExp (pt_val (pv 14)) (pe_slice sl_list (pe_ix ix_tup (pv 3) (pv 6) (fun _ _ => rfl)) po_none (po_some (pv 7))) (pv 2))), ?_⟩
  intro aTk aB l l0 l1 kk size bk fb H o0 o1 o4 o5 o8 o9 o10 o11 o12 hB hat hl qF qT
  refine ⟨_, rfl, _, _, _, true, rfl, .bl fb, kit_bb, _, rfl, iteF ?_⟩
  refine ⟨_, rfl, _, rfl, rfl, _, rfl, ?_⟩
  rw [decide_eq_true rfl]
  refine iteF ?_
  refine ⟨_, rfl, _, rfl, ?_⟩
  cases fb with
  | false => exact iteF ⟨_, rfl, qF rfl⟩
  | true =>
    refine iteT ⟨_, rfl, _, rfl, aB, _, _, _, rfl, rfl, .inl (.inl hB), hat, _, rfl, _, rfl, l, _, rfl, SqL.of hl, fun p hp => ?_⟩
    have e : cutV (bk.map V.str) none (some (size : Int)) = (bk.take size).map V.str := by rw [cut_take, List.map_take]
    rw [e]
    exact qT rfl p hp
theorem off_c {f0 : Addr} {cdv : Value} {A : Around} {outer : List Env} {s : Shared} {H0 : Hp} {E : XK} {Q : VK} (hr : Room 59 (A.deeper (PyProof.Rows.envOfC "_law_offered" (defScope sOffered) s.heap.objs.size f0 cdv))) (Fv : FnP P w K mg base 2 "_law_leaves" ["_law_seal", "_law_texts"] (spLeaves K mg)) (Flg : FnP P w K mg base 13 "_law_growth" ["_law_seal", "_law_leaves_here", "_law_old"] (spGrow K mg 9)) (ml : mg "len" = none) (mli : mg "list" = none) (mi : mg "isinstance" = none) (mb : mg "bool" = none) :
    ∃ t, PSs (cxOf CX0 P w K mg base nOf "_law_offered" (defScope sOffered) f0 cdv A outer s H0 E).nox ((defBody sOffered).drop 8) t ∧
      ∀ (S : Sl) (f aTk aB l l0 l1 : Addr) (kk : Int) (size told : Nat) (bk took : List Str) (po : Option (List Tm)) (pvv : V) (H : Hp) (o1 o4 o5 o9 o10 o11 : Option V), SealAt K mg sNumd S H f → Cap S H 1200 → H aB = some (.tup [.ref l0, .ref l1]) → atI [V.ref l0, .ref l1] kk = some (.ref l) → H l = some (.lst (bk.map V.str)) → bk.length ≤ 260 → size ≤ bk.length → H aTk = some (.lst (took.map V.str)) → took.length ≤ 260 → (took = [] → told = size) → Pap .nd S H 265 pvv po →
        (grB po (told : Int) (took.length : Int) (hdE (bk.take size)) (hdE took) = false → ∀ H', Gr S 1200 H H' → Q (.ref aTk) H') → (grB po (told : Int) (took.length : Int) (hdE (bk.take size)) (hdE took) = true → ∀ r H', Gr S 1200 H H' → H r = none → H' r = some (.lst ((bk.take size).map V.str)) → Q (.ref r) H') →
        t { nx := fun _ H' => Q .non H', rt := Q } [some (.ref f), o1, some (.ref aTk), some (.ref aB), o4, o5, some (.int kk), some (.int size), some (.int told), o9, o10, o11, some pvv, some (.bl (grB po (told : Int) (took.length : Int) (hdE (bk.take size)) (hdE took))), none] H := by
  have nd := scOf.nd
  have hun := hr.un
  obtain ⟨tr, htr, hrest⟩ := off_d (P := P) (w := w) (K := K) (mg := mg) (base := base) (outer := outer) (H0 := H0) (E := E) (Q := Q) hr mi mb
  refine ⟨_, pss_cons (ps_set (i := 14) nd rfl (Or.inl rfl) (pe_and (pe_cmpR op_eq (pv 8) (pv 7) (nomark _)) (pe_and (pe_cmpR op_ge (pv 7) (pe_callB call_len_seq rfl ml PySem.boot_len (pa_cons (pv 2) pa_nil)) (nomark _)) (pe_and (pe_cmpR op_eqB (pe_slice sl_list (pe_ix ix_tup (pv 3) (pv 6) (fun _ _ => rfl)) po_none (po_some (pe_callB call_len_seq rfl ml PySem.boot_len (pa_cons (pv 2) pa_nil)))) (pv 2) (nomark _)) (pe_one (pe_callB call_isinst rfl mi PyProof.Rows.boot_isinstance (pa_cons (pv 12) (pa_cons (pe_ty rfl mli PyProof.Rows.boot_list) pa_nil)))))))) <|
    pss_cons (ps_if (pt_val (pv 14)) (pss_one (ps_set (i := 14) nd rfl (Or.inl rfl) (pe_cmpR op_eqB (pv 12) (pe_callN Flg (hr.mono (by omega)) rfl (pa_cons (pv 0) (pa_cons (pe_callN Fv (hr.mono (by omega)) rfl (pa_cons (pv 0) (pa_cons (pe_slice sl_list (pe_ix ix_tup (pv 3) (pv 6) (fun _ _ => rfl)) po_none (po_some (pv 7))) pa_nil))) (pa_cons (pe_callB call_len_seq rfl ml PySem.boot_len (pa_cons (pv 2) pa_nil)) pa_nil)))) (nomark _)))) pss_nil) <|
    htr, ?_⟩
  intro S f aTk aB l l0 l1 kk size told bk took po pvv H o1 o4 o5 o9 o10 o11 hS hc hB hat hl bl hsz hk tl h0 hp qF qT
  have un : ∀ n, n ≤ 300 → (A.deeper (PyProof.Rows.envOfC "_law_offered" (defScope sOffered) s.heap.objs.size f0 cdv)).units + n + 1 < cLine := fun n hn => by omega
  have ga := gr_all (po := po) (told := told) (took := took) hsz h0
  generalize hfb : grB po (told : Int) (took.length : Int) (hdE (bk.take size)) (hdE took) = fb at ga qF qT ⊢
  have fin : ∀ (n : Nat) (H1 : Hp) (d : Bool), n ≤ 1200 → Gr S n H H1 → d = fb → tr { nx := fun _ H' => Q .non H', rt := Q } [some (.ref f), o1, some (.ref aTk), some (.ref aB), o4, o5, some (.int kk), some (.int size), some (.int told), o9, o10, o11, some pvv, some (.bl fb), some (.bl d)] H1 := fun n H1 d hn g1 e => by
    subst e
    refine hrest aTk aB l l0 l1 kk size bk d H1 _ _ _ _ _ _ _ _ _ (g1.gn.keep _ _ hB rfl) hat (g1.lst hl) (fun e => qF e H1 (g1.up hn)) fun e r hr1 => qT e r _ (((g1.trans (.new g1.gn.told2 hr1))).up (by omega)) (g1.free hr1) upd_same
  have r0 : Gr S 0 H H := Gr.refl hS.told
  refine ⟨_, rfl, _, rfl, rfl, _, rfl, ?_⟩
  refine ite2 (fun c => ?_) (fun c => ?_)
  rotate_left
  · have c' : ¬ V.int (told : Int) = V.int (size : Int) := of_decide_eq_false (Bool.eq_false_iff.mpr c)
    exact ⟨_, rfl, _, rfl, iteF (fin 0 H false (by omega) r0 (by rw [ga]; exact (decide_eq_false fun y => c' (by rw [y.1])).symm))⟩
  have c' : V.int (told : Int) = V.int (size : Int) := of_decide_eq_true c
  have ets : told = size := by injection c' with c'; omega
  refine ⟨_, rfl, _, rfl, aTk, _, rfl, .inl (SqL.of hk), _, _, rfl, rfl, _, rfl, ?_⟩
  rw [List.length_map]
  refine ite2 (fun c => ?_) (fun c => ?_)
  rotate_left
  · have c' : ¬ (size : Int) ≥ (took.length : Int) := of_decide_eq_false (Bool.eq_false_iff.mpr c)
    exact ⟨_, rfl, _, rfl, iteF (fin 0 H false (by omega) r0 (by rw [ga]; exact (decide_eq_false fun y => c' (by have := y.2.1; omega)).symm))⟩
  have c1 : (size : Int) ≥ (took.length : Int) := of_decide_eq_true c
  refine ⟨_, rfl, _, rfl, aB, _, _, _, rfl, rfl, .inl (.inl hB), hat, _, rfl, aTk, _, rfl, .inl (SqL.of hk), _, rfl, l, _, rfl, SqL.of hl, fun p1 hp1 => ?_⟩
  rw [List.length_map]
  have e1 : cutV (bk.map V.str) none (some (took.length : Int)) = (bk.take took.length).map V.str := by rw [cut_take, List.map_take]
  rw [e1]
  have g1 : Gr S 0 H (upd H p1 (.lst ((bk.take took.length).map V.str))) := .new hS.told hp1
  refine ⟨_, rfl, 1, _, texts_eqB upd_same (g1.lst hk), un 1 (by omega), _, rfl, ?_⟩
  refine ite2 (fun c => ?_) (fun c => ?_)
  rotate_left
  · have c' := of_decide_eq_false (Bool.eq_false_iff.mpr c)
    exact ⟨_, rfl, _, rfl, iteF (fin 0 _ false (by omega) g1 (by rw [ga]; exact (decide_eq_false fun y => c' y.2.2.1).symm))⟩
  have c2 := of_decide_eq_true c
  have hS1 := hS.up g1.gn
  generalize hH1 : upd H p1 (.lst ((bk.take took.length).map V.str)) = H1 at g1 hS1 ⊢
  have hp1' := hp.up g1
  cases po with
  | none =>
    obtain ⟨Ty, hT, hkT⟩ := hp1'.notL.ty K
    exact ⟨_, rfl, _, _, _, false, rfl, hT, hkT, _, rfl, _, rfl, iteF (fin 0 H1 false (by omega) g1 (by rw [ga]; exact (decide_eq_false fun y => by simpa using y.2.2.2).symm))⟩
  | some os =>
    obtain ⟨b, ws, rfl, hb, it, hg⟩ := id hp1'
    refine ⟨_, rfl, _, _, _, true, rfl, .lst hb, kit_ll, _, rfl, _, rfl, iteT ?_⟩
    refine ⟨_, rfl, _, rfl, _, rfl, _, rfl, _, rfl, aB, _, _, _, rfl, rfl, .inl (.inl (g1.gn.keep _ _ hB rfl)), hat, _, rfl, _, rfl, l, _, rfl, SqL.of (g1.lst hl), fun p2 hp2 => ?_⟩
    have e2 : cutV (bk.map V.str) none (some (size : Int)) = (bk.take size).map V.str := by rw [cut_take, List.map_take]
    rw [e2]
    have g2 : Gr S 0 H1 (upd H1 p2 (.lst ((bk.take size).map V.str))) := .new hS1.told hp2
    have lt : (bk.take size).length = size := by rw [List.length_take]; omega
    have g12 := g1.trans g2
    refine ⟨S, f, p2, bk.take size, rfl, hS1.up g2.gn, upd_same, by omega, hc.go g12.gn (by omega), fun r rs H3 g3 er ir => ?_⟩
    have g13 := g12.trans g3
    refine ⟨_, rfl, aTk, _, rfl, .inl (SqL.of (g13.lst hk)), ?_⟩
    rw [List.length_map]
    refine ⟨S, f, r, rs, (bk.take size).map lfE, took.length, rfl, hS.up g13.gn, SqL.of er, ir, by rw [List.length_map]; omega, by rw [List.length_map]; omega, hc.go g13.gn (by rw [List.length_map]; omega), fun r4 rs4 H4 g4 nr4 er4 ir4 => ?_⟩
    rw [List.length_map] at g4
    have g14 := g13.trans g4
    have g24 := (g2.trans g3).trans g4
    have hgg := grow_gd (zs := bk.take size) (p := took.length) (by omega)
    refine ⟨266, _, trees_eqB (g := gS .nd) (s := .nd) (n := 265) (hS.up g14.gn).ints (fun t ht => (hg t ht).2) (fun t ht => (hgg t ht).2) (fun t ht => (hg t ht).1) (isTs_up g24.gn it) ir4 (g24.lst hb) er4, un 266 (by omega), fin _ H4 _ (by omega) g14 ?_⟩
    rw [ga, decide_eq_decide]
    exact ⟨fun z => ⟨ets, by omega, c2, by rw [z]⟩, fun z => Option.some.inj z.2.2.2⟩
def spOff (K : PySem.W.Frag) (mg : Str → Option Value) (C cT cF : Addr) : Sp := fun vs H Q _ => ∃ S f xF aTk aB aK x0 x1 l0 l1 b0 b1, ∃ took : List Str, ∃ v, ∃ cell : Int, vs = [.ref f, .ref xF, .ref aTk, .ref aB, .ref aK, .int cell] ∧ W13 K mg C cT S f x0 x1 aK aB l0 l1 b0 b1 2500 H ∧ FoAt cF H xF f (took.length : Int) v ∧ isT S H (hdE took) v ∧ H aTk = some (.lst (took.map V.str)) ∧ took.length ≤ 260 ∧
  ∀ r (took' : List Str) v' H', KeepX S 2500 xF H H' → H' r = some (.lst (took'.map V.str)) → took'.length ≤ 260 → FoAt cF H' xF f (took'.length : Int) v' → isT S H' (hdE took') v' → (r = aTk ∨ H r = none) → Q (.ref r) H'
theorem ok_off (F : FunAt K mg "_law_offered" sOffered) (TK : TxK K mg C) (TF : TxF K mg cF) (Mg : MtP P w K mg base C 14 "growth" ["self", "old", "size"] (spKGrow K mg C cT)) (Mh : MtP P w K mg base C 13 "head" ["self", "size"] (spKHead K mg C cT)) (Mft : MtP P w K mg base cF 23 "take" ["self", "size", "head", "paper"] (spFT K mg cF .nd 265))
    (Fd : FnP P w K mg base 1 "_law_draw" ["_law_cell", "_law_k", "_law_many"] spDraw) (Fbe : FnP P w K mg base 2 "_law_bent" ["_law_seal", "_law_paper", "_law_cell"] (spBent K mg 265)) (Fv : FnP P w K mg base 2 "_law_leaves" ["_law_seal", "_law_texts"] (spLeaves K mg)) (Flg : FnP P w K mg base 13 "_law_growth" ["_law_seal", "_law_leaves_here", "_law_old"] (spGrow K mg 9)) (ml : mg "len" = none) (mm : mg "min" = none) (mli : mg "list" = none) (mi : mg "isinstance" = none) (mb : mg "bool" = none) :
    FnP P w K mg base 60 "_law_offered" ["_law_seal", "_law_follower", "_law_took", "_law_books_here", "_law_keepers", "_law_cell"] (spOff K mg C cT cF) := by
  refine F.ok scOf (fun _ _ _ _ _ _ us hl => match us, hl with | [_, _, _, _, _, _], _ => rfl) (fun vs H Q E h => ?_) (fun f0 cdv A outer s H vs Q E hr h => ?_)
  · obtain ⟨S, f, xF, aTk, aB, aK, x0, x1, l0, l1, b0, b1, took, v, cell, rfl, _⟩ := h; rfl
  obtain ⟨S, f, xF, aTk, aB, aK, x0, x1, l0, l1, b0, b1, took, v, cell, rfl, hW, hF, iv, hk, tl, q⟩ := h
  have nd := scOf.nd
  have hun := hr.un
  have un : ∀ n, n ≤ 300 → (A.deeper (PyProof.Rows.envOfC "_law_offered" (defScope sOffered) s.heap.objs.size f0 cdv)).units + n + 1 < cLine := fun n hn => by omega
  obtain ⟨tr, htr, hrest⟩ := off_c (P := P) (w := w) (K := K) (mg := mg) (base := base) (outer := outer) (H0 := H) (E := E) (Q := Q) hr Fv Flg ml mli mi mb
  refine ⟨_, pss_cons (ps_set (i := 6) nd rfl (Or.inl rfl) (pe_callN Fd (hr.mono (by omega)) rfl (pa_cons (pv 5) (pa_cons pe_int (pa_cons pe_int pa_nil))))) <|
    pss_cons (ps_set (i := 7) nd rfl (Or.inl rfl) (pe_callN Fd (hr.mono (by omega)) rfl (pa_cons (pv 5) (pa_cons pe_int (pa_cons (pe_op op_add (pe_callB call_len_seq rfl ml PySem.boot_len (pa_cons (pe_ix ix_tup (pv 3) (pv 6) (fun _ _ => rfl)) pa_nil)) pe_int) pa_nil))))) <|
    pss_cons (ps_set (i := 8) nd rfl (Or.inl rfl) (pe_ifExp (PW.pt (pw_or (pt_cmpR op_eqB (pv 2) (pe_lst pa_nil) (nomark _)) (pw_or1 (pt_cmpR op_gt (pe_callN Fd (hr.mono (by omega)) rfl (pa_cons (pv 5) (pa_cons pe_int (pa_cons pe_int pa_nil)))) pe_int (nomark _))))) (pv 7) (pe_callN Fd (hr.mono (by omega)) rfl (pa_cons (pv 5) (pa_cons pe_int (pa_cons pe_int pa_nil)))))) <|
    pss_cons (ps_set (i := 9) nd rfl (Or.inl rfl) (pe_ifExp (pt_cmpR op_gt (pe_callN Fd (hr.mono (by omega)) rfl (pa_cons (pv 5) (pa_cons pe_int (pa_cons pe_int pa_nil)))) pe_int (nomark _)) (pe_callB (call_min2 rfl) rfl mm PyProof.Rows.boot_min (pa_cons (pe_callB call_len_seq rfl ml PySem.boot_len (pa_cons (pv 2) pa_nil)) (pa_cons (pv 7) pa_nil))) (pe_callN Fd (hr.mono (by omega)) rfl (pa_cons (pv 5) (pa_cons pe_int (pa_cons (pe_op op_add (pv 7) pe_int) pa_nil)))))) <|
    pss_cons (ps_set (i := 10) nd rfl (Or.inl rfl) (pe_ifExp (pt_cmpR op_eq (pe_callN Fd (hr.mono (by omega)) rfl (pa_cons (pv 5) (pa_cons pe_int (pa_cons pe_int pa_nil)))) pe_int (nomark _)) (pe_op op_sub pe_int (pv 6)) (pv 6))) <|
    pss_cons (ps_set (i := 11) nd rfl (Or.inl rfl) (pe_callB (call_min2 rfl) rfl mm PyProof.Rows.boot_min (pa_cons (pv 7) (pa_cons (pe_callB call_len_seq rfl ml PySem.boot_len (pa_cons (pe_ix ix_tup (pv 3) (pv 10) (fun _ _ => rfl)) pa_nil)) pa_nil)))) <|
    pss_cons (ps_set (i := 12) nd rfl (Or.inl rfl) (pe_callN Fbe (hr.mono (by omega)) rfl (pa_cons (pv 0) (pa_cons (pe_methN Mg (pe_ix ix_list (pv 4) (pv 10) (fun _ _ => rfl)) TK.cl (hr.mono (by omega)) (pa_cons (pe_callB (call_min2 rfl) rfl mm PyProof.Rows.boot_min (pa_cons (pv 9) (pa_cons (pv 11) pa_nil))) (pa_cons (pv 11) pa_nil))) (pa_cons (pv 5) pa_nil))))) <|
    pss_cons (ps_set (i := 13) nd rfl (Or.inl rfl) (pe_methN Mft (pv 1) TF.cl (hr.mono (by omega)) (pa_cons (pv 8) (pa_cons (pe_methN Mh (pe_ix ix_list (pv 4) (pv 6) (fun _ _ => rfl)) TK.cl (hr.mono (by omega)) (pa_cons (pv 7) pa_nil)) (pa_cons (pv 12) pa_nil))))) <|
    htr, ?_⟩
  have tld := hW.sl.told
  have min_nat : ∀ a b : Nat, (if (b : Int) < (a : Int) then (b : Int) else (a : Int)) = ((min a b : Nat) : Int) := fun a b => by split <;> omega
  refine ⟨_, rfl, cell, 0, 2, rfl, by decide, by decide, fun kk H1 ka kb x1 => ?_⟩
  have g1 : Gr S 0 H H1 := .ext tld x1
  have W1 := hW.go (b := 2500) g1 (by omega)
  obtain ⟨xk, lk, bk, ex, el, hKk, hlk, bkl⟩ := W1.at ka kb
  refine ⟨_, rfl, _, rfl, _, rfl, aB, _, _, _, rfl, rfl, .inl (.inl W1.bt), el, lk, _, rfl, .inl (SqL.of hlk), _, _, rfl, rfl, ?_⟩
  rw [List.length_map]
  refine ⟨cell, 1, _, rfl, by decide, by omega, fun v2 H2 a2 b2 x2 => ?_⟩
  have g2 : Gr S 0 H1 H2 := .ext g1.gn.told2 x2
  have g12 := g1.trans g2
  obtain ⟨size, rfl, szE⟩ : ∃ size : Nat, v2 = (size : Int) ∧ size ≤ bk.length := ⟨v2.toNat, by omega, by omega⟩
  -- the size told
  dsimp only [gName]
  refine joinAsg (fun u H' => ∃ n : Nat, u = .int n ∧ n ≤ 300 ∧ (took = [] → n = size) ∧ Gr S 0 H1 H') (fun Q' hQ => ?_) ?_
  · refine ⟨_, rfl, by show 0 ≤ sizeLine; decide, fun p hp => ?_⟩
    have g3 : Gr S 0 H2 (upd H2 p (.lst [])) := .new g2.gn.told2 hp
    have g23 := g2.trans g3
    refine ⟨1, _, eqB_nil (g3.lst (g12.lst hk)) upd_same, un 1 (by omega), _, rfl, ?_⟩
    refine ite2 (fun _ => iteT ⟨_, rfl, hQ _ _ ⟨size, rfl, by omega, fun _ => rfl, g23⟩⟩) (fun cn => ?_)
    have tne : took ≠ [] := by rintro rfl; exact cn rfl
    refine ⟨_, rfl, cell, 2, 8, rfl, by decide, by decide, fun v4 H4 _ _ x4 => ⟨_, _, rfl, rfl, _, rfl, ?_⟩⟩
    have g4 : Gr S 0 H1 H4 := g23.trans (.ext g23.gn.told2 x4)
    refine ite2 (fun _ => ⟨_, rfl, hQ _ _ ⟨size, rfl, by omega, fun _ => rfl, g4⟩⟩) (fun _ => ?_)
    exact ⟨_, rfl, cell, 3, 20, rfl, by decide, by decide, fun v5 H5 a5 b5 x5 => hQ _ _ ⟨v5.toNat, by rw [show ((v5.toNat : Nat) : Int) = v5 by omega], by omega, fun e => absurd e tne, g4.trans (.ext g4.gn.told2 x5)⟩⟩
  rintro _ H3 ⟨told, rfl, told3, h0, g3⟩
  -- the old size of the paper
  dsimp only [gName]
  refine joinAsg (fun u H' => ∃ n : Nat, u = .int n ∧ Gr S 0 H1 H') (fun Q' hQ => ?_) ?_
  · refine ⟨_, rfl, cell, 4, 5, rfl, by decide, by decide, fun v4 H4 _ _ x4 => ⟨_, _, rfl, rfl, _, rfl, ?_⟩⟩
    have g4 : Gr S 0 H1 H4 := g3.trans (.ext g3.gn.told2 x4)
    refine ite2 (fun _ => ?_) (fun _ => ?_)
    · refine ⟨_, rfl, aTk, _, rfl, .inl (SqL.of ((g1.trans g4).lst hk)), _, rfl, _, _, rfl, ?_⟩
      rw [List.length_map, min_nat]
      exact hQ _ _ ⟨min took.length size, rfl, g4⟩
    · refine ⟨_, rfl, _, rfl, _, _, rfl, rfl, cell, 5, _, rfl, by decide, by omega, fun v5 H5 a5 b5 x5 => hQ _ _ ⟨v5.toNat, by rw [show ((v5.toNat : Nat) : Int) = v5 by omega], g4.trans (.ext g4.gn.told2 x5)⟩⟩
  rintro _ H4 ⟨old, rfl, g4⟩
  -- whose paper
  dsimp only [gName]
  refine joinAsg (fun u H' => ∃ j : Int, u = .int j ∧ 0 ≤ j ∧ j < 2 ∧ Gr S 0 H1 H') (fun Q' hQ => ?_) ?_
  · refine ⟨_, rfl, cell, 8, 6, rfl, by decide, by decide, fun v5 H5 _ _ x5 => ⟨rfl, _, rfl, ?_⟩⟩
    have g5 : Gr S 0 H1 H5 := g4.trans (.ext g4.gn.told2 x5)
    refine ite2 (fun _ => ⟨_, rfl, _, _, rfl, rfl, hQ _ _ ⟨_, rfl, by omega, by omega, g5⟩⟩) (fun _ => ⟨_, rfl, hQ _ _ ⟨kk, rfl, ka, kb, g5⟩⟩)
  rintro _ H5 ⟨j, rfl, ja, jb, g5⟩
  have W5 := W1.go (b := 2500) g5 (by omega)
  obtain ⟨xj, lj, bj, exj, elj, ⟨d1, d2, d3, hKj⟩, hlj, bjl⟩ := W5.at ja jb
  refine ⟨_, rfl, _, rfl, _, rfl, aB, _, _, _, rfl, rfl, .inl (.inl W5.bt), elj, lj, _, rfl, .inl (SqL.of hlj), _, _, rfl, ?_⟩
  rw [List.length_map, min_nat]
  -- the paper
  obtain ⟨dxj, hxj⟩ := hKj.ob
  refine ⟨_, rfl, _, rfl, _, rfl, aK, _, _, _, rfl, rfl, SqL.of W5.kl, exj, xj, dxj, _, rfl, hxj, rfl, _, rfl, _, rfl, _, _, rfl, ?_⟩
  rw [min_nat]
  refine ⟨_, rfl, ?_⟩
  refine ⟨S, xj, f, d1, d2, d3, bj, min old (min size bj.length), min size bj.length, rfl, hKj, W5.sl, by omega, by omega, by omega, W5.cap.dn (by omega), fun r rs H6 g6 er ir => ?_⟩
  have g16 := g5.trans g6
  have W6 := W5.go (b := 2190) g6 (by omega)
  have wlen := Gb.growT_len nlT prT 9 ((bj.take (min size bj.length)).map lfE) (min old (min size bj.length)) (by rw [List.length_map, List.length_take]; omega)
  have wl := pr_len ir
  refine ⟨_, rfl, S, f, r, rs, _, cell, rfl, W6.sl, W6.cap.dn (by omega), er, ir, grow_gd (by rw [List.length_take]; omega), by omega, by have : (gwT ((bj.take (min size bj.length)).map lfE) (min old (min size bj.length))).length ≤ 10 := wlen; omega, fun pvv po H7 g7 hp7 => ?_⟩
  have g17 := g16.trans g7
  have W7 := W6.go (b := 2189) g7 (by omega)
  -- the head
  have hF7 := hF.up (g1.trans g17)
  obtain ⟨dxF, hxF7⟩ := id hF7
  obtain ⟨a1, a2, a3, hKk⟩ := hKk
  have hKk7 := hKk.up g17
  obtain ⟨dxk, hxk⟩ := hKk7.ob
  refine ⟨_, rfl, xF, dxF, _, rfl, hxF7, rfl, _, rfl, _, rfl, _, rfl, aK, _, _, _, rfl, rfl, SqL.of W7.kl, ex, xk, dxk, _, rfl, hxk, rfl, _, rfl, ?_⟩
  refine ⟨S, xk, f, a1, a2, a3, bk, size, rfl, hKk7, W7.sl, szE, by omega, W7.cap.dn (by omega), fun vh H8 g8 i8 => ?_⟩
  have g18 := g17.trans g8
  have gg8 := g1.trans g18
  have W8 := W7.go (b := 1879) g8 (by omega)
  have hF8 := hF7.up g8
  have tk8 : (bk.take size).length ≤ 260 := by rw [List.length_take]; omega
  refine ⟨_, rfl, ?_⟩
  refine ⟨S, xF, f, hdE (bk.take size), vh, hdE took, v, pvv, po, told, took.length, rfl, hF8, W8.sl, W8.cap.dn (by omega), i8, isT_up gg8.gn iv, hdE_gd tk8, hdE_gd tl, hp7.up g8, Nat.le_trans told3 (by decide), by omega, fun H9 k9 hF9 => ?_⟩
  obtain ⟨dx8, hx8⟩ := id hF8
  have lk9 := k9.same hx8 (g18.lst hlk) (fun _ _ _ e => nomatch e) (fun _ e => nomatch e)
  have kk9 := k9.same hx8 (gg8.lst hk) (fun _ _ _ e => nomatch e) (fun _ e => nomatch e)
  have bt9 := k9.same hx8 W8.bt (fun _ _ _ e => nomatch e) (fun _ e => nomatch e)
  have kk19 := (KeepX.of (p := xF) gg8).trans k9
  have hp9 : Pap .nd S H9 265 pvv po := by
    have hp8 := hp7.up g8
    cases po with
    | some os =>
      obtain ⟨b, ws, rfl, hb, it, hg⟩ := hp8
      exact ⟨b, ws, rfl, k9.same hx8 hb (fun _ _ _ e => nomatch e) (fun _ e => nomatch e), isTs_up k9.gn it, hg⟩
    | none =>
      rcases hp8 with h | ⟨b, ws, os, rfl, hb, it, hg⟩
      · exact .inl h
      · exact .inr ⟨b, ws, os, rfl, k9.gn.keep _ _ hb rfl, isTs_up k9.gn it, hg⟩
  refine hrest S f aTk aB lk l0 l1 kk size told bk took po pvv H9 _ _ _ _ _ _ (W8.sl.up k9.gn) (W8.cap.go k9.gn (by omega)) bt9 el lk9 bkl szE kk9 tl h0 hp9 (fun e H' g => ?_) (fun e r9 H' g nr er9 => ?_)
  · rw [e, if_neg (by simp)] at hF9
    exact q aTk took v H' ((kk19.trans (.of g)).up (by omega)) (g.lst kk9) tl (hF9.up g) (isT_up (kk19.gn.trans g.gn) iv) (.inl rfl)
  · have ets : told = size := by
      have z := gr_all (po := po) (told := told) (took := took) szE h0
      rw [z] at e; exact (of_decide_eq_true e).1
    rw [e, if_pos rfl, ets] at hF9
    have lt : (bk.take size).length = size := by rw [List.length_take]; omega
    refine q r9 (bk.take size) vh H' ((kk19.trans (.of g)).up (by omega)) er9 tk8 (by rw [lt]; exact hF9.up g) (isT_up (k9.gn.trans g.gn) i8) (.inr ?_)
    cases z : H r9 with
    | none => rfl
    | some o =>
      exfalso
      by_cases hx : r9 = xF
      · subst hx
        obtain ⟨dx9, hx9⟩ := hF9
        rw [hx9] at nr; cases nr
      · by_cases hd : S.d = some r9
        · obtain ⟨kvs, more, _, z2, _, _⟩ := kk19.gn.told r9 hd
          rw [z2] at nr; cases nr
        · rw [kk19.all r9 o z hx hd] at nr; cases nr
end
end My
namespace My
open PySem L2
theorem joinS {ta tb : TS} {D : Ends} {σ : St} {H : Hp} (R : St → Hp → Prop) (hm : ∀ D' : Ends, (∀ σ' H', R σ' H' → D'.nx σ' H') → ta D' σ H) (hq : ∀ σ' H', R σ' H' → tb D σ' H') : tSeq ta tb D σ H := hm _ hq
section
variable {P : Program} {w : World} {K : PySem.W.Frag} {mg : Str → Option Value} {base : Heap} {C cT cF cS cC cG : Addr}
abbrev nJu : List Str := ["_law_seal", "_law_follower", "_law_took", "_law_books_here", "_law_keepers", "_law_cell", "_law_k", "_law_size", "_law_place", "_law_at", "_law_path_here", "_law_claim", "_law_due", "_law_found"]
theorem scJu : FnScope nJu ["_law_seal", "_law_follower", "_law_took", "_law_books_here", "_law_keepers", "_law_cell"] (defScope sJudged) := ⟨rfl, rfl, rfl, by decide +kernel, rfl, by decide +kernel, by decide +kernel⟩
theorem jud_b {f0 : Addr} {cdv : Value} {A : Around} {outer : List Env} {s : Shared} {H0 : Hp} {E : XK} {Q : VK} (hr : Room 59 (A.deeper (PyProof.Rows.envOfC "_law_judged" (defScope sJudged) s.heap.objs.size f0 cdv))) (TF : TxF K mg cF) (Mfj : MtP P w K mg base cF 23 "judge" ["self", "claim", "paper"] (spFJS K mg cF cS .nd 265)) (mi : mg "isinstance" = none) (mb : mg "bool" = none) :
    ∃ t, PSs (cxOf CX0 P w K mg base nJu "_law_judged" (defScope sJudged) f0 cdv A outer s H0 E).nox ((defBody sJudged).drop 9) t ∧
      ∀ (S : Sl) (f xF y p : Addr) (took : List Str) (v vi : V) (z : Str) (place : Nat) (os : List Tm) (rs : List V) (H : Hp) (o2 o3 o4 o5 o6 o7 o8 o9 : Option V), SealAt K mg sNumd S H f → Cap S H 60 → FoAt cF H xF f (took.length : Int) v → isT S H (hdE took) v → took.length ≤ 260 → StAt cS H y (place : Int) z vi → isT S H emT vi → H p = some (.lst rs) → isTs S H os rs → (∀ t ∈ os, Gd .nd 265 t) →
        (∀ H', Gr S 60 H H' → Q (.bl true) H') →
        t { nx := fun _ H' => Q .non H', rt := Q } [some (.ref f), some (.ref xF), o2, o3, o4, o5, o6, o7, o8, o9, some (.ref p), some (.ref y), some (.bl (stB (some os) (took.length : Int) (place : Int) (hdE took) (lfE z))), none] H := by
  have nd := scJu.nd
  refine ⟨_, pss_cons (ps_set (i := 13) nd rfl (Or.inl rfl) (pe_methN Mfj (pv 1) TF.cl (hr.mono (by omega)) (pa_cons (pv 11) (pa_cons (pv 10) pa_nil)))) <|
    pss_one (ps_ret (pe_and (pe_callB call_isinst rfl mi PyProof.Rows.boot_isinstance (pa_cons (pv 13) (pa_cons (pe_ty rfl mb PyProof.Rows.boot_bool) pa_nil))) (pe_one (pe_cmpR op_eq (pv 13) (pv 12) (nomark _))))), ?_⟩
  intro S f xF y p took v vi z place os rs H o2 o3 o4 o5 o6 o7 o8 o9 hS hc hF iv tl hy ii hp it hg q
  obtain ⟨dx, hx⟩ := id hF
  refine ⟨_, rfl, xF, dx, _, rfl, hx, rfl, _, rfl, _, rfl, ?_⟩
  refine ⟨S, xF, y, f, hdE took, v, emT, vi, .ref p, some os, took.length, (place : Int), z, rfl, hF, hy, hS, hc.dn (by omega), iv, ii, hdE_gd tl, lfE_gd z (by omega), ⟨p, rs, rfl, hp, it, hg⟩, Nat.le_trans tl (by decide), by omega, fun H1 g1 => ?_⟩
  refine ⟨_, rfl, _, _, _, true, rfl, .bl _, kit_bb, _, rfl, ?_⟩
  refine iteT ?_
  refine ⟨_, rfl, _, rfl, rfl, ?_⟩
  dsimp only
  rw [eB _ _ rfl]
  exact q H1 (g1.up (by omega))
def spJud (K : PySem.W.Frag) (mg : Str → Option Value) (C cT cF : Addr) : Sp := fun vs H Q _ => ∃ S f xF aTk aB aK x0 x1 l0 l1 b0 b1, ∃ took : List Str, ∃ v, ∃ cell : Int, vs = [.ref f, .ref xF, .ref aTk, .ref aB, .ref aK, .int cell] ∧ W13 K mg C cT S f x0 x1 aK aB l0 l1 b0 b1 2500 H ∧ FoAt cF H xF f (took.length : Int) v ∧ isT S H (hdE took) v ∧ H aTk = some (.lst (took.map V.str)) ∧ took.length ≤ 260 ∧
  ∀ H', Gr S 2500 H H' → Q (.bl true) H'
theorem ok_jud (F : FunAt K mg "_law_judged" sJudged) (TK : TxK K mg C) (TF : TxF K mg cF) (TS : TxS K mg cS cC) (MS : ∃ fI, Mk K cS fI) (Msi : MtP P w K mg base cS 1 "__init__" ["self", "place", "text", "table"] (spSI cS)) (Mp : MtP P w K mg base C 14 "path" ["self", "place", "size"] (spKPath K mg C cT)) (Mfj : MtP P w K mg base cF 23 "judge" ["self", "claim", "paper"] (spFJS K mg cF cS .nd 265))
    (Fl : CallOk P w K mg base CX0 1 (spSeal K mg sNumd)) (Fd : FnP P w K mg base 1 "_law_draw" ["_law_cell", "_law_k", "_law_many"] spDraw) (Fv : FnP P w K mg base 2 "_law_leaves" ["_law_seal", "_law_texts"] (spLeaves K mg)) (Flp : FnP P w K mg base 13 "_law_path" ["_law_seal", "_law_leaves_here", "_law_place"] (spPath K mg 9)) (ml : mg "len" = none) (mi : mg "isinstance" = none) (mb : mg "bool" = none) :
    FnP P w K mg base 60 "_law_judged" ["_law_seal", "_law_follower", "_law_took", "_law_books_here", "_law_keepers", "_law_cell"] (spJud K mg C cT cF) := by
  refine F.ok scJu (fun _ _ _ _ _ _ us hl => match us, hl with | [_, _, _, _, _, _], _ => rfl) (fun vs H Q E h => ?_) (fun f0 cdv A outer s H vs Q E hr h => ?_)
  · obtain ⟨S, f, xF, aTk, aB, aK, x0, x1, l0, l1, b0, b1, took, v, cell, rfl, _⟩ := h; rfl
  obtain ⟨S, f, xF, aTk, aB, aK, x0, x1, l0, l1, b0, b1, took, v, cell, rfl, hW, hF, iv, hk, tl, q⟩ := h
  have nd := scJu.nd
  have hun := hr.un
  have un : ∀ n, n ≤ 300 → (A.deeper (PyProof.Rows.envOfC "_law_judged" (defScope sJudged) s.heap.objs.size f0 cdv)).units + n + 1 < cLine := fun n hn => by omega
  obtain ⟨tr, htr, hrest⟩ := jud_b (P := P) (w := w) (K := K) (mg := mg) (base := base) (outer := outer) (H0 := H) (E := E) (Q := Q) hr TF Mfj mi mb
  refine ⟨_, pss_cons (ps_set (i := 6) nd rfl (Or.inl rfl) (pe_callN Fd (hr.mono (by omega)) rfl (pa_cons (pv 5) (pa_cons pe_int (pa_cons pe_int pa_nil))))) <|
    pss_cons (ps_if (pt_cmpR op_eqB (pe_ix ix_tup (pv 3) (pv 6) (fun _ _ => rfl)) (pe_lst pa_nil) (nomark _)) (pss_one (ps_ret pe_bl)) pss_nil) <|
    pss_cons (ps_set (i := 7) nd rfl (Or.inl rfl) (pe_op op_add pe_int (pe_callN Fd (hr.mono (by omega)) rfl (pa_cons (pv 5) (pa_cons pe_int (pa_cons (pe_callB call_len_seq rfl ml PySem.boot_len (pa_cons (pe_ix ix_tup (pv 3) (pv 6) (fun _ _ => rfl)) pa_nil)) pa_nil)))))) <|
    pss_cons (ps_set (i := 8) nd rfl (Or.inl rfl) (pe_callN Fd (hr.mono (by omega)) rfl (pa_cons (pv 5) (pa_cons pe_int (pa_cons (pv 7) pa_nil))))) <|
    pss_cons (ps_set (i := 9) nd rfl (Or.inl rfl) (pe_ifExp (pt_cmpR op_gt (pe_callN Fd (hr.mono (by omega)) rfl (pa_cons (pv 5) (pa_cons pe_int (pa_cons pe_int pa_nil)))) pe_int (nomark _)) (pv 8) (pe_callN Fd (hr.mono (by omega)) rfl (pa_cons (pv 5) (pa_cons pe_int (pa_cons pe_int pa_nil)))))) <|
    pss_cons (ps_set (i := 10) nd rfl (Or.inl rfl) (pe_methN Mp (pe_ix ix_list (pv 4) (pv 6) (fun _ _ => rfl)) TK.cl (hr.mono (by omega)) (pa_cons (pv 8) (pa_cons (pv 7) pa_nil)))) <|
    pss_cons (ps_set (i := 11) nd rfl (Or.inl rfl) (pe_makeM MS Msi (hr.mono (by omega)) rfl TS.mgC (pa_cons (pv 9) (pa_cons (pe_ix ix_list (pe_ix ix_tup (pv 3) (pv 6) (fun _ _ => rfl)) (pv 8) (fun _ _ => rfl)) (pa_cons (pe_callV (i := 0) Fl (hr.mono (by omega)) pass0 rfl (Or.inl rfl) (pa_cons pe_str (pa_cons pe_int (pa_cons (pe_callV (i := 0) Fl (hr.mono (by omega)) pass0 rfl (Or.inl rfl) (pa_cons pe_str (pa_cons pe_int (pa_cons pe_int pa_nil)))) pa_nil)))) pa_nil))))) <|
    pss_cons (ps_set (i := 12) nd rfl (Or.inl rfl) (pe_and (pe_cmpR op_lt (pv 9) (pe_callB call_len_seq rfl ml PySem.boot_len (pa_cons (pv 2) pa_nil)) (nomark _)) (pe_one (pe_cmpR op_eq (pe_ix ix_list (pv 2) (pv 9) (fun _ _ => rfl)) (pe_ix ix_list (pe_ix ix_tup (pv 3) (pv 6) (fun _ _ => rfl)) (pv 8) (fun _ _ => rfl)) (nomark _))))) <|
    pss_cons (ps_if (pt_val (pv 12)) (pss_one (ps_set (i := 12) nd rfl (Or.inl rfl) (pe_cmpR op_eqB (pv 10) (pe_callN Flp (hr.mono (by omega)) rfl (pa_cons (pv 0) (pa_cons (pe_callN Fv (hr.mono (by omega)) rfl (pa_cons (pv 0) (pa_cons (pv 2) pa_nil))) (pa_cons (pv 9) pa_nil)))) (nomark _)))) pss_nil) <|
    htr, ?_⟩
  have tld := hW.sl.told
  refine ⟨_, rfl, cell, 0, 2, rfl, by decide, by decide, fun kk H1 ka kb x1 => ?_⟩
  have g1 : Gr S 0 H H1 := .ext tld x1
  have W1 := hW.go (b := 2500) g1 (by omega)
  obtain ⟨xk, lk, bk, ex, el, hKk, hlk, bkl⟩ := W1.at ka kb
  refine ⟨_, rfl, _, rfl, aB, _, _, _, rfl, rfl, .inl (.inl W1.bt), el, by show 0 ≤ sizeLine; decide, fun p hp => ?_⟩
  have g2 : Gr S 0 H1 (upd H1 p (.lst [])) := .new W1.sl.told hp
  have W2 := W1.go (b := 2500) g2 (by omega)
  have hlk2 := g2.lst hlk
  have g12 := g1.trans g2
  refine ⟨1, _, eqB_nil hlk2 upd_same, un 1 (by omega), _, rfl, ?_⟩
  refine ite2 (fun _ => q _ (g12.up (by omega))) (fun cn => ?_)
  have bne : bk ≠ [] := by rintro rfl; exact cn rfl
  have bpos : 0 < bk.length := List.length_pos_iff.mpr bne
  generalize upd H1 p (.lst []) = H2 at g2 W2 hlk2 g12 ⊢
  refine ⟨_, rfl, _, rfl, _, rfl, aB, _, _, _, rfl, rfl, .inl (.inl W2.bt), el, lk, _, rfl, .inl (SqL.of hlk2), ?_⟩
  rw [List.length_map]
  refine ⟨cell, 1, _, rfl, by decide, by omega, fun v3 H3 a3 b3 x3 => ⟨_, _, rfl, rfl, ?_⟩⟩
  have g3 : Gr S 0 H1 H3 := g2.trans (.ext g2.gn.told2 x3)
  obtain ⟨size, hsz, szE, sz1⟩ : ∃ size : Nat, (1 : Int) + v3 = (size : Int) ∧ size ≤ bk.length ∧ 1 ≤ size := ⟨(1 + v3).toNat, by omega, by omega, by omega⟩
  dsimp only [gName]
  rw [hsz]
  refine ⟨_, rfl, _, rfl, cell, 2, _, rfl, by decide, by omega, fun v4 H4 a4 b4 x4 => ?_⟩
  have g4 : Gr S 0 H1 H4 := g3.trans (.ext g3.gn.told2 x4)
  obtain ⟨place, rfl, plE⟩ : ∃ place : Nat, v4 = (place : Int) ∧ place < size := ⟨v4.toNat, by omega, by omega⟩
  dsimp only [gName]
  refine joinAsg (fun u H' => ∃ n : Nat, u = .int n ∧ Gr S 0 H1 H') (fun Q' hQ => ?_) ?_
  · refine ⟨_, rfl, cell, 3, 4, rfl, by decide, by decide, fun v5 H5 _ _ x5 => ⟨_, _, rfl, rfl, _, rfl, ?_⟩⟩
    have g5 : Gr S 0 H1 H5 := g4.trans (.ext g4.gn.told2 x5)
    refine ite2 (fun _ => ⟨_, rfl, hQ _ _ ⟨place, rfl, g5⟩⟩) (fun _ => ?_)
    exact ⟨_, rfl, cell, 4, 20, rfl, by decide, by decide, fun v6 H6 a6 b6 x6 => hQ _ _ ⟨v6.toNat, by rw [show ((v6.toNat : Nat) : Int) = v6 by omega], g5.trans (.ext g5.gn.told2 x6)⟩⟩
  rintro _ H5 ⟨at_, rfl, g5⟩
  have W5 := W1.go (b := 2500) g5 (by omega)
  -- the path
  obtain ⟨a1, a2, a3', hKk⟩ := hKk
  have hKk5 := hKk.up g5
  obtain ⟨dxk, hxk⟩ := hKk5.ob
  refine ⟨_, rfl, _, rfl, aK, _, _, _, rfl, rfl, SqL.of W5.kl, ex, xk, dxk, _, rfl, hxk, rfl, _, rfl, _, rfl, ?_⟩
  refine ⟨S, xk, f, a1, a2, a3', bk, place, size, rfl, hKk5, W5.sl, plE, szE, by omega, W5.cap.dn (by omega), fun r rs H6 g6 er ir => ?_⟩
  have g16 := g5.trans g6
  have W6 := W5.go (b := 2190) g6 (by omega)
  have hlk6 := g16.lst hlk
  have ezk : bk[place]? = some bk[place] := List.getElem?_eq_getElem (by omega)
  have eat : atI (bk.map V.str) (place : Int) = some (.str bk[place]) := atI_nat (by rw [List.getElem?_map, ezk]; rfl)
  -- the claim
  refine ⟨_, rfl, _, rfl, _, rfl, aB, _, _, _, rfl, rfl, .inl (.inl W6.bt), el, _, rfl, lk, _, _, _, rfl, rfl, SqL.of hlk6, eat, f, rfl, W6.sl.fny, f, rfl, W6.sl.fny, W6.sl.fny, S, _, .int 0, .int 0, _, _, W6.sl, W6.cap.dn (by omega), rfl, rfl, rfl, fun v7 H7 g7 i7 => ?_⟩
  have W7 := W6.go (b := 2189) g7 (by omega)
  refine ⟨W7.sl.fny, S, _, .int 8, nlT, _, _, W7.sl, W7.cap.dn (by omega), rfl, rfl, i7, fun v8 H8 g8 i8 => ?_⟩
  have W8 := W7.go (b := 2188) g8 (by omega)
  refine fun y dy ny ndy ney => ⟨y, dy, (at_ : Int), bk[place], v8, rfl, upd_same, fun H9 hy k9 => ⟨rfl, ?_⟩⟩
  have all9 : ∀ b o, H8 b = some o → H9 b = some o := fun b o h => k9 b o (by rw [upd_ne (ne_of_none h ny), upd_ne (ne_of_none h ndy)]; exact h) (ne_of_none h ny)
  have g9 : Gr S 0 H8 H9 := .ext W8.sl.told all9
  have W9 := W8.go (b := 2188) g9 (by omega)
  have g69 := (g7.trans g8).trans g9
  have g19 := g16.trans g69
  have gg9 := g1.trans g19
  have hk9 := gg9.lst hk
  have hlk9 := g19.lst hlk
  have er9 := g69.lst er
  have ir9 := isTs_up g69.gn ir
  have hF9 := hF.up gg9
  have iv9 := isT_up gg9.gn iv
  have i9 := isT_up g9.gn i8
  have hpg := path_gd (zs := bk.take size) (p := place) (by rw [List.length_take]; omega)
  have sa := st_all (took := took) (z := bk[place]) (at_ := at_) (os := paT ((bk.take size).map lfE) place)
  have fin : ∀ (n : Nat) (H' : Hp) (d : Bool), n ≤ 1200 → Gr S n H9 H' → d = stB (some (paT ((bk.take size).map lfE) place)) (took.length : Int) (at_ : Int) (hdE took) (lfE bk[place]) → tr { nx := fun _ H' => Q .non H', rt := Q } [some (.ref f), some (.ref xF), some (.ref aTk), some (.ref aB), some (.ref aK), some (.int cell), some (.int kk), some (.int size), some (.int place), some (.int at_), some (.ref r), some (.ref y), some (.bl d), none] H' := fun n H' d hn g e => by
    subst e
    exact hrest S f xF y r took v v8 bk[place] at_ _ rs H' _ _ _ _ _ _ _ _ (W9.sl.up g.gn) (W9.cap.go g.gn (by omega)) (hF9.up g) (isT_up g.gn iv9) tl (hy.up g) (isT_up g.gn i9) (g.lst er9) (isTs_up g.gn ir9) hpg fun H'' g' => q H'' (((gg9.trans g).trans g').up (by omega))
  refine ⟨_, rfl, _, rfl, aTk, _, rfl, .inl (SqL.of hk9), _, _, rfl, rfl, _, rfl, ?_⟩
  rw [List.length_map]
  refine ite2 (fun c => ?_) (fun c => ?_)
  rotate_left
  · have c' : ¬ (at_ : Int) < (took.length : Int) := of_decide_eq_false (Bool.eq_false_iff.mpr c)
    exact ⟨_, rfl, _, rfl, iteF (fin 0 H9 false (by omega) (.refl W9.sl.told) (by rw [sa]; exact (decide_eq_false fun y => c' (by have := y.1; omega)).symm))⟩
  have c' : (at_ : Int) < (took.length : Int) := of_decide_eq_true c
  have atl : at_ < took.length := by omega
  have eta : took[at_]? = some took[at_] := List.getElem?_eq_getElem atl
  have eat2 : atI (took.map V.str) (at_ : Int) = some (.str took[at_]) := atI_nat (by rw [List.getElem?_map, eta]; rfl)
  refine ⟨_, rfl, _, rfl, aTk, _, _, _, rfl, rfl, SqL.of hk9, eat2, _, rfl, _, rfl, aB, _, _, _, rfl, rfl, .inl (.inl W9.bt), el, _, rfl, lk, _, _, _, rfl, rfl, SqL.of hlk9, eat, rfl, _, rfl, _, rfl, ?_⟩
  refine ite2 (fun c => ?_) (fun c => ?_)
  rotate_left
  · have c2 : ¬ V.str took[at_] = V.str bk[place] := of_decide_eq_false (Bool.eq_false_iff.mpr c)
    rw [Bool.eq_false_iff.mpr c]
    refine fin 0 H9 false (by omega) (.refl W9.sl.told) ?_
    rw [sa]
    exact (decide_eq_false fun y => c2 (by rw [eta] at y; rw [Option.some.inj y.2.1])).symm
  have c2 : V.str took[at_] = V.str bk[place] := of_decide_eq_true c
  have ets : took[at_] = bk[place] := by injection c2
  refine ⟨_, rfl, _, rfl, _, rfl, _, rfl, S, f, aTk, took, rfl, W9.sl, hk9, tl, W9.cap.dn (by omega), fun r3 rs3 H10 g10 er10 ir10 => ?_⟩
  refine ⟨_, rfl, S, f, r3, rs3, took.map lfE, at_, rfl, W9.sl.up g10.gn, SqL.of er10, ir10, by rw [List.length_map]; omega, by rw [List.length_map]; omega, W9.cap.go g10.gn (by rw [List.length_map]; omega), fun r4 rs4 H11 g11 nr4 er4 ir4 => ?_⟩
  rw [List.length_map] at g11
  have g1011 := g10.trans g11
  have hpg2 := path_gd (zs := took) (p := at_) tl
  refine ⟨266, _, trees_eqB (g := gS .nd) (s := .nd) (n := 265) (W9.sl.up g1011.gn).ints (fun t ht => (hpg t ht).2) (fun t ht => (hpg2 t ht).2) (fun t ht => (hpg t ht).1) (isTs_up g1011.gn ir9) ir4 (g1011.lst er9) er4, un 266 (by omega), fin _ H11 _ (by omega) g1011 ?_⟩
  rw [sa, decide_eq_decide]
  exact ⟨fun z => ⟨atl, by rw [eta, ets], z⟩, fun z => z.2.2⟩
end
end My
namespace My
open PySem L2
theorem join_ge : ∀ {ys : List Str}, (∀ y ∈ ys, Sg y) → ∀ c ∈ (Txt.join "" ys).cps.toList, 32 ≤ c := by
  have e0 : ("" : Str) = ⟨#[]⟩ := by decide +kernel
  have key : ∀ {ys : List Str}, (∀ y ∈ ys, Sg y) → ∀ c ∈ (Str.join ⟨#[]⟩ ys).cps.toList, 32 ≤ c := by
    intro ys
    induction ys with
    | nil => intro _ c hc; exact absurd hc (by show c ∉ (#[] : Array Nat).toList; simp)
    | cons y r ih =>
      intro h c hc
      rw [PyProof.Rows.join_nil_cons] at hc
      have hc : c ∈ (y.cps ++ (Str.join ⟨#[]⟩ r).cps).toList := hc
      rw [Array.toList_append] at hc
      rcases List.mem_append.mp hc with z | z
      · exact ((h y List.mem_cons_self).2 c z).1
      · exact ih (fun y hy => h y (List.mem_cons_of_mem _ hy)) c z
  intro ys h c hc
  have e : Txt.join "" ys = Str.join ⟨#[]⟩ ys := by
    show Builtin.Str.glued "" ys = _
    rw [StrLaws.glued_eq_join, e0]
  rw [e] at hc
  exact key h c hc
theorem len_join {us : List Str} (h : ∀ y ∈ us, Sg y) : (Txt.join "" us).length = us.length := PySem.W.KT.join_ones us fun a ha => (h a ha).1
theorem rem_of {ys : List Str} (hl : ys.length ≤ 5) (h : ∀ y ∈ ys, Sg y) : Rem ("#" ++ Txt.join "" ys) := ⟨_, rfl, join_ge h, by rw [len_join h]; exact hl⟩
section
variable {P : Program} {w : World} {K : PySem.W.Frag} {mg : Str → Option Value} {base : Heap} {C cT cF cS cC cG : Addr}
def spBooks (K : PySem.W.Frag) : Sp := fun vs H Q _ => ∃ (a : Addr) (ns : List Int), vs = [.ref a] ∧ SqF K H a (ns.map V.int) ∧ ∀ r l0 l1 (b0 b1 : List Str) H', (∀ b o, H b = some o → H' b = some o) → H' r = some (.tup [.ref l0, .ref l1]) → H' l0 = some (.lst (b0.map V.str)) → H' l1 = some (.lst (b1.map V.str)) → b0.length ≤ 260 → b1.length ≤ 260 → (∀ z ∈ b0, Rem z) → (∀ z ∈ b1, Rem z) → Q (.ref r) H'
abbrev nBk : List Str := ["_law_script", "_law_seed", "_law_many", "_law_both", "_law_one", "_law_other"]
theorem scBo : FnScope nBk ["_law_script"] (defScope sBooks) := ⟨rfl, rfl, rfl, by decide +kernel, rfl, by decide +kernel, by decide +kernel⟩
theorem bks_b {f0 : Addr} {cdv : Value} {A : Around} {outer : List Env} {s : Shared} {H0 : Hp} {E : XK} {Q : VK} (hr : Room 9 (A.deeper (PyProof.Rows.envOfC "_law_books" (defScope sBooks) s.heap.objs.size f0 cdv))) (Fd : FnP P w K mg base 1 "_law_draw" ["_law_cell", "_law_k", "_law_many"] spDraw) (Fw : FnP P w K mg base 2 "_law_word" ["_law_cell"] spWord) (mr : mg "range" = none) :
    ∃ t, PSs (cxOf CX0 P w K mg base nBk "_law_books" (defScope sBooks) f0 cdv A outer s H0 E).nox ((defBody sBooks).drop 3) t ∧
      ∀ (a : Addr) (seed : Int) (many : Nat) (H : Hp), many ≤ 240 → (∀ r l0 l1 (b0 b1 : List Str) H', (∀ b o, H b = some o → H' b = some o) → H' r = some (.tup [.ref l0, .ref l1]) → H' l0 = some (.lst (b0.map V.str)) → H' l1 = some (.lst (b1.map V.str)) → b0.length ≤ 260 → b1.length ≤ 260 → (∀ z ∈ b0, Rem z) → (∀ z ∈ b1, Rem z) → Q (.ref r) H') →
        t { nx := fun _ H' => Q .non H', rt := Q } [some (.ref a), some (.int seed), some (.int many), none, none, none] H := by
  have nd := scBo.nd
  refine' ⟨_, pss_cons (ps_setComp (iz := 3) (ys := ["_law_seed"]) (js := [1]) ?ok1 (pi_range1 rfl mr (pa_cons (pv 2) pa_nil)) (fun _ _ _ => pts_nil) ?he1 nd rfl (Or.inl rfl) (Or.inl rfl) rfl) <|
    pss_cons (ps_set (i := 4) nd rfl (Or.inl rfl) (pe_op op_cat (pv 3) (pe_comp (ys := ["_law_seed"]) (js := [1]) ?ok2 (pi_range1 rfl mr (pa_cons (pe_callN Fd (hr.mono (by omega)) rfl (pa_cons (pv 1) (pa_cons pe_int (pa_cons pe_int pa_nil)))) pa_nil)) (fun _ _ _ => pts_nil) ?he2))) <|
    pss_cons (ps_set (i := 5) nd rfl (Or.inl rfl) (pe_op op_cat (pv 3) (pe_comp (ys := ["_law_seed"]) (js := [1]) ?ok3 (pi_range1 rfl mr (pa_cons (pe_callN Fd (hr.mono (by omega)) rfl (pa_cons (pv 1) (pa_cons pe_int (pa_cons pe_int pa_nil)))) pa_nil)) (fun _ _ _ => pts_nil) ?he3))) <|
    pss_one (ps_ret (pe_tup (pa_cons (pv 4) (pa_cons (pv 5) pa_nil)))), ?rd⟩
  case ok1 =>
    refine ⟨rfl, rfl, rfl, by decide +kernel, by decide +kernel, rfl, by decide +kernel, same_of (fun p hp => ?_), rfl, fun i y h => ?_, rfl⟩
    · simp only [List.mem_cons, List.not_mem_nil, or_false] at hp
      rcases hp with rfl <;> rfl
    · match i, h with
      | 0, h => simp at h; subst h; exact ⟨1, rfl, rfl, rfl, rfl⟩
      | i + 1, h => simp at h
  case ok2 =>
    refine ⟨rfl, rfl, rfl, by decide +kernel, by decide +kernel, rfl, by decide +kernel, same_of (fun p hp => ?_), rfl, fun i y h => ?_, rfl⟩
    · simp only [List.mem_cons, List.not_mem_nil, or_false] at hp
      rcases hp with rfl <;> rfl
    · match i, h with
      | 0, h => simp at h; subst h; exact ⟨1, rfl, rfl, rfl, rfl⟩
      | i + 1, h => simp at h
  case ok3 =>
    refine ⟨rfl, rfl, rfl, by decide +kernel, by decide +kernel, rfl, by decide +kernel, same_of (fun p hp => ?_), rfl, fun i y h => ?_, rfl⟩
    · simp only [List.mem_cons, List.not_mem_nil, or_false] at hp
      rcases hp with rfl <;> rfl
    · match i, h with
      | 0, h => simp at h; subst h; exact ⟨1, rfl, rfl, rfl, rfl⟩
      | i + 1, h => simp at h
  case he1 =>
    exact fun _ _ _ => pe_op op_add_str pe_str (pe_callN Fw (hr.mono (by omega)) rfl (pa_cons (pe_op op_add (pv 1) (pe_op op_mul pe_int (pe_op op_fdiv (pv 0) pe_int))) pa_nil))
  case he2 =>
    exact fun _ _ _ => pe_op op_add_str pe_str (pe_callN Fw (hr.mono (by omega)) rfl (pa_cons (pe_op op_add (pe_op op_add (pv 1) pe_int) (pe_op op_mul pe_int (pv 0))) pa_nil))
  case he3 =>
    exact fun _ _ _ => pe_op op_add_str pe_str (pe_callN Fw (hr.mono (by omega)) rfl (pa_cons (pe_op op_add (pe_op op_add (pv 1) pe_int) (pe_op op_mul pe_int (pe_op op_fdiv (pv 0) pe_int))) pa_nil))
  case rd =>
  intro a seed many H hm q
  have len1 : ("#" : Str).length = 1 := by decide +kernel
  -- what each row of texts keeps
  have st : ∀ {Hb H1 H2 : Hp} {D : Addr} {ys : List V} {zs us : List Str} {i : Nat}, Hb D = none → (∀ b o, Hb b = some o → H1 b = some o) → H1 D = some (.lst ys) → ys = zs.map V.str → zs.length = i → (∀ z ∈ zs, Rem z) → us.length ≤ 5 → (∀ y ∈ us, Sg y) → (∀ b o, H1 b = some o → H2 b = some o) →
      (∀ b o, Hb b = some o → upd H2 D (.lst (ys ++ [.str ("#" ++ Txt.join "" us)])) b = some o) ∧ upd H2 D (.lst (ys ++ [.str ("#" ++ Txt.join "" us)])) D = some (.lst (ys ++ [.str ("#" ++ Txt.join "" us)])) ∧ ∃ zs' : List Str, ys ++ [.str ("#" ++ Txt.join "" us)] = zs'.map V.str ∧ zs'.length = i + 1 ∧ ∀ z ∈ zs', Rem z := by
    intro Hb H1 H2 D ys zs us i hD k1 hD1 e1 e2 hz hu hg k2
    refine ⟨fun b o e => ?_, upd_same, zs ++ ["#" ++ Txt.join "" us], by rw [e1]; simp, by simp; omega, fun z hz' => ?_⟩
    · rw [upd_ne (ne_of_none e hD)]; exact k2 _ _ (k1 _ _ e)
    · rcases List.mem_append.mp hz' with y | y
      · exact hz z y
      · rw [List.mem_singleton.mp y]; exact rem_of hu hg
  refine ⟨_, rfl, _, rfl, by omega, by omega, ?_⟩
  rw [show ((many : Nat) : Int).toNat = many from rfl]
  refine comp_range (n := many) (fun D i ys H' => (∀ b o, H b = some o → H' b = some o) ∧ H' D = some (.lst ys) ∧ ∃ zs : List Str, ys = zs.map V.str ∧ zs.length = i ∧ ∀ z ∈ zs, Rem z) (fun D hD => ⟨fun b o e => by rw [upd_ne (ne_of_none e hD)]; exact e, upd_same, [], rfl, rfl, by simp⟩) ?_ ?_
  · rintro D i ys H1 Qb hD hi ⟨k1, hD1, zs, e1, e2, hz⟩ hQ
    refine ⟨_, rfl, _, rfl, _, _, rfl, rfl, ⟨by decide, by decide⟩, _, _, rfl, rfl, .inl ⟨by decide, by decide⟩, _, _, rfl, rfl, _, rfl, fun us H2 hu hg k2 => ⟨_, _, rfl, rfl, by rw [len1, len_join hg, sizeLine_eq]; omega, ?_⟩⟩
    exact hQ _ _ (k2 _ _ hD1) (by rw [e1, sizeLine_eq]; simp; omega) (st hD k1 hD1 e1 e2 hz hu hg k2)
  · rintro aO wO H1 hO ⟨k1, hO1, zs, rfl, zl, hz⟩
    refine ⟨_, rfl, _, rfl, seed, 1, 10, rfl, by decide, by decide, fun n2 H2 a2 b2 k2 => ⟨n2, rfl, by omega, by omega, ?_⟩⟩
    have hO2 := k2 _ _ hO1
    refine comp_range (n := n2.toNat) (fun D i ys H' => (∀ b o, H2 b = some o → H' b = some o) ∧ H' D = some (.lst ys) ∧ ∃ zs : List Str, ys = zs.map V.str ∧ zs.length = i ∧ ∀ z ∈ zs, Rem z) (fun D hD => ⟨fun b o e => by rw [upd_ne (ne_of_none e hD)]; exact e, upd_same, [], rfl, rfl, by simp⟩) ?_ ?_
    · rintro D i ys H3 Qb hD hi ⟨k3, hD3, zs3, e1, e2, hz3⟩ hQ
      refine ⟨_, rfl, _, _, rfl, rfl, _, rfl, _, _, rfl, rfl, .inl ⟨by decide, by decide⟩, _, _, rfl, rfl, _, rfl, fun us H4 hu hg k4 => ⟨_, _, rfl, rfl, by rw [len1, len_join hg, sizeLine_eq]; omega, ?_⟩⟩
      exact hQ _ _ (k4 _ _ hD3) (by rw [e1, sizeLine_eq]; simp; omega) (st hD k3 hD3 e1 e2 hz3 hu hg k4)
    · rintro D3 ys3 H3 hD3' ⟨k3, hD3, zs3, rfl, zl3, hz3⟩
      refine ⟨aO, D3, _, _, rfl, rfl, k3 _ _ hO2, hD3, by rw [sizeLine_eq]; simp; omega, fun l0 nl0 => ?_⟩
      have e0 : zs.map V.str ++ zs3.map V.str = (zs ++ zs3).map V.str := by rw [List.map_append]
      rw [e0]
      have k4 : ∀ b o, H3 b = some o → upd H3 l0 (.lst ((zs ++ zs3).map V.str)) b = some o := fun b o e => by rw [upd_ne (ne_of_none e nl0)]; exact e
      have l0h : upd H3 l0 (.lst ((zs ++ zs3).map V.str)) l0 = some (.lst ((zs ++ zs3).map V.str)) := upd_same
      generalize upd H3 l0 (.lst ((zs ++ zs3).map V.str)) = H4 at k4 l0h ⊢
      refine ⟨_, rfl, _, rfl, seed, 2, 10, rfl, by decide, by decide, fun n5 H5 a5 b5 k5 => ⟨n5, rfl, by omega, by omega, ?_⟩⟩
      refine comp_range (n := n5.toNat) (fun D i ys H' => (∀ b o, H5 b = some o → H' b = some o) ∧ H' D = some (.lst ys) ∧ ∃ zs : List Str, ys = zs.map V.str ∧ zs.length = i ∧ ∀ z ∈ zs, Rem z) (fun D hD => ⟨fun b o e => by rw [upd_ne (ne_of_none e hD)]; exact e, upd_same, [], rfl, rfl, by simp⟩) ?_ ?_
      · rintro D i ys H6 Qb hD hi ⟨k6, hD6, zs6, e1, e2, hz6⟩ hQ
        refine ⟨_, rfl, _, _, rfl, rfl, _, rfl, _, _, rfl, rfl, ⟨by decide, by decide⟩, _, _, rfl, rfl, .inl ⟨by decide, by decide⟩, _, _, rfl, rfl, _, rfl, fun us H7 hu hg k7 => ⟨_, _, rfl, rfl, by rw [len1, len_join hg, sizeLine_eq]; omega, ?_⟩⟩
        exact hQ _ _ (k7 _ _ hD6) (by rw [e1, sizeLine_eq]; simp; omega) (st hD k6 hD6 e1 e2 hz6 hu hg k7)
      · rintro D6 ys6 H6 hD6' ⟨k6, hD6, zs6, rfl, zl6, hz6⟩
        refine ⟨aO, D6, _, _, rfl, rfl, k6 _ _ (k5 _ _ (k4 _ _ (k3 _ _ hO2))), hD6, by rw [sizeLine_eq]; simp; omega, fun l1 nl1 => ?_⟩
        have e1 : zs.map V.str ++ zs6.map V.str = (zs ++ zs6).map V.str := by rw [List.map_append]
        rw [e1]
        refine ⟨_, rfl, _, rfl, by show 2 ≤ sizeLine; decide, fun r nr => ?_⟩
        have k7 : ∀ b o, H6 b = some o → upd (upd H6 l1 (.lst ((zs ++ zs6).map V.str))) r (.tup [.ref l0, .ref l1]) b = some o := fun b o e => by
          have e' : upd H6 l1 (.lst ((zs ++ zs6).map V.str)) b = some o := by rw [upd_ne (ne_of_none e nl1)]; exact e
          rw [upd_ne (ne_of_none e' nr)]; exact e'
        refine q r l0 l1 (zs ++ zs3) (zs ++ zs6) _ (fun b o e => k7 _ _ (k6 _ _ (k5 _ _ (k4 _ _ (k3 _ _ (k2 _ _ (k1 _ _ e))))))) upd_same (k7 _ _ (k6 _ _ (k5 _ _ l0h))) ?_ (by simp; omega) (by simp; omega) (fun z hz' => ?_) (fun z hz' => ?_)
        · rw [upd_ne (ne_of_none upd_same nr), upd_same]
        · rcases List.mem_append.mp hz' with y | y
          · exact hz z y
          · exact hz3 z y
        · rcases List.mem_append.mp hz' with y | y
          · exact hz z y
          · exact hz6 z y
theorem ok_books (F : FunAt K mg "_law_books" sBooks) (Fc : FnP P w K mg base 1 "_law_cell_at" ["_law_script", "_law_k"] (spCell K)) (Fd : FnP P w K mg base 1 "_law_draw" ["_law_cell", "_law_k", "_law_many"] spDraw) (Fw : FnP P w K mg base 2 "_law_word" ["_law_cell"] spWord) (mr : mg "range" = none) : FnP P w K mg base 10 "_law_books" ["_law_script"] (spBooks K) := by
  refine F.ok scBo (fun _ _ _ _ _ _ us hl => match us, hl with | [_], _ => rfl) (fun vs H Q E h => ?_) (fun f0 cdv A outer s H vs Q E hr h => ?_)
  · obtain ⟨a, ns, rfl, _⟩ := h; rfl
  obtain ⟨a, ns, rfl, hq, q⟩ := h
  have nd := scBo.nd
  obtain ⟨tr, htr, hrest⟩ := bks_b (P := P) (w := w) (K := K) (mg := mg) (base := base) (outer := outer) (H0 := H) (E := E) (Q := Q) hr Fd Fw mr
  refine ⟨_, pss_cons (ps_set (i := 1) nd rfl (Or.inr rfl) (pe_callN Fc (hr.mono (by omega)) rfl (pa_cons (pv 0) (pa_cons pe_int pa_nil)))) <|
    pss_cons (ps_set (i := 2) nd rfl (Or.inl rfl) (pe_op op_mod (pe_callN Fc (hr.mono (by omega)) rfl (pa_cons (pv 0) (pa_cons pe_int pa_nil))) pe_int)) <|
    pss_cons (ps_if (pt_cmpR op_eq (pe_op op_mod (pe_op op_fdiv (pe_callN Fc (hr.mono (by omega)) rfl (pa_cons (pv 0) (pa_cons pe_int pa_nil))) pe_int) pe_int) pe_int (nomark _)) (pss_one (ps_set (i := 2) nd rfl (Or.inl rfl) (pe_op op_add (pv 2) (pe_ix ix_tup (pe_tup (pa_cons pe_int (pa_cons pe_int (pa_cons pe_int (pa_cons pe_int pa_nil))))) (pe_callN Fd (hr.mono (by omega)) rfl (pa_cons (pv 1) (pa_cons pe_int (pa_cons pe_int pa_nil)))) (fun _ _ => rfl))))) pss_nil) <|
    htr, ?_⟩
  refine ⟨_, rfl, a, ns, 1, rfl, hq.sq, by omega, fun seed => ?_⟩
  refine ⟨_, rfl, a, ns, 0, rfl, hq.sq, by omega, fun v0 => ⟨_, _, rfl, rfl, (by show (0 : Int) < 10; decide), ?_⟩⟩
  obtain ⟨m, em, m9⟩ : ∃ m : Nat, v0 % 10 = (m : Int) ∧ m ≤ 9 := ⟨(v0 % 10).toNat, by omega, by omega⟩
  dsimp only
  rw [em]
  refine ⟨_, rfl, a, ns, 0, rfl, hq.sq, by omega, fun v1 => ⟨_, _, rfl, rfl, ⟨by decide, by decide⟩, _, _, rfl, rfl, (by show (0 : Int) < 5; decide), rfl, _, rfl, ?_⟩⟩
  refine ite2 (fun _ => ?_) (fun _ => hrest a seed m H (by omega) q)
  refine ⟨_, rfl, by show 4 ≤ sizeLine; decide, fun p hp => ⟨_, rfl, seed, 3, 4, rfl, by decide, by decide, fun v2 H2 a2 b2 k2 => ?_⟩⟩
  have k1 : ∀ b o, H b = some o → H2 b = some o := fun b o e => k2 _ _ (by rw [upd_ne (ne_of_none e hp)]; exact e)
  have hp2 := k2 _ _ (upd_same (a := p))
  obtain ⟨x, ex, x230⟩ : ∃ x : Nat, atI [V.int 40, .int 40, .int 40, .int 230] v2 = some (.int x) ∧ x ≤ 230 := by
    have h4 : v2 = 0 ∨ v2 = 1 ∨ v2 = 2 ∨ v2 = 3 := by omega
    rcases h4 with rfl | rfl | rfl | rfl
    · exact ⟨40, atI_nat (j := 0) rfl, by omega⟩
    · exact ⟨40, atI_nat (j := 1) rfl, by omega⟩
    · exact ⟨40, atI_nat (j := 2) rfl, by omega⟩
    · exact ⟨230, atI_nat (j := 3) rfl, by omega⟩
  refine ⟨p, _, _, _, rfl, rfl, .inl (.inl hp2), ex, _, _, rfl, rfl, ?_⟩
  have z := hrest a seed (m + x) H2 (by omega) fun r l0 l1 b0 b1 H' k => q r l0 l1 b0 b1 H' fun b o e => k _ _ (k1 _ _ e)
  rw [show (((m + x : Nat)) : Int) = (m : Int) + (x : Int) by omega] at z
  exact z
end
end My
namespace My
open PySem L2
def spLaw (K : PySem.W.Frag) (mg : Str → Option Value) (Pt : Addr) : Sp := fun vs H Q _ => ∃ (a : Addr) (ns : List Int), vs = [.ref a] ∧ SqF K H a (ns.map V.int) ∧ ns.length ≤ 63 ∧ H Pt = some (.tbl #[]) ∧ ∀ H', Q (.bl true) H'
theorem pe_makeD {X : Cx} {C : Addr} {k : Nat} {ps : List Str} {sp : Sp} {d : V} {x : Str} {p pos : Pos} {e : Expr} {es : List Expr} {t : TA} (M : ∃ fI, Mk X.K C fI) (F : MtD X.prog X.w X.K X.mg X.base C k "__init__" ps sp d) (hr : Room (k + 1) X.A) (hg : Gl X x) (hm : X.mg x = some (.ref C)) (ha : PA X (e :: es) t)
    (hdb : (x == ("__debug__" : Str)) = false := by decide) (he : PySem.starEach (e :: es) X.env = (false, PySem.eval e X.env) :: PySem.starEach es X.env := by rfl) (hpl : (PySem.backTo pos (PySem.starEach es X.env)).any (·.1) = false := by rfl) : PE X (.Call (.Name x p) (e :: es) [] pos) (tMake C sp [d] E0 t) := by
  obtain ⟨fI, M⟩ := M
  obtain ⟨f', fd, dv, hm', hb, hb2, r, G⟩ := F
  have q := M.init.symm.trans hm'.at_
  cases q
  exact pe_make M G hr hg hm hb2 (.cons r .nil) pass0 ha hdb he hpl
theorem KeepL.own {S : Sl} {n : Nat} {l : List Addr} {H H' : Hp} {p : Addr} {o : HO} (g : KeepL S n l H H') (h : H p = none) : KeepL S n l H (upd H' p o) :=
  ⟨⟨fun b u q i => by rw [upd_ne (ne_of_none q h)]; exact g.gn.keep b u q i, fun d e => by
    obtain ⟨kvs, more, h1, h2, h3, h4⟩ := g.gn.told d e
    exact ⟨kvs, more, h1, by rw [upd_ne (ne_of_none h1 h)]; exact h2, h3, h4⟩⟩, fun b u q hn hd => by rw [upd_ne (ne_of_none q h)]; exact g.all b u q hn hd⟩
theorem KeepL.notd {S : Sl} {n : Nat} {l : List Addr} {H H' : Hp} {b : Addr} {o : HO} (g : KeepL S n l H H') (h : H b = some o) (hd : ∀ kvs, o ≠ .dT kvs) : S.d ≠ some b := fun e => by
  obtain ⟨kvs, more, h1, _, _, _⟩ := g.gn.told b e
  rw [h] at h1; exact hd _ (Option.some.inj h1)
theorem Gr.byL {S : Sl} {n m : Nat} {l : List Addr} {H0 H H' : Hp} (g : Gr S n H0 H) (k : KeepL S m l H H') (hl : ∀ p ∈ l, H0 p = none) : Gr S (n + m) H0 H' :=
  ⟨g.gn.trans k.gn, fun b o h d => k.all b o (g.all b o h d) (fun hb => by rw [hl b hb] at h; cases h) d⟩
def FoL (cF : Addr) (l : List Addr) (H : Hp) : Prop := ∀ p ∈ l, ∃ dx f n v, H p = some (.ins cF dx (flF f n v))
section
variable {P : Program} {w : World} {K : PySem.W.Frag} {mg : Str → Option Value} {base : Heap} {C cT cF cS cC cG : Addr}
theorem KeepL.oth {S : Sl} {n : Nat} {l : List Addr} {H H' : Hp} {b : Addr} {o : HO} (g : KeepL S n l H H') (hl : FoL cF l H) (h : H b = some o) (hi : ∀ Cp dx fs, o ≠ .ins Cp dx fs) (hd : ∀ kvs, o ≠ .dT kvs) : H' b = some o :=
  g.all b o h (fun hb => by
    obtain ⟨dx, f, n, v, e⟩ := hl b hb
    rw [h] at e; exact hi _ _ _ (Option.some.inj e)) (g.notd h hd)
theorem KeepL.ins {S : Sl} {n : Nat} {l : List Addr} {H H' : Hp} {b Cp dx : Addr} {fs : List (Str × V)} (g : KeepL S n l H H') (hl : FoL cF l H) (h : H b = some (.ins Cp dx fs)) (hne : ∀ f n v, fs ≠ flF f n v) : H' b = some (.ins Cp dx fs) :=
  g.all b _ h (fun hb => by
    obtain ⟨dx', f, n, v, e⟩ := hl b hb
    rw [h] at e; injection e with e; injection e with _ _ e
    exact hne f n v e) (g.notd h (fun _ e => nomatch e))
theorem flK_ne {f aT aL aB g : Addr} {n : Int} {v : V} : flK f aT aL aB ≠ flF g n v := fun e => by
  have := congrArg List.length e
  simp [flK, flF] at this
theorem fl_ne {f d g : Addr} {D : Nat} {n : Int} {v : V} : fl f D d ≠ flF g n v := fun e => by
  unfold fl flF at e
  injection e with _ e
  injection e with e _
  injection e with e _
  exact absurd e (by decide +kernel)
theorem KpAt.upL {S : Sl} {H H' : Hp} {x f aT aL aB : Addr} {texts : List Str} {n : Nat} {l : List Addr} (h : KpAt C cT S H x f aT aL aB texts) (g : KeepL S n l H H') (hl : FoL cF l H) : KpAt C cT S H' x f aT aL aB texts := by
  obtain ⟨⟨dx, h1⟩, h2, ⟨wL, h3, h4⟩, ⟨ws, t, d, h5, h6, ⟨dt, h7⟩, h8⟩, n1, n2, n3⟩ := h
  exact ⟨⟨dx, g.ins hl h1 fun _ _ _ => flK_ne⟩, g.oth hl h2 (fun _ _ _ e => nomatch e) (fun _ e => nomatch e), ⟨wL, g.oth hl h3 (fun _ _ _ e => nomatch e) (fun _ e => nomatch e), isTs_up g.gn h4⟩,
    ⟨ws, t, d, g.oth hl h5 (fun _ _ _ e => nomatch e) (fun _ e => nomatch e), h6, ⟨dt, g.ins hl h7 fun _ _ _ => fl_ne⟩, g.oth hl h8 (fun _ _ _ e => nomatch e) (fun _ e => nomatch e)⟩, n1, n2, n3⟩
theorem W13.upL {S : Sl} {f x0 x1 aK aB l0 l1 : Addr} {b0 b1 : List Str} {n m b : Nat} {l : List Addr} {H H' : Hp} (h : W13 K mg C cT S f x0 x1 aK aB l0 l1 b0 b1 n H) (g : KeepL S m l H H') (hl : FoL cF l H) (hn : m + b ≤ n) : W13 K mg C cT S f x0 x1 aK aB l0 l1 b0 b1 b H' := by
  obtain ⟨a1, a2, a3, k0⟩ := h.k0
  obtain ⟨c1, c2, c3, k1⟩ := h.k1
  exact ⟨h.sl.up g.gn, h.cap.go g.gn hn, g.oth hl h.kl (fun _ _ _ e => nomatch e) (fun _ e => nomatch e), ⟨a1, a2, a3, k0.upL g hl⟩, ⟨c1, c2, c3, k1.upL g hl⟩, g.gn.keep _ _ h.bt rfl, g.oth hl h.t0 (fun _ _ _ e => nomatch e) (fun _ e => nomatch e), g.oth hl h.t1 (fun _ _ _ e => nomatch e) (fun _ e => nomatch e), h.n0, h.n1⟩
theorem KpAt.upN {S : Sl} {H H' : Hp} {x f aT aL aB : Addr} {texts : List Str} {n : Nat} {l : List Addr} (h : KpAt C cT S H x f aT aL aB texts) (g : KeepL S n l H H') (hl : ∀ p ∈ l, ∃ xs, H p = some (.lst xs)) (hT : aT ∉ l) (hL : aL ∉ l) (hB : aB ∉ l) : KpAt C cT S H' x f aT aL aB texts := by
  obtain ⟨⟨dx, h1⟩, h2, ⟨wL, h3, h4⟩, ⟨ws, t, d, h5, h6, ⟨dt, h7⟩, h8⟩, n1, n2, n3⟩ := h
  have no : ∀ {b : Addr} {o : HO}, H b = some o → (∀ xs, o ≠ .lst xs) → b ∉ l := fun hb hn hm => by
    obtain ⟨xs, e⟩ := hl _ hm
    rw [hb] at e; exact hn _ (Option.some.inj e)
  exact ⟨⟨dx, g.all _ _ h1 (no h1 (fun _ e => nomatch e)) (g.notd h1 (fun _ e => nomatch e))⟩, g.all _ _ h2 hT (g.notd h2 (fun _ e => nomatch e)), ⟨wL, g.all _ _ h3 hL (g.notd h3 (fun _ e => nomatch e)), isTs_up g.gn h4⟩,
    ⟨ws, t, d, g.all _ _ h5 hB (g.notd h5 (fun _ e => nomatch e)), h6, ⟨dt, g.all _ _ h7 (no h7 (fun _ e => nomatch e)) (g.notd h7 (fun _ e => nomatch e))⟩, g.all _ _ h8 (no h8 (fun _ e => nomatch e)) (g.notd h8 (fun _ e => nomatch e))⟩, n1, n2, n3⟩
structure L13 (cF : Addr) (S : Sl) (f aT : Addr) (y : Bool → Addr) (HB : Hp) (n : Nat) (t : Bool → Addr) (z : Bool → List Str) (v : Bool → V) (H : Hp) : Prop where
  kp : KeepL S n [y false, y true] HB H
  tk : H aT = some (.lst [.ref (t false), .ref (t true)])
  ne : ∀ b, t b ≠ aT
  tl : ∀ b, H (t b) = some (.lst ((z b).map V.str))
  zl : ∀ b, (z b).length ≤ 260
  fo : ∀ b, FoAt cF H (y b) f ((z b).length : Int) (v b)
  hd : ∀ b, isT S H (hdE (z b)) (v b)
theorem L13.go {S : Sl} {f aT : Addr} {y : Bool → Addr} {HB : Hp} {n m b : Nat} {t : Bool → Addr} {z : Bool → List Str} {v : Bool → V} {H H' : Hp} (h : L13 cF S f aT y HB n t z v H) (g : Gr S m H H') (hn : n + m ≤ b) : L13 cF S f aT y HB b t z v H' :=
  ⟨(h.kp.trans (.of g)).up hn, g.lst h.tk, h.ne, fun b => g.lst (h.tl b), h.zl, fun b => (h.fo b).up g, fun b => isT_up g.gn (h.hd b)⟩
abbrev nL : List Str := ["_law_script", "_law_seal", "_law_books_here", "_law_keepers", "_law_k", "_law_text", "_law_followers", "_law_tooks", "_law_at", "_law_cell", "_law_one"]
theorem scL : FnScope nL ["_law_script"] (defScope sLaw) := ⟨rfl, rfl, rfl, by decide +kernel, rfl, by decide +kernel, by decide +kernel⟩
theorem at_bool {p q : Addr} {i : Bool} {one : Int} (h : one = if i then 1 else 0) : atI [V.ref p, .ref q] one = some (.ref (if i then q else p)) := by
  subst h
  cases i
  · exact atI_nat (j := 0) rfl
  · exact atI_nat (j := 1) rfl
theorem bool_fam {y : Bool → Addr} (i : Bool) : (if i then y true else y false) = y i := by cases i <;> rfl
theorem law_c {f0 : Addr} {cdv : Value} {A : Around} {outer : List Env} {s : Shared} {H0 : Hp} {E : XK} {Q : VK} (hr : Room 99 (A.deeper (PyProof.Rows.envOfC "law" (defScope sLaw) s.heap.objs.size f0 cdv)))
    (Fd : FnP P w K mg base 1 "_law_draw" ["_law_cell", "_law_k", "_law_many"] spDraw) (Fo : FnP P w K mg base 60 "_law_offered" ["_law_seal", "_law_follower", "_law_took", "_law_books_here", "_law_keepers", "_law_cell"] (spOff K mg C cT cF)) (Fj : FnP P w K mg base 60 "_law_judged" ["_law_seal", "_law_follower", "_law_took", "_law_books_here", "_law_keepers", "_law_cell"] (spJud K mg C cT cF)) (Fk : FnP P w K mg base 30 "_law_kept" ["_law_seal", "_law_follower", "_law_took"] (spKept K mg cF))
    (ml : mg "len" = none) (mr : mg "range" = none) (mm : mg "min" = none) (q : ∀ H', Q (.bl true) H') :
    ∃ t, PSs (cxOf CX0 P w K mg base nL "law" (defScope sLaw) f0 cdv A outer s H0 E).nox ((defBody sLaw).drop 6) t ∧
      ∀ (S : Sl) (a f x0 x1 aK aB l0 l1 aF aT : Addr) (b0 b1 : List Str) (y t0 : Bool → Addr) (z0 : Bool → List Str) (v0 : Bool → V) (ns : List Int) (HB H : Hp) (o4 o5 : Option V), W13 K mg C cT S f x0 x1 aK aB l0 l1 b0 b1 9000000 HB → SqF K HB a (ns.map V.int) → ns.length ≤ 63 → HB aF = some (.lst [.ref (y false), .ref (y true)]) → HB aT = none → y false ≠ y true → FoL cF [y false, y true] HB → L13 cF S f aT y HB 0 t0 z0 v0 H →
        t { nx := fun _ H' => Q .non H', rt := Q } [some (.ref a), some (.ref f), some (.ref aB), some (.ref aK), o4, o5, some (.ref aF), some (.ref aT), none, none, none] H := by
  have nd := scL.nd
  refine ⟨_, pss_cons (ps_for PassesOwn.never rfl (pi_range1 rfl mr (pa_cons (pe_ifExp (pt_cmpR op_gt (pe_callB call_len_seq rfl ml PySem.boot_len (pa_cons (pe_ix ix_tup (pv 2) pe_int (fun _ _ => rfl)) pa_nil)) pe_int (nomark _)) (pe_callB (call_min2 rfl) rfl mm PyProof.Rows.boot_min (pa_cons (pe_callB call_len_seq rfl ml PySem.boot_len (pa_cons (pv 0) pa_nil)) (pa_cons pe_int pa_nil))) (pe_callB call_len_seq rfl ml PySem.boot_len (pa_cons (pv 0) pa_nil))) pa_nil)) (pg_name (i := 8) nd rfl (Or.inl rfl)) <|
      pss_cons (ps_set (i := 9) nd rfl (Or.inl rfl) (pe_op op_add (pe_ix ix_list (pv 0) (pv 8) (fun _ _ => rfl)) (pe_op op_mul pe_int (pv 8)))) <|
      pss_cons (ps_set (i := 10) nd rfl (Or.inl rfl) (pe_callN Fd (hr.mono (by omega)) rfl (pa_cons (pv 9) (pa_cons pe_int (pa_cons pe_int pa_nil))))) <|
      pss_cons (ps_if (pt_cmpR op_eq (pe_callN Fd (hr.mono (by omega)) rfl (pa_cons (pv 9) (pa_cons pe_int (pa_cons pe_int pa_nil)))) pe_int (nomark _))
        (pss_one (ps_if (pt_not (pt_val (pe_callN Fj (hr.mono (by omega)) rfl (pa_cons (pv 1) (pa_cons (pe_ix ix_list (pv 6) (pv 10) (fun _ _ => rfl)) (pa_cons (pe_ix ix_list (pv 7) (pv 10) (fun _ _ => rfl)) (pa_cons (pv 2) (pa_cons (pv 3) (pa_cons (pv 9) pa_nil))))))))) (pss_one (ps_ret pe_bl)) pss_nil))
        (pss_cons (ps_asg (pe_callN Fo (hr.mono (by omega)) rfl (pa_cons (pv 1) (pa_cons (pe_ix ix_list (pv 6) (pv 10) (fun _ _ => rfl)) (pa_cons (pe_ix ix_list (pv 7) (pv 10) (fun _ _ => rfl)) (pa_cons (pv 2) (pa_cons (pv 3) (pa_cons (pv 9) pa_nil))))))) (pg_sub (pv 7) (pv 10) set_list)) <|
          pss_one (ps_if (pt_cmpR op_isN (pe_ix ix_list (pv 7) (pv 10) (fun _ _ => rfl)) pe_non (nomark _)) (pss_one (ps_ret pe_bl)) pss_nil))) <|
      pss_one (ps_if (PW.pt (pw_or (pt_not (pt_val (pe_callN Fk (hr.mono (by omega)) rfl (pa_cons (pv 1) (pa_cons (pe_ix ix_list (pv 6) pe_int (fun _ _ => rfl)) (pa_cons (pe_ix ix_list (pv 7) pe_int (fun _ _ => rfl)) pa_nil)))))) (pw_or1 (pt_not (pt_val (pe_callN Fk (hr.mono (by omega)) rfl (pa_cons (pv 1) (pa_cons (pe_ix ix_list (pv 6) pe_int (fun _ _ => rfl)) (pa_cons (pe_ix ix_list (pv 7) pe_int (fun _ _ => rfl)) pa_nil))))))))) (pss_one (ps_ret pe_bl)) pss_nil)) <|
    pss_one (ps_ret pe_bl), ?_⟩
  intro S a f x0 x1 aK aB l0 l1 aF aT b0 b1 y t0 z0 v0 ns HB H o4 o5 hW hq h63 hF hTn hyn hFo hL
  have yne : ∀ i b : Bool, b ≠ i → y b ≠ y i := fun i b hb => by
    cases i <;> cases b
    · exact absurd rfl hb
    · exact hyn.symm
    · exact hyn
    · exact absurd rfl hb
  have ymem : ∀ i : Bool, y i ∈ [y false, y true] := fun i => by cases i <;> simp
  -- what stands at each turn
  have stands : ∀ {n : Nat} {t : Bool → Addr} {z : Bool → List Str} {v : Bool → V} {H : Hp}, L13 cF S f aT y HB n t z v H → n ≤ 8000000 → W13 K mg C cT S f x0 x1 aK aB l0 l1 b0 b1 1000000 H ∧ SqF K H a (ns.map V.int) ∧ H aF = some (.lst [.ref (y false), .ref (y true)]) := fun h hn =>
    ⟨hW.upL h.kp hFo (by omega), hq.up h.kp.gn, h.kp.oth hFo hF (fun _ _ _ e => nomatch e) (fun _ e => nomatch e)⟩
  obtain ⟨W0, q0, _⟩ := stands hL (by omega)
  refine joinIf (fun u H' => ∃ n : Nat, u = .int n ∧ n ≤ ns.length ∧ H' = H) (fun Q' hQ => ?_) ?_
  · refine ⟨_, rfl, aB, _, _, _, rfl, rfl, .inl (.inl W0.bt), atI_nat (j := 0) rfl, l0, _, rfl, .inl (SqL.of W0.t0), _, _, rfl, rfl, _, rfl, ?_⟩
    refine ite2 (fun _ => ?_) (fun _ => ?_)
    · refine ⟨_, rfl, a, _, rfl, .inl q0.sq, _, _, rfl, ?_⟩
      rw [List.length_map]
      exact hQ _ _ ⟨min 9 ns.length, by rw [show (if (9 : Int) < (ns.length : Int) then (9 : Int) else (ns.length : Int)) = ((min 9 ns.length : Nat) : Int) by split <;> omega], by omega, rfl⟩
    · refine ⟨_, rfl, a, _, rfl, .inl q0.sq, ?_⟩
      rw [List.length_map]
      exact hQ _ _ ⟨ns.length, rfl, Nat.le_refl _, rfl⟩
  rintro _ _ ⟨n, rfl, hn, rfl⟩
  refine ⟨_, rfl, by omega, by omega, ?_⟩
  rw [show ((n : Nat) : Int).toNat = n from rfl]
  refine for_range (n := n) (fun i σ H' => (∃ t z v, L13 cF S f aT y HB (i * 5000) t z v H') ∧ ∃ o8 o9 o10, σ = [some (.ref a), some (.ref f), some (.ref aB), some (.ref aK), o4, o5, some (.ref aF), some (.ref aT), o8, o9, o10]) ⟨⟨t0, z0, v0, by simpa using hL⟩, none, none, none, rfl⟩ ?_ (fun σ H' _ => q H')
  rintro i σ H1 hi ⟨⟨t, z, v, h1⟩, o8, o9, o10, rfl⟩
  have e0 : (0 : Int) + (i : Int) = (i : Int) := by omega
  have hin : i < ns.length := by omega
  have eat : atI (ns.map V.int) ((i : Nat) : Int) = some (.int ns[i]) := atI_nat (by rw [List.getElem?_map, List.getElem?_eq_getElem hin]; rfl)
  obtain ⟨W1, q1, F1⟩ := stands h1 (by omega)
  refine ⟨_, rfl, _, rfl, a, _, _, _, rfl, rfl, q1.sq, by rw [e0]; exact eat, _, rfl, _, _, rfl, rfl, .inl ⟨by decide, by decide⟩, _, _, rfl, rfl, ?_⟩
  dsimp only [gName]
  generalize ns[i] + 977 * (0 + (i : Int)) = cell
  refine ⟨_, rfl, cell, 9, 2, rfl, by decide, by decide, fun one H2 a2 b2 x2 => ?_⟩
  have h2 := h1.go (b := i * 5000) (.ext h1.kp.gn.told2 x2) (by omega)
  obtain ⟨j, hj⟩ : ∃ j : Bool, one = if j then 1 else 0 := by
    have h01 : one = 0 ∨ one = 1 := by omega
    rcases h01 with rfl | rfl
    · exact ⟨false, rfl⟩
    · exact ⟨true, rfl⟩
  have atF : atI [V.ref (y false), .ref (y true)] one = some (.ref (y j)) := by rw [at_bool hj, bool_fam]
  have atT : ∀ t : Bool → Addr, atI [V.ref (t false), .ref (t true)] one = some (.ref (t j)) := fun t => by rw [at_bool hj, bool_fam]
  dsimp only [gName]
  refine joinS (fun σ' H' => (∃ t z v, L13 cF S f aT y HB (i * 5000 + 2500) t z v H') ∧ ∃ o8 o9 o10, σ' = [some (.ref a), some (.ref f), some (.ref aB), some (.ref aK), o4, o5, some (.ref aF), some (.ref aT), o8, o9, o10]) (fun D' hD' => ?_) ?_
  · refine ⟨_, rfl, cell, 10, 4, rfl, by decide, by decide, fun v3 H3 _ _ x3 => ⟨rfl, _, rfl, ?_⟩⟩
    have h3 := h2.go (b := i * 5000) (.ext h2.kp.gn.told2 x3) (by omega)
    obtain ⟨W3, q3, F3⟩ := stands h3 (by omega)
    refine ite2 (fun _ => ?_) (fun _ => ?_)
    · refine ⟨_, rfl, _, rfl, _, rfl, aF, _, _, _, rfl, rfl, SqL.of F3, atF, _, rfl, _, rfl, aT, _, _, _, rfl, rfl, SqL.of h3.tk, atT t, _, rfl, _, rfl, _, rfl, ?_⟩
      refine ⟨S, f, y j, t j, aB, aK, x0, x1, l0, l1, b0, b1, z j, v j, cell, rfl, W3.go (b := 2500) (.refl W3.sl.told) (by omega), h3.fo j, h3.hd j, h3.tl j, h3.zl j, fun H4 g4 => ⟨_, rfl, iteF ?_⟩⟩
      exact hD' _ _ ⟨⟨t, z, v, h3.go g4 (by omega)⟩, _, _, _, rfl⟩
    · refine ⟨_, rfl, _, rfl, _, rfl, aF, _, _, _, rfl, rfl, SqL.of F3, atF, _, rfl, _, rfl, aT, _, _, _, rfl, rfl, SqL.of h3.tk, atT t, _, rfl, _, rfl, _, rfl, ?_⟩
      refine ⟨S, f, y j, t j, aB, aK, x0, x1, l0, l1, b0, b1, z j, v j, cell, rfl, W3.go (b := 2500) (.refl W3.sl.told) (by omega), h3.fo j, h3.hd j, h3.tl j, h3.zl j, fun r took' v' H4 k4 er tl4 fo4 iv4 hr4 => ?_⟩
      obtain ⟨dxj, hxj⟩ := h3.fo j
      have tk4 := k4.same hxj h3.tk (fun _ _ _ e => nomatch e) (fun _ e => nomatch e)
      have rne : r ≠ aT := by
        rcases hr4 with rfl | hr4
        · exact h3.ne j
        · rintro rfl; rw [h3.tk] at hr4; cases hr4
      have yT : ∀ b, y b ≠ aT := fun b e => by
        obtain ⟨dx, hx⟩ := h3.fo b
        rw [e, h3.tk] at hx; cases hx
      refine ⟨_, rfl, _, rfl, aT, _, one, (if j then 1 else 0), rfl, rfl, tk4, ?_, ?_⟩
      · subst hj; cases j <;> rfl
      have es : ([V.ref (t false), .ref (t true)] : List V).set (if j then 1 else 0) (.ref r) = [.ref (if false = j then r else t false), .ref (if true = j then r else t true)] := by cases j <;> rfl
      rw [es]
      have gT : Gn S 0 H4 (upd H4 aT (.lst [.ref (if false = j then r else t false), .ref (if true = j then r else t true)])) := Gn.chg k4.gn.told2 tk4 rfl (fun _ e => nomatch e)
      have h5 : L13 cF S f aT y HB (i * 5000 + 2500) (fun b => if b = j then r else t b) (fun b => if b = j then took' else z b) (fun b => if b = j then v' else v b) (upd H4 aT (.lst [.ref (if false = j then r else t false), .ref (if true = j then r else t true)])) := by
        refine ⟨((h3.kp.trans ⟨k4.gn, fun b o h hn d => k4.all b o h (fun e => hn (by rw [e]; exact ymem j)) d⟩).up (by omega)).own hTn, upd_same, fun b => ?_, fun b => ?_, fun b => ?_, fun b => ?_, fun b => ?_⟩
        · by_cases hb : b = j
          · show (if b = j then r else t b) ≠ aT
            rw [if_pos hb]; exact rne
          · show (if b = j then r else t b) ≠ aT
            rw [if_neg hb]; exact h3.ne b
        · by_cases hb : b = j
          · show upd H4 aT _ (if b = j then r else t b) = some (.lst ((if b = j then took' else z b).map V.str))
            rw [if_pos hb, if_pos hb, upd_ne rne]; exact er
          · show upd H4 aT _ (if b = j then r else t b) = some (.lst ((if b = j then took' else z b).map V.str))
            rw [if_neg hb, if_neg hb, upd_ne (h3.ne b)]; exact k4.same hxj (h3.tl b) (fun _ _ _ e => nomatch e) (fun _ e => nomatch e)
        · by_cases hb : b = j
          · show (if b = j then took' else z b).length ≤ 260
            rw [if_pos hb]; exact tl4
          · show (if b = j then took' else z b).length ≤ 260
            rw [if_neg hb]; exact h3.zl b
        · by_cases hb : b = j
          · show FoAt cF _ (y b) f ((if b = j then took' else z b).length : Int) (if b = j then v' else v b)
            rw [if_pos hb, if_pos hb]
            obtain ⟨dx, hx⟩ := fo4
            exact ⟨dx, by rw [upd_ne (yT b), hb]; exact hx⟩
          · show FoAt cF _ (y b) f ((if b = j then took' else z b).length : Int) (if b = j then v' else v b)
            rw [if_neg hb, if_neg hb]
            obtain ⟨dx, hx⟩ := h3.fo b
            have nd : S.d ≠ some (y b) := fun e => by
              obtain ⟨kvs, more, z1, _, _, _⟩ := k4.gn.told _ e
              rw [hx] at z1; cases z1
            exact ⟨dx, by rw [upd_ne (yT b)]; exact k4.all _ _ hx (yne j b hb) nd⟩
        · by_cases hb : b = j
          · show isT S _ (hdE (if b = j then took' else z b)) (if b = j then v' else v b)
            rw [if_pos hb, if_pos hb]; exact isT_up gT iv4
          · show isT S _ (hdE (if b = j then took' else z b)) (if b = j then v' else v b)
            rw [if_neg hb, if_neg hb]; exact isT_up gT (isT_up k4.gn (h3.hd b))
      refine ⟨_, rfl, _, rfl, aT, _, _, _, rfl, rfl, SqL.of upd_same, atT (fun b => if b = j then r else t b), rfl, _, rfl, ?_⟩
      refine iteF (hD' _ _ ⟨⟨_, _, _, h5⟩, _, _, _, rfl⟩)
  · rintro σ' H4 ⟨⟨t, z, v, h4⟩, o8, o9, o10, rfl⟩
    obtain ⟨W4, q4, F4⟩ := stands h4 (by omega)
    refine ⟨_, rfl, _, rfl, aF, _, _, _, rfl, rfl, SqL.of F4, atI_nat (j := 0) rfl, _, rfl, aT, _, _, _, rfl, rfl, SqL.of h4.tk, atI_nat (j := 0) rfl, ?_⟩
    refine ⟨S, f, y false, t false, v false, z false, rfl, W4.sl, h4.fo false, h4.hd false, h4.tl false, h4.zl false, W4.cap.dn (by omega), fun H5 g5 => ⟨_, rfl, iteF ?_⟩⟩
    have h5 := h4.go (b := i * 5000 + 3600) g5 (by omega)
    obtain ⟨W5, q5, F5⟩ := stands h5 (by omega)
    refine ⟨_, rfl, _, rfl, aF, _, _, _, rfl, rfl, SqL.of F5, atI_nat (j := 1) rfl, _, rfl, aT, _, _, _, rfl, rfl, SqL.of h5.tk, atI_nat (j := 1) rfl, ?_⟩
    refine ⟨S, f, y true, t true, v true, z true, rfl, W5.sl, h5.fo true, h5.hd true, h5.tl true, h5.zl true, W5.cap.dn (by omega), fun H6 g6 => ⟨_, rfl, iteF ?_⟩⟩
    exact ⟨⟨t, z, v, h5.go g6 (by omega)⟩, _, _, _, rfl⟩
end
end My
namespace My
open PySem L2
section
variable {P : Program} {w : World} {K : PySem.W.Frag} {mg : Str → Option Value} {base : Heap} {C cT cF cS cC cG : Addr}
theorem made_free {H : Hp} {x dx C p : Addr} (h : upd (upd H dx (.own x)) x (.ins C dx []) p = none) : H p = none := by
  cases z : H p with
  | none => rfl
  | some o =>
    by_cases h1 : p = x
    · subst h1; rw [upd_same] at h; cases h
    · rw [upd_ne h1] at h
      by_cases h2 : p = dx
      · subst h2; rw [upd_same] at h; cases h
      · rw [upd_ne h2, z] at h; cases h
theorem made_all {H H' : Hp} {x dx C : Addr} (nx : H x = none) (ndx : H dx = none) (k : ∀ b o, upd (upd H dx (.own x)) x (.ins C dx []) b = some o → b ≠ x → H' b = some o) : ∀ b o, H b = some o → H' b = some o := fun b o h =>
  k b o (by rw [upd_ne (ne_of_none h nx), upd_ne (ne_of_none h ndx)]; exact h) (ne_of_none h nx)
abbrev kl3 (A1 A2 A3 : Bool → Addr) (i : Bool) : List Addr := [A1 i, A2 i, A3 i]
structure F13 (C cT : Addr) (S : Sl) (f aK : Addr) (x A1 A2 A3 : Bool → Addr) (H0 : Hp) (n : Nat) (c : Bool → List Str) (H : Hp) : Prop where
  gr : Gr S n H0 H
  kp : ∀ i, KpAt C cT S H (x i) f (A1 i) (A2 i) (A3 i) (c i)
  kl : H aK = some (.lst [.ref (x false), .ref (x true)])
theorem law_b {f0 : Addr} {cdv : Value} {A : Around} {outer : List Env} {s : Shared} {H0 : Hp} {E : XK} {Q : VK} (hr : Room 99 (A.deeper (PyProof.Rows.envOfC "law" (defScope sLaw) s.heap.objs.size f0 cdv)))
    (TK : TxK K mg C) (MK : ∃ fI, Mk K C fI) (Mki : MtD P w K mg base C 3 "__init__" ["self", "seal", "depth"] (spKI C cT) (.int 8)) (Mka : MtP P w K mg base C 21 "add" ["self", "text"] (spKAdd K mg C cT)) (TF : TxF K mg cF) (MF : ∃ fI, Mk K cF fI) (Mfi : MtP P w K mg base cF 3 "__init__" ["self", "seal"] (spFI K mg cF))
    (Fd : FnP P w K mg base 1 "_law_draw" ["_law_cell", "_law_k", "_law_many"] spDraw) (Fo : FnP P w K mg base 60 "_law_offered" ["_law_seal", "_law_follower", "_law_took", "_law_books_here", "_law_keepers", "_law_cell"] (spOff K mg C cT cF)) (Fj : FnP P w K mg base 60 "_law_judged" ["_law_seal", "_law_follower", "_law_took", "_law_books_here", "_law_keepers", "_law_cell"] (spJud K mg C cT cF)) (Fk : FnP P w K mg base 30 "_law_kept" ["_law_seal", "_law_follower", "_law_took"] (spKept K mg cF))
    (ml : mg "len" = none) (mr : mg "range" = none) (mm : mg "min" = none) (q : ∀ H', Q (.bl true) H') :
    ∃ t, PSs (cxOf CX0 P w K mg base nL "law" (defScope sLaw) f0 cdv A outer s H0 E).nox ((defBody sLaw).drop 2) t ∧
      ∀ (S : Sl) (a f aB : Addr) (l : Bool → Addr) (b : Bool → List Str) (ns : List Int) (H : Hp), SealAt K mg sNumd S H f → Cap S H 9900000 → SqF K H a (ns.map V.int) → ns.length ≤ 63 → H aB = some (.tup [.ref (l false), .ref (l true)]) → (∀ i, H (l i) = some (.lst ((b i).map V.str))) → (∀ i, (b i).length ≤ 260) → (∀ i, ∀ z ∈ b i, Rem z) →
        t { nx := fun _ H' => Q .non H', rt := Q } [some (.ref a), some (.ref f), some (.ref aB), none, none, none, none, none, none, none, none] H := by
  have nd := scL.nd
  obtain ⟨tr, htr, hrest⟩ := law_c (P := P) (w := w) (K := K) (mg := mg) (base := base) (C := C) (cT := cT) (cF := cF) (outer := outer) (H0 := H0) (E := E) (Q := Q) hr Fd Fo Fj Fk ml mr mm q
  refine ⟨_, pss_cons (ps_set (i := 3) nd rfl (Or.inl rfl) (pe_lst (pa_cons (pe_makeD MK Mki (hr.mono (by omega)) rfl TK.mgC (pa_cons (pv 1) pa_nil)) (pa_cons (pe_makeD MK Mki (hr.mono (by omega)) rfl TK.mgC (pa_cons (pv 1) pa_nil)) pa_nil)))) <|
    pss_cons (ps_for PassesOwn.never rfl (pi_range1 rfl mr (pa_cons pe_int pa_nil)) (pg_name (i := 4) nd rfl (Or.inl rfl)) <|
      pss_one (ps_for PassesOwn.never rfl (pi_list (pe_ix ix_tup (pv 2) (pv 4) (fun _ _ => rfl))) (pg_name (i := 5) nd rfl (Or.inl rfl)) <|
        pss_one (ps_expr (pe_methN Mka (pe_ix ix_list (pv 3) (pv 4) (fun _ _ => rfl)) TK.cl (hr.mono (by omega)) (pa_cons (pv 5) pa_nil))))) <|
    pss_cons (ps_set (i := 6) nd rfl (Or.inl rfl) (pe_lst (pa_cons (pe_makeM MF Mfi (hr.mono (by omega)) rfl TF.mgC (pa_cons (pv 1) pa_nil)) (pa_cons (pe_makeM MF Mfi (hr.mono (by omega)) rfl TF.mgC (pa_cons (pv 1) pa_nil)) pa_nil)))) <|
    pss_cons (ps_set (i := 7) nd rfl (Or.inl rfl) (pe_lst (pa_cons (pe_lst pa_nil) (pa_cons (pe_lst pa_nil) pa_nil)))) <|
    htr, ?_⟩
  intro S a f aB l b ns H hS hc hq h63 hB hl bl hR
  -- the two keepers
  refine ⟨_, rfl, fun y0 d0 ny0 nd0 ne0 => ⟨S, y0, d0, f, rfl, ?_, upd_same, fun p1 p2 p3 H1 K1 k1 f1 f2 f3 => ⟨rfl, ?_⟩⟩⟩
  · have g1 : Gr S 0 H (upd H d0 (.own y0)) := .new hS.told nd0
    exact (g1.trans (.new g1.gn.told2 (by rw [upd_ne ne0.symm]; exact ny0))).gn.told2
  have g1 : Gr S 0 H H1 := .ext hS.told (made_all ny0 nd0 k1)
  have e1 := made_free f1; have e2 := made_free f2; have e3 := made_free f3
  refine ⟨_, rfl, fun y1 d1 ny1 nd1 ne1 => ⟨S, y1, d1, f, rfl, ?_, upd_same, fun q1 q2 q3 H2 K2 k2 m1 m2 m3 => ⟨rfl, ?_⟩⟩⟩
  · have g2 : Gr S 0 H1 (upd H1 d1 (.own y1)) := .new g1.gn.told2 nd1
    exact (g2.trans (.new g2.gn.told2 (by rw [upd_ne ne1.symm]; exact ny1))).gn.told2
  have g2 : Gr S 0 H1 H2 := .ext g1.gn.told2 (made_all ny1 nd1 k2)
  have j1 := made_free m1; have j2 := made_free m2; have j3 := made_free m3
  have g12 := g1.trans g2
  refine ⟨by show 2 ≤ sizeLine; decide, fun aK hK => ?_⟩
  have g3 : Gr S 0 H2 (upd H2 aK (.lst [.ref y0, .ref y1])) := .new g2.gn.told2 hK
  have K1' := (K1.up g2).up g3
  have K2' := K2.up g3
  obtain ⟨wL1, kL1, _⟩ := K1.lv
  obtain ⟨wB1, tB1, dB1, kB1, _, _⟩ := K1.tb
  obtain ⟨wL2, kL2, _⟩ := K2.lv
  obtain ⟨wB2, tB2, dB2, kB2, _, _⟩ := K2.tb
  -- the families
  let x : Bool → Addr := fun i => if i then y1 else y0
  let A1 : Bool → Addr := fun i => if i then q1 else p1
  let A2 : Bool → Addr := fun i => if i then q2 else p2
  let A3 : Bool → Addr := fun i => if i then q3 else p3
  have free0 : ∀ i, ∀ p ∈ kl3 A1 A2 A3 i, H p = none := fun i p hp => by
    cases i
    · have hp : p ∈ [p1, p2, p3] := hp
      simp only [List.mem_cons, List.not_mem_nil, or_false] at hp
      rcases hp with rfl | rfl | rfl <;> assumption
    · have hp : p ∈ [q1, q2, q3] := hp
      simp only [List.mem_cons, List.not_mem_nil, or_false] at hp
      rcases hp with rfl | rfl | rfl
      · exact g1.free j1
      · exact g1.free j2
      · exact g1.free j3
  have dis : ∀ p ∈ [p1, p2, p3], p ∉ [q1, q2, q3] := fun p hp hq' => by
    have n1 : H1 p = none := by
      simp only [List.mem_cons, List.not_mem_nil, or_false] at hq'
      rcases hq' with rfl | rfl | rfl <;> assumption
    simp only [List.mem_cons, List.not_mem_nil, or_false] at hp
    rcases hp with rfl | rfl | rfl
    · rw [K1.tx] at n1; cases n1
    · rw [kL1] at n1; cases n1
    · rw [kB1] at n1; cases n1
  have disj : ∀ i j : Bool, i ≠ j → ∀ p ∈ kl3 A1 A2 A3 i, p ∉ kl3 A1 A2 A3 j := fun i j hij p hp => by
    cases i <;> cases j
    · exact absurd rfl hij
    · exact dis p hp
    · exact fun h2 => dis p h2 hp
    · exact absurd rfl hij
  have aKn : ∀ i, aK ∉ kl3 A1 A2 A3 i := fun i hp => by
    cases i
    · have hp : aK ∈ [p1, p2, p3] := hp
      simp only [List.mem_cons, List.not_mem_nil, or_false] at hp
      rcases hp with rfl | rfl | rfl
      · rw [g2.lst K1.tx] at hK; cases hK
      · rw [g2.lst kL1] at hK; cases hK
      · rw [g2.lst kB1] at hK; cases hK
    · have hp : aK ∈ [q1, q2, q3] := hp
      simp only [List.mem_cons, List.not_mem_nil, or_false] at hp
      rcases hp with rfl | rfl | rfl
      · rw [K2.tx] at hK; cases hK
      · rw [kL2] at hK; cases hK
      · rw [kB2] at hK; cases hK
  have F0 : F13 C cT S f aK x A1 A2 A3 H 0 (fun _ => []) (upd H2 aK (.lst [.ref y0, .ref y1])) := ⟨g12.trans g3, fun i => by
    cases i
    · exact K1'
    · exact K2', upd_same⟩
  generalize upd H2 aK (.lst [.ref y0, .ref y1]) = H3 at F0
  clear_value x A1 A2 A3
  -- the loop
  refine ⟨2, rfl, by decide, by decide, ?_⟩
  refine for_range (n := 2) (fun k σ H' => F13 C cT S f aK x A1 A2 A3 H (k * 1300) (fun i => if (if i then 1 else 0) < k then b i else []) H' ∧ ∃ o4 o5, σ = [some (.ref a), some (.ref f), some (.ref aB), some (.ref aK), o4, o5, none, none, none, none, none]) ⟨by simpa using F0, none, none, rfl⟩ ?_ ?_
  · rintro k σ H4 hk ⟨F4, o4, o5, rfl⟩
    obtain ⟨cur, hcur⟩ : ∃ cur : Bool, k = if cur then 1 else 0 := by
      have : k = 0 ∨ k = 1 := by omega
      rcases this with rfl | rfl
      · exact ⟨false, rfl⟩
      · exact ⟨true, rfl⟩
    have ek : (0 : Int) + (k : Int) = if cur then 1 else 0 := by rw [hcur]; cases cur <;> rfl
    have atL : atI [V.ref (l false), .ref (l true)] ((0 : Int) + (k : Int)) = some (.ref (l cur)) := by rw [at_bool ek, bool_fam]
    have atK : atI [V.ref (x false), .ref (x true)] ((0 : Int) + (k : Int)) = some (.ref (x cur)) := by rw [at_bool ek, bool_fam]
    have cc : (fun i : Bool => if (if i then 1 else 0) < k then b i else ([] : List Str)) cur = [] := by
      show (if (if cur then 1 else 0) < k then b cur else ([] : List Str)) = []
      rw [← hcur, if_neg (Nat.lt_irrefl _)]
    refine ⟨_, rfl, _, rfl, aB, _, _, _, rfl, rfl, .inl (.inl (F4.gr.gn.keep _ _ hB rfl)), atL, l cur, rfl, ⟨_, SqL.of (F4.gr.lst (hl cur))⟩, ?_⟩
    refine for_list (K := K) (xs := (b cur).map V.str) (fun j σ H' => F13 C cT S f aK x A1 A2 A3 H (k * 1300 + j * 5) (fun i => if i = cur then (b cur).take j else if (if i then 1 else 0) < k then b i else []) H' ∧ ∃ o5, σ = [some (.ref a), some (.ref f), some (.ref aB), some (.ref aK), some (.int (0 + (k : Int))), o5, none, none, none, none, none]) ⟨?_, _, rfl⟩ (fun j σ H' hj h => SqL.of (h.1.gr.lst (hl cur))) ?_ ?_
    · refine ⟨F4.gr, fun i => ?_, F4.kl⟩
      have z := F4.kp i
      by_cases hi : i = cur
      · have e : (if i = cur then (b cur).take 0 else if (if i then 1 else 0) < k then b i else ([] : List Str)) = [] := by rw [if_pos hi]; rfl
        have e2 : (if (if i then 1 else 0) < k then b i else ([] : List Str)) = [] := by rw [hi]; exact cc
        (try dsimp only at z ⊢)
        rw [e2] at z; rw [e]; exact z
      · (try dsimp only at z ⊢)
        rw [if_neg hi]; exact z
    · rintro j xx σ H5 hx ⟨F5, o5, rfl⟩
      have hj : j < (b cur).length := by have := (List.getElem?_eq_some_iff.mp hx).1; simpa using this
      have eb : (b cur)[j]? = some (b cur)[j] := List.getElem?_eq_getElem hj
      obtain rfl : xx = V.str (b cur)[j] := by rw [List.getElem?_map, eb] at hx; exact (Option.some.inj hx).symm
      have kc := F5.kp cur
      (try dsimp only at kc)
      rw [if_pos rfl] at kc
      obtain ⟨dxc, hxc⟩ := kc.ob
      have bcl := bl cur
      refine ⟨_, rfl, _, rfl, aK, _, _, _, rfl, rfl, SqL.of F5.kl, atK, x cur, dxc, _, rfl, hxc, rfl, _, rfl, ?_⟩
      refine ⟨S, x cur, f, A1 cur, A2 cur, A3 cur, (b cur).take j, (b cur)[j], rfl, kc, hS.up F5.gr.gn, hc.go F5.gr.gn (by omega), hR cur _ (List.getElem_mem hj), by rw [List.length_take]; omega, fun v H6 K6 k6 => ?_⟩
      have isl : ∀ p ∈ kl3 A1 A2 A3 cur, ∃ xs, H5 p = some (.lst xs) := fun p hp => by
        obtain ⟨wL, w1, _⟩ := kc.lv
        obtain ⟨wB, tB, dB, w2, _, _⟩ := kc.tb
        have hp : p ∈ [A1 cur, A2 cur, A3 cur] := hp
        simp only [List.mem_cons, List.not_mem_nil, or_false] at hp
        rcases hp with rfl | rfl | rfl
        · exact ⟨_, kc.tx⟩
        · exact ⟨_, w1⟩
        · exact ⟨_, w2⟩
      refine ⟨⟨(My.Gr.byL F5.gr k6 (free0 cur)).up (by omega), fun i => ?_, k6.all _ _ F5.kl (aKn cur) (k6.notd F5.kl (fun _ e => nomatch e))⟩, _, rfl⟩
      by_cases hi : i = cur
      · subst hi
        (try dsimp only)
        rw [if_pos rfl, List.take_succ, eb]
        exact K6
      · have z := F5.kp i
        (try dsimp only at z ⊢)
        rw [if_neg hi] at z ⊢
        have dj := disj i cur hi
        exact z.upN k6 isl (dj _ (by simp)) (dj _ (by simp)) (dj _ (by simp))
    · rintro σ H5 ⟨F5, o5, rfl⟩
      rw [List.length_map] at F5
      have bcl := bl cur
      refine ⟨⟨F5.gr.up (by omega), fun i => ?_, F5.kl⟩, _, _, rfl⟩
      have z := F5.kp i
      (try dsimp only at z ⊢)
      by_cases hi : i = cur
      · subst hi
        rw [if_pos rfl, List.take_length] at z
        rw [if_pos (by rw [hcur]; exact Nat.lt_succ_self _)]
        exact z
      · rw [if_neg hi] at z
        have e : ((if i then 1 else 0) < k + 1) ↔ ((if i then 1 else 0) < k) := by
          cases i <;> cases cur
          · exact absurd rfl hi
          · rw [hcur]; decide
          · rw [hcur]; decide
          · exact absurd rfl hi
        by_cases h2 : (if i then 1 else 0) < k
        · rw [if_pos h2] at z; rw [if_pos (e.mpr h2)]; exact z
        · rw [if_neg h2] at z; rw [if_neg fun h3 => h2 (e.mp h3)]; exact z
  · rintro σ H4 ⟨F4, o4, o5, rfl⟩
    have k0 : KpAt C cT S H4 (x false) f (A1 false) (A2 false) (A3 false) (b false) := F4.kp false
    have k1' : KpAt C cT S H4 (x true) f (A1 true) (A2 true) (A3 true) (b true) := F4.kp true
    have W4 : W13 K mg C cT S f (x false) (x true) aK aB (l false) (l true) (b false) (b true) 9700000 H4 := ⟨hS.up F4.gr.gn, hc.go F4.gr.gn (by omega), F4.kl, ⟨_, _, _, k0⟩, ⟨_, _, _, k1'⟩, F4.gr.gn.keep _ _ hB rfl, F4.gr.lst (hl false), F4.gr.lst (hl true), bl false, bl true⟩
    have hq4 := hq.up F4.gr.gn
    -- the followers
    have gz : ∀ {Hx : Hp} {yy dd : Addr}, Told S Hx → Hx yy = none → Hx dd = none → dd ≠ yy → Gr S 0 Hx (upd (upd Hx dd (.own yy)) yy (.ins cF dd [])) := fun {Hx yy dd} ht h1 h2 h3 => by
      have g1 : Gr S 0 Hx (upd Hx dd (.own yy)) := .new ht h2
      exact g1.trans (.new g1.gn.told2 (by rw [upd_ne h3.symm]; exact h1))
    refine ⟨_, rfl, fun u0 e0 nu0 ne0' nue0 => ?_⟩
    have ga := gz W4.sl.told nu0 ne0' nue0
    refine ⟨S, u0, e0, f, rfl, upd_same, W4.sl.up ga.gn, W4.cap.go ga.gn (by omega), fun v0 H5 hF0 i0 kx0 => ⟨rfl, ?_⟩⟩
    have g5 := Gr.made W4.sl.told nu0 ne0' nue0 kx0
    have W5 := W4.go (b := 9690000) g5 (by omega)
    refine ⟨_, rfl, fun u1 e1' nu1 ne1' nue1 => ?_⟩
    have gb := gz W5.sl.told nu1 ne1' nue1
    refine ⟨S, u1, e1', f, rfl, upd_same, W5.sl.up gb.gn, W5.cap.go gb.gn (by omega), fun v1 H6 hF1 i1 kx1 => ⟨rfl, ?_⟩⟩
    have g6 := Gr.made W5.sl.told nu1 ne1' nue1 kx1
    have W6 := W5.go (b := 9680000) g6 (by omega)
    have hyn : u0 ≠ u1 := by
      obtain ⟨dx, hx⟩ := hF0
      exact ne_of_none hx nu1
    refine ⟨by show 2 ≤ sizeLine; decide, fun aF hF => ?_⟩
    have g7 : Gr S 0 H6 (upd H6 aF (.lst [.ref u0, .ref u1])) := .new W6.sl.told hF
    have W7 := W6.go (b := 9680000) g7 (by omega)
    have hF7 : upd H6 aF (.lst [.ref u0, .ref u1]) aF = some (.lst [.ref u0, .ref u1]) := upd_same
    have fo0 := (hF0.up g6).up g7
    have fo1 := hF1.up g7
    have iv0 := isT_up (g6.trans g7).gn i0
    have iv1 := isT_up g7.gn i1
    have hq7 := ((hq4.up g5.gn).up g6.gn).up g7.gn
    generalize upd H6 aF (.lst [.ref u0, .ref u1]) = H7 at g7 W7 hF7 fo0 fo1 iv0 iv1 hq7
    refine ⟨by show 0 ≤ sizeLine; decide, fun t0 h0 => ⟨by show 0 ≤ sizeLine; decide, fun t1 h1 => ⟨by show 2 ≤ sizeLine; decide, fun aT hT => ?_⟩⟩⟩
    have g8 : Gr S 0 H7 (upd H7 t0 (.lst [])) := .new W7.sl.told h0
    have g9 : Gr S 0 _ (upd (upd H7 t0 (.lst [])) t1 (.lst [])) := .new g8.gn.told2 h1
    have g10 : Gr S 0 _ (upd (upd (upd H7 t0 (.lst [])) t1 (.lst [])) aT (.lst [.ref t0, .ref t1])) := .new g9.gn.told2 hT
    have l0 : upd (upd (upd H7 t0 (.lst [])) t1 (.lst [])) aT (.lst [.ref t0, .ref t1]) t0 = some (.lst []) := g10.lst (g9.lst upd_same)
    have l1 : upd (upd (upd H7 t0 (.lst [])) t1 (.lst [])) aT (.lst [.ref t0, .ref t1]) t1 = some (.lst []) := g10.lst upd_same
    have n0 : t0 ≠ aT := ne_of_none (g9.lst upd_same) hT
    have n1 : t1 ≠ aT := ne_of_none upd_same hT
    have g := (g8.trans g9).trans g10
    have L : L13 cF S f aT (fun i => if i then u1 else u0) H7 0 (fun i => if i then t1 else t0) (fun _ => []) (fun i => if i then v1 else v0) (upd (upd (upd H7 t0 (.lst [])) t1 (.lst [])) aT (.lst [.ref t0, .ref t1])) := by
      refine ⟨.of g, upd_same, fun i => ?_, fun i => ?_, fun i => by simp, fun i => ?_, fun i => ?_⟩
      · cases i <;> assumption
      · cases i
        · exact l0
        · exact l1
      · cases i
        · exact fo0.up g
        · exact fo1.up g
      · rw [hdE_nil]
        cases i
        · exact isT_up g.gn iv0
        · exact isT_up g.gn iv1
    have hFo : FoL cF [u0, u1] H7 := fun p hp => by
      simp only [List.mem_cons, List.not_mem_nil, or_false] at hp
      rcases hp with rfl | rfl
      · obtain ⟨dx, hx⟩ := fo0; exact ⟨dx, _, _, _, hx⟩
      · obtain ⟨dx, hx⟩ := fo1; exact ⟨dx, _, _, _, hx⟩
    exact hrest S a f (x false) (x true) aK aB (l false) (l true) aF aT (b false) (b true) (fun i => if i then u1 else u0) (fun i => if i then t1 else t0) (fun _ => []) (fun i => if i then v1 else v0) ns H7 _ _ _ (W7.go (b := 9000000) (.refl W7.sl.told) (by omega)) hq7 h63 hF7 (g8.free (g9.free hT)) hyn hFo L
theorem ok_law {Pt : Addr} (F : FunAt K mg "law" sLaw) (Fsb : FnP P w K mg base 2 "_law_seal_by" ["_law_script"] (spSealBy K mg Pt)) (Fbk : FnP P w K mg base 10 "_law_books" ["_law_script"] (spBooks K))
    (TK : TxK K mg C) (MK : ∃ fI, Mk K C fI) (Mki : MtD P w K mg base C 3 "__init__" ["self", "seal", "depth"] (spKI C cT) (.int 8)) (Mka : MtP P w K mg base C 21 "add" ["self", "text"] (spKAdd K mg C cT)) (TF : TxF K mg cF) (MF : ∃ fI, Mk K cF fI) (Mfi : MtP P w K mg base cF 3 "__init__" ["self", "seal"] (spFI K mg cF))
    (Fd : FnP P w K mg base 1 "_law_draw" ["_law_cell", "_law_k", "_law_many"] spDraw) (Fo : FnP P w K mg base 60 "_law_offered" ["_law_seal", "_law_follower", "_law_took", "_law_books_here", "_law_keepers", "_law_cell"] (spOff K mg C cT cF)) (Fj : FnP P w K mg base 60 "_law_judged" ["_law_seal", "_law_follower", "_law_took", "_law_books_here", "_law_keepers", "_law_cell"] (spJud K mg C cT cF)) (Fk : FnP P w K mg base 30 "_law_kept" ["_law_seal", "_law_follower", "_law_took"] (spKept K mg cF))
    (ml : mg "len" = none) (mr : mg "range" = none) (mm : mg "min" = none) : FnP P w K mg base 100 "law" ["_law_script"] (spLaw K mg Pt) := by
  refine F.ok scL (fun _ _ _ _ _ _ us hl => match us, hl with | [_], _ => rfl) (fun vs H Q E h => ?_) (fun f0 cdv A outer s H vs Q E hr h => ?_)
  · obtain ⟨a, ns, rfl, _⟩ := h; rfl
  obtain ⟨a, ns, rfl, hq, h63, hP, q⟩ := h
  have nd := scL.nd
  obtain ⟨tr, htr, hrest⟩ := law_b (P := P) (w := w) (K := K) (mg := mg) (base := base) (C := C) (cT := cT) (cF := cF) (outer := outer) (H0 := H) (E := E) (Q := Q) hr TK MK Mki Mka TF MF Mfi Fd Fo Fj Fk ml mr mm q
  refine ⟨_, pss_cons (ps_set (i := 1) nd rfl (Or.inl rfl) (pe_callN Fsb (hr.mono (by omega)) rfl (pa_cons (pv 0) pa_nil))) <|
    pss_cons (ps_set (i := 2) nd rfl (Or.inl rfl) (pe_callN Fbk (hr.mono (by omega)) rfl (pa_cons (pv 0) pa_nil))) <|
    htr, ?_⟩
  refine ⟨_, rfl, a, ns, rfl, hq.sq, hP, fun S f H1 hS hc hk1 => ?_⟩
  have hq1 : SqF K H1 a (ns.map V.int) := by
    rcases hq with ⟨o, h⟩ | h
    · exact .inl ⟨o, hk1 _ _ h (by rintro rfl; rw [hP] at h; cases h)⟩
    · exact .inr h
  refine ⟨_, rfl, a, ns, rfl, hq1, fun r l0 l1 b0 b1 H2 k2 er e0 e1 n0 n1 r0 r1 => ?_⟩
  have g2 : Gr S 0 H1 H2 := .ext hS.told k2
  refine hrest S a f r (fun i => if i then l1 else l0) (fun i => if i then b1 else b0) ns H2 (hS.up g2.gn) (hc.go g2.gn (by omega)) (hq1.up g2.gn) h63 er (fun i => ?_) (fun i => ?_) (fun i => ?_)
  · cases i <;> assumption
  · cases i <;> assumption
  · cases i <;> assumption
theorem all_ok {c0 Pt cP cD : Addr} (kb : K.In base) (nb : base.Ns mainGlobals mg) (X0 : Ext0 K mg base c0 Pt)
    (F_split : FunAt K mg "split" sSplit) (F_none : FunAt K mg "none_seal" sNone) (F_leaf : FunAt K mg "leaf_seal" sLeafS) (F_pair : FunAt K mg "pair_seal" sPair) (F_book : FunAt K mg "book_seal" sBook) (F_top : FunAt K mg "top_of" sTop) (F_path : FunAt K mg "path_of" sPath) (F_grow : FunAt K mg "growth_of" sGrow) (F_turns : FunAt K mg "turns_of" sTurns) (F_risen : FunAt K mg "risen" sRisen) (F_gturns : FunAt K mg "growth_turns" sGturns) (F_grown : FunAt K mg "grown" sGrown)
    (F_row : FunAt K mg "row_seal" sRow) (F_fork : FunAt K mg "fork_seal" sFork) (F_tabs : FunAt K mg "table_seal" sTabS) (F_part : FunAt K mg "part_of" sPartOf) (F_topp : FunAt K mg "top_of_part" sTopPart) (F_same : FunAt K mg "same" sSame) (F_lst : FunAt K mg "leaf_stands" sLStands) (F_reada : FunAt K mg "read_at" sReadAt) (F_chg : FunAt K mg "changed" sChanged) (F_ckp : FunAt K mg "check_place" sCheckP)
    (F_cell : FunAt K mg "_law_cell_at" sCell) (F_plain : FunAt K mg "_law_plain" sPlain) (F_turned : FunAt K mg "_law_turned" sTurned) (F_numbering : FunAt K mg "_law_numbering" sNumbering) (F_sealby : FunAt K mg "_law_seal_by" sSealBy) (F_draw : FunAt K mg "_law_draw" sDraw) (F_word : FunAt K mg "_law_word" sWord)
    (F_lsplit : FunAt K mg "_law_split" sLsplit) (F_ltop : FunAt K mg "_law_top" sLtop) (F_lpath : FunAt K mg "_law_path" sLpath) (F_lgrow : FunAt K mg "_law_growth" sLgrow) (F_books : FunAt K mg "_law_books" sBooks) (F_lleaves : FunAt K mg "_law_leaves" sLLeaves) (F_lhead : FunAt K mg "_law_head" sLhead) (F_bent : FunAt K mg "_law_bent" sBent) (F_off : FunAt K mg "_law_offered" sOffered) (F_jud : FunAt K mg "_law_judged" sJudged) (F_kept : FunAt K mg "_law_kept" sKept) (F_law : FunAt K mg "law" sLaw)
    (ml : mg "len" = none) (mli : mg "list" = none) (mr : mg "range" = none) (mi : mg "isinstance" = none) (mt : mg "tuple" = none) (mz : mg "zip" = none) (mre : mg "reversed" = none) (mb : mg "bool" = none) (mm : mg "min" = none) (mn : mg "int" = none) (mso : mg "sorted" = none) (md : mg "dict" = none) (me : mg "enumerate" = none)
    (xc : XCls K cP) (hP : mg "BadPaper" = some (.ref cP))
    (TG : TxG K mg cG cD) (MG : ∃ fI, Mk K cG fI) (G_init : MethAt K cG "__init__" "Grows.__init__" mGInit) (G_judged : MethAt K cG "judged" "Grows.judged" mGJudged) (G_none : MethAt K cG "judged_from_none" "Grows.judged_from_none" mGNone)
    (TS : TxS K mg cS cC) (MS : ∃ fI, Mk K cS fI) (S_init : MethAt K cS "__init__" "Stands.__init__" mSInit) (S_judged : MethAt K cS "judged" "Stands.judged" mSJudged)
    (TF : TxF K mg cF) (MF : ∃ fI, Mk K cF fI) (F_init : MethAt K cF "__init__" "Follower.__init__" mFInit) (F_take : MethAt K cF "take" "Follower.take" mFTake) (F_judge : MethAt K cF "judge" "Follower.judge" mFJudge) (F_size : MethAt K cF "size" "Follower.size" mFSize) (F_head : MethAt K cF "head" "Follower.head" mFHead)
    (TT : Txt K mg cT) (MT : ∃ fI, Mk K cT fI) (T_init : MethD K cT "__init__" "Table.__init__" mInit [8]) (T_head : MethAt K cT "head" "Table.head" mHead) (T_twin : MethAt K cT "twin" "Table.twin" mTwin) (T_rows : MethAt K cT "rows" "Table.rows" mRows)
    (TK : TxK K mg C) (MK : ∃ fI, Mk K C fI) (K_init : MethV K C "__init__" "Keeper.__init__" kInit (.int 8)) (K_add : MethAt K C "add" "Keeper.add" kAdd) (K_sow : MethAt K C "size_or_whole" "Keeper.size_or_whole" kSow) (K_head : MethV K C "head" "Keeper.head" kHead .non) (K_path : MethV K C "path" "Keeper.path" kPath .non) (K_growth : MethV K C "growth" "Keeper.growth" kGrowth .non) : FnP P w K mg base 100 "law" ["_law_script"] (spLaw K mg Pt) := by
  have Sl := seal_ok (P := P) (w := w) (base := base) (ok_plain F_plain) (ok_turned F_turned) ml
  have Cl := ok_cell (P := P) (w := w) (base := base) F_cell ml
  have Sp := ok_split (P := P) (w := w) (base := base) F_split
  have Lsp := ok_lsplit (P := P) (w := w) (base := base) F_lsplit
  have No := ok_none (P := P) (w := w) (base := base) F_none Sl
  have Pa := ok_pair (P := P) (w := w) (base := base) F_pair Sl
  have Bk := ok_book (P := P) (w := w) (base := base) F_book Sl
  have Lf := ok_leafS (P := P) (w := w) (base := base) F_leaf Sl
  have Tp := ok_top F_top Sp No Pa ml
  have Lt := ok_ltop F_ltop Lsp Sl ml
  have Sm := ok_same (P := P) (w := w) (base := base) F_same mb
  have Ri := ok_risen F_risen (ok_turns F_turns Sp) Pa xc hP ml mli mi mz mre kit_ll
  have LS := ok_lstands F_lst Ri Bk Sm xc hP .nd 265
  have Gw := ok_grown F_grown (ok_gturns F_gturns Sp) Pa xc hP ml mli mi mz mre
  have Dr := ok_draw (P := P) (w := w) (base := base) F_draw
  have Wd := ok_word F_word Dr ml mr
  have Gi := ok_ginit (P := P) (w := w) (base := base) G_init TG
  have Gj := ok_gjudged G_judged TG Gw Bk Sm .nd 265 (ok_gnone G_none TG No Bk Sm ml mli mi .nd 265) xc hP
  have Si := ok_sinit (P := P) (w := w) (base := base) S_init TS
  have Sj := ok_sjudged S_judged TS Lf .nd 265 LS
  have Lg := (ok_lgrow F_lgrow Lsp Lt ml 9 (by omega)).mono (show 9 + 3 ≤ 13 by omega)
  have Lp := (ok_lpath F_lpath Lsp Lt ml 9 (by omega)).mono (show 9 + 3 ≤ 13 by omega)
  have Gr := (ok_grow F_grow Sp Tp ml 9 (by omega))
  have Pt' := (ok_path F_path Sp Tp ml 9 (by omega))
  have Lv := ok_lleaves (P := P) (w := w) (base := base) F_lleaves Sl
  have Lh := ok_lhead F_lhead Sl (Lt 9 (by omega)) Lv ml
  have PaO := ok_part (P := P) (w := w) (base := base) F_part
  have TpP := ok_topP F_topp No (ok_row F_row Sl) (ok_fork F_fork Sl) PaO ml
  have TpA : FnP P w K mg base 19 "top_of_part" ["seal", "rows", "bits"] (spTopA K mg) := FnP.any fun b hb => (TpP b).mono (by omega)
  have Rs := ok_rows (P := P) (w := w) (base := base) T_rows TT mso
  have Th := ok_thead T_head TT (ok_tabS F_tabs Sl) TpA Rs
  obtain ⟨fI, MT⟩ := MT
  obtain ⟨fI', fdI, hm, FI⟩ := T_init
  have e := MT.init.symm.trans hm.at_
  cases e
  have TI := ok_tinit (P := P) (w := w) (base := base) FI TT
  have bI := FI.binds (ps := ["self", "seal", "depth"]) fun _ _ _ _ _ _ _ _ us hl => match us, hl with | [_, _, _], _ => ⟨_, rfl, rfl⟩
  have Tw := ok_twin T_twin TT MT TI bI md
  have Cg := ok_chgR F_chg TT Tw (ok_readR F_reada) me
  have Ki := ok_kinit K_init TK TT MT TI bI
  have Ka := ok_kadd K_add TK TT Cg Lf Th ml
  have Ks := ok_ksow (P := P) (w := w) (base := base) (cT := cT) K_sow TK ml
  have Kh := (ok_khead K_head TK Ks Bk (Tp 9 (by omega))).full
  have Kp := (ok_kpath K_path TK Ks (ok_ckp F_ckp) Pt').full
  have Kg := (ok_kgrow K_growth TK Ks Gr).full
  have Ft := ok_ftake F_take TF TG MG Gi .nd 265 Gj
  have Fj := ok_fjudgeS F_judge TF TS .nd 265 Sj
  exact ok_law F_law (ok_sealby F_sealby Cl (ok_numbering F_numbering kb nb X0) F_plain F_turned) (ok_books F_books Cl Dr Wd mr) TK MK Ki Ka TF MF (ok_finit F_init TF No Bk) Dr
    (ok_off F_off TK TF Kg Kh Ft Dr (ok_bent F_bent Dr Sl ml mli mre mt 265) Lv Lg ml mm mli mi mb) (ok_jud F_jud TK TF TS MS Si Kp Fj Sl Dr Lv Lp ml mi mb) (ok_lkept F_kept TF (ok_fsize F_size TF) (ok_fhead F_head TF) Lh ml mi mn) ml mr mm
end
end My
namespace My
open PySem L2
theorem err_mk {K : PySem.W.Frag} {mg : Str → Option Value} {h : Heap} (X : K.In h) (G : h.Ns mainGlobals mg) {cP cB N : Addr} {nm q : Str} {bs : List Value} {hdct : Bool} {sn : List Str} {sub : List Value} {ab : Bool} {col : Option Bool} {dd dB dn1 dn2 : Option Addr} {k0 k1 k2 k3 k5 : Option Value} {cdB : ClassData} {slB sn1 sn2 : Array (Option Value)} {cn1 cn2 : Value} {es1 es2 : Array DictEntry} {ep1 ep2 : Nat}
    (a1 : PySem.W.nsIn K mainGlobals "BadPaper" = some (some (.ref cP)))
    (lB : K.lookup cB = some ⟨.type "type", dB, .cls cdB, slB⟩)
    (lk : K.lookup cP = some (excClassObj nm q cP N bs (.ref cB :: bmVE) hdct sn sub ab col dd k0 k1 k2 k3 k5 "ValueError.__new__"))
    (l1 : K.lookup N = some ⟨cn1, dn1, .dict es1 ep1, sn1⟩) (l2 : K.lookup cdB.ns = some ⟨cn2, dn2, .dict es2 ep2, sn2⟩) (e1 : (es1.toList.all fun e => match e.key with | .str _ _ => true | _ => false) = true) (e2 : (es2.toList.all fun e => match e.key with | .str _ _ => true | _ => false) = true)
    (b1 : PySem.W.nsIn K N "__init__" = some none) (b2 : PySem.W.nsIn K N "__getattribute__" = some none) (b3 : PySem.W.nsIn K N "__getattr__" = some none) (b4 : PySem.W.nsIn K N "args" = some none)
    (c1 : PySem.W.nsIn K cdB.ns "__init__" = some none) (c2 : PySem.W.nsIn K cdB.ns "__getattribute__" = some none) (c3 : PySem.W.nsIn K cdB.ns "__getattr__" = some none) (c4 : PySem.W.nsIn K cdB.ns "args" = some none)
    (ga : PySem.W.findIn K (.ref cP) "__getattribute__" = some (some (.builtin "BaseException.__getattribute__"))) (gn : PySem.W.findIn K (.ref cP) "__getattr__" = some none)
    (fo : PySem.W.findIn K (.ref cP) "__class__" = some (some (.builtin "object.__class__"))) (sp : PySem.W.specialIn K (.builtin "object.__class__") "__get__" = some (some (.builtin "getset_descriptor.__get__")))
    (tk : PySem.W.takesIn K (.builtin "object.__class__") = some true) (mo : PySem.W.mroIn K cP (.type "object") = some true) : ∃ cP, XCls K cP ∧ mg "BadPaper" = some (.ref cP) :=
  ⟨cP, xcls_mk lk (QuietAt.q ⟨nsOk_of l1 e1, b1, b2, b3, b4⟩) (tailQ_one lB ⟨nsOk_of l2 e2, c1, c2, c3, c4⟩) (by simp) ga gn fo sp tk mo, PySem.W.mg_of X G a1⟩
theorem st_mk {K : PySem.W.Frag} {mg : Str → Option Value} {h : Heap} {C fI cC : Addr} {dB : Option Addr} {cdB : ClassData} {slB : Array (Option Value)} (X : K.In h) (G : h.Ns mainGlobals mg) (aC : PySem.W.nsIn K mainGlobals "Stands" = some (some (.ref C)))
    (pg : PySem.W.plainGet K C Str.empty = true) (hd : PySem.W.hasDictIn K C = true) (po : PySem.W.plainOver K C = true) (sa : PySem.W.findIn K (.ref C) "__setattr__" = some (some (.builtin "object.__setattr__"))) (mk : PySem.W.makesIn K C = true) (kc : PySem.W.keepIn K (.ref C) = true)
    (n0 : PySem.W.findIn K (.ref C) "place" = some none) (n1 : PySem.W.findIn K (.ref C) "entry" = some none) (n2 : PySem.W.findIn K (.ref C) "behind" = some none)
    (aI : PySem.W.findIn K (.ref C) "__init__" = some (some (.ref fI))) (iI : PySem.W.isFn K (.ref fI) = true)
    (aB : PySem.W.nsIn K mainGlobals "Claim" = some (some (.ref cC))) (lB : K.lookup cC = some ⟨.type "type", dB, .cls cdB, slB⟩)
    (fo : PySem.W.findIn K (.ref C) "__class__" = some (some (.builtin "object.__class__"))) (sp : PySem.W.specialIn K (.builtin "object.__class__") "__get__" = some (some (.builtin "getset_descriptor.__get__")))
    (tk : PySem.W.takesIn K (.builtin "object.__class__") = some true) (mo : PySem.W.mroIn K C (.type "object") = some true) (kB : PySem.W.mroIn K C (.ref cC) = some true) (ne : C ≠ cC)
    (M_init : MethAt K C "__init__" "Stands.__init__" mSInit) (M_judged : MethAt K C "judged" "Stands.judged" mSJudged) :
    ∃ C cC, TxS K mg C cC ∧ (∃ fI, Mk K C fI) ∧ MethAt K C "__init__" "Stands.__init__" mSInit ∧ MethAt K C "judged" "Stands.judged" mSJudged :=
  ⟨C, cC, ⟨⟨pg, hd, po, sa⟩, n0, n1, n2, PySem.W.mg_of X G aC, PySem.W.mg_of X G aB, fo, sp, tk, mo, kit_ref ne lB kB⟩, ⟨fI, mk, aI, iI, kc⟩, M_init, M_judged⟩
theorem gw_mk {K : PySem.W.Frag} {mg : Str → Option Value} {h : Heap} {C fI cC : Addr} {dB : Option Addr} {cdB : ClassData} {slB : Array (Option Value)} (X : K.In h) (G : h.Ns mainGlobals mg) (aC : PySem.W.nsIn K mainGlobals "Grows" = some (some (.ref C)))
    (pg : PySem.W.plainGet K C Str.empty = true) (hd : PySem.W.hasDictIn K C = true) (po : PySem.W.plainOver K C = true) (sa : PySem.W.findIn K (.ref C) "__setattr__" = some (some (.builtin "object.__setattr__"))) (mk : PySem.W.makesIn K C = true) (kc : PySem.W.keepIn K (.ref C) = true)
    (n0 : PySem.W.findIn K (.ref C) "old" = some none) (n1 : PySem.W.findIn K (.ref C) "early" = some none)
    (aI : PySem.W.findIn K (.ref C) "__init__" = some (some (.ref fI))) (iI : PySem.W.isFn K (.ref fI) = true)
    (aB : PySem.W.nsIn K mainGlobals "Claim" = some (some (.ref cC))) (lB : K.lookup cC = some ⟨.type "type", dB, .cls cdB, slB⟩)
    (fo : PySem.W.findIn K (.ref C) "__class__" = some (some (.builtin "object.__class__"))) (sp : PySem.W.specialIn K (.builtin "object.__class__") "__get__" = some (some (.builtin "getset_descriptor.__get__")))
    (tk : PySem.W.takesIn K (.builtin "object.__class__") = some true) (mo : PySem.W.mroIn K C (.type "object") = some true) (kB : PySem.W.mroIn K C (.ref cC) = some true) (ne : C ≠ cC)
    (M_init : MethAt K C "__init__" "Grows.__init__" mGInit) (M_judged : MethAt K C "judged" "Grows.judged" mGJudged) (M_none : MethAt K C "judged_from_none" "Grows.judged_from_none" mGNone) :
    ∃ C cC, TxG K mg C cC ∧ (∃ fI, Mk K C fI) ∧ MethAt K C "__init__" "Grows.__init__" mGInit ∧ MethAt K C "judged" "Grows.judged" mGJudged ∧ MethAt K C "judged_from_none" "Grows.judged_from_none" mGNone :=
  ⟨C, cC, ⟨⟨pg, hd, po, sa⟩, n0, n1, PySem.W.mg_of X G aC, PySem.W.mg_of X G aB, fo, sp, tk, mo, kit_ref ne lB kB⟩, ⟨fI, mk, aI, iI, kc⟩, M_init, M_judged, M_none⟩
theorem fol_mk {K : PySem.W.Frag} {mg : Str → Option Value} {h : Heap} {C fI : Addr} (X : K.In h) (G : h.Ns mainGlobals mg) (aC : PySem.W.nsIn K mainGlobals "Follower" = some (some (.ref C)))
    (pg : PySem.W.plainGet K C Str.empty = true) (hd : PySem.W.hasDictIn K C = true) (po : PySem.W.plainOver K C = true) (sa : PySem.W.findIn K (.ref C) "__setattr__" = some (some (.builtin "object.__setattr__"))) (mk : PySem.W.makesIn K C = true) (kc : PySem.W.keepIn K (.ref C) = true)
    (n0 : PySem.W.findIn K (.ref C) "seal" = some none) (n1 : PySem.W.findIn K (.ref C) "count" = some none) (n2 : PySem.W.findIn K (.ref C) "latest" = some none)
    (aI : PySem.W.findIn K (.ref C) "__init__" = some (some (.ref fI))) (iI : PySem.W.isFn K (.ref fI) = true)
    (M_init : MethAt K C "__init__" "Follower.__init__" mFInit) (M_take : MethAt K C "take" "Follower.take" mFTake) (M_judge : MethAt K C "judge" "Follower.judge" mFJudge) (M_size : MethAt K C "size" "Follower.size" mFSize) (M_head : MethAt K C "head" "Follower.head" mFHead) :
    ∃ C, TxF K mg C ∧ (∃ fI, Mk K C fI) ∧ MethAt K C "__init__" "Follower.__init__" mFInit ∧ MethAt K C "take" "Follower.take" mFTake ∧ MethAt K C "judge" "Follower.judge" mFJudge ∧ MethAt K C "size" "Follower.size" mFSize ∧ MethAt K C "head" "Follower.head" mFHead :=
  ⟨C, ⟨⟨pg, hd, po, sa⟩, n0, n1, n2, PySem.W.mg_of X G aC⟩, ⟨fI, mk, aI, iI, kc⟩, M_init, M_take, M_judge, M_size, M_head⟩
theorem tab_mk {K : PySem.W.Frag} {mg : Str → Option Value} {h : Heap} {C fI : Addr} (X : K.In h) (G : h.Ns mainGlobals mg) (aC : PySem.W.nsIn K mainGlobals "Table" = some (some (.ref C)))
    (pg : PySem.W.plainGet K C Str.empty = true) (hd : PySem.W.hasDictIn K C = true) (po : PySem.W.plainOver K C = true) (sa : PySem.W.findIn K (.ref C) "__setattr__" = some (some (.builtin "object.__setattr__"))) (mk : PySem.W.makesIn K C = true) (kc : PySem.W.keepIn K (.ref C) = true)
    (nS : PySem.W.findIn K (.ref C) "seal" = some none) (nD : PySem.W.findIn K (.ref C) "depth" = some none) (nH : PySem.W.findIn K (.ref C) "held" = some none)
    (aI : PySem.W.findIn K (.ref C) "__init__" = some (some (.ref fI))) (iI : PySem.W.isFn K (.ref fI) = true)
    (M_init : MethD K C "__init__" "Table.__init__" mInit [8]) (M_head : MethAt K C "head" "Table.head" mHead) (M_twin : MethAt K C "twin" "Table.twin" mTwin) (M_rows : MethAt K C "rows" "Table.rows" mRows) :
    ∃ C, Txt K mg C ∧ (∃ fI, Mk K C fI) ∧ MethD K C "__init__" "Table.__init__" mInit [8] ∧ MethAt K C "head" "Table.head" mHead ∧ MethAt K C "twin" "Table.twin" mTwin ∧ MethAt K C "rows" "Table.rows" mRows :=
  ⟨C, ⟨⟨pg, hd, po, sa⟩, nS, nD, nH, PySem.W.mg_of X G aC⟩, ⟨fI, mk, aI, iI, kc⟩, M_init, M_head, M_twin, M_rows⟩
theorem keep_mk {K : PySem.W.Frag} {mg : Str → Option Value} {h : Heap} {C fI : Addr} (X : K.In h) (G : h.Ns mainGlobals mg) (aC : PySem.W.nsIn K mainGlobals "Keeper" = some (some (.ref C)))
    (pg : PySem.W.plainGet K C Str.empty = true) (hd : PySem.W.hasDictIn K C = true) (po : PySem.W.plainOver K C = true) (sa : PySem.W.findIn K (.ref C) "__setattr__" = some (some (.builtin "object.__setattr__"))) (mk : PySem.W.makesIn K C = true) (kc : PySem.W.keepIn K (.ref C) = true)
    (n0 : PySem.W.findIn K (.ref C) "seal" = some none) (n1 : PySem.W.findIn K (.ref C) "depth" = some none) (n2 : PySem.W.findIn K (.ref C) "texts" = some none) (n3 : PySem.W.findIn K (.ref C) "leaves" = some none) (n4 : PySem.W.findIn K (.ref C) "tables" = some none)
    (aI : PySem.W.findIn K (.ref C) "__init__" = some (some (.ref fI))) (iI : PySem.W.isFn K (.ref fI) = true)
    (K_init : MethV K C "__init__" "Keeper.__init__" kInit (.int 8)) (K_add : MethAt K C "add" "Keeper.add" kAdd) (K_sow : MethAt K C "size_or_whole" "Keeper.size_or_whole" kSow) (K_head : MethV K C "head" "Keeper.head" kHead .non) (K_path : MethV K C "path" "Keeper.path" kPath .non) (K_growth : MethV K C "growth" "Keeper.growth" kGrowth .non) :
    ∃ C, TxK K mg C ∧ (∃ fI, Mk K C fI) ∧ MethV K C "__init__" "Keeper.__init__" kInit (.int 8) ∧ MethAt K C "add" "Keeper.add" kAdd ∧ MethAt K C "size_or_whole" "Keeper.size_or_whole" kSow ∧ MethV K C "head" "Keeper.head" kHead .non ∧ MethV K C "path" "Keeper.path" kPath .non ∧ MethV K C "growth" "Keeper.growth" kGrowth .non :=
  ⟨C, ⟨⟨pg, hd, po, sa⟩, n0, n1, n2, n3, n4, PySem.W.mg_of X G aC⟩, ⟨fI, mk, aI, iI, kc⟩, K_init, K_add, K_sow, K_head, K_path, K_growth⟩
end My
namespace PySem.W.Fast
def tw10560535174142576757 := ()
def tw5379211179631094315 := ()
def tw9190159509164726539 := ()
def tw16587336349113380874 := ()
def tw5348514271966868481 := ()
def tw5528546968451893230 := ()
def tw11989133371023785894 := ()
def tw16678328428791012909 := ()
def tw4498463419738849306 := ()
def tw3041461981768350029 := ()
def tw13112602605308666821 := ()
def tw4133008168940160603 := ()
def tw14040664367166360883 := ()
def tw12348080280833318284 := ()
def tw18039423281947950946 := ()
def tw4285768219857194784 := ()
def tw11271674045296235650 := ()
def tw2801425429566886141 := ()
def tw16909942083464798633 := ()
def tw8974150732880452261 := ()
def tw17741660079598134994 := ()
def tw6195125094925971484 := ()
def tw3642731303576841771 := ()
def tw3619354896827379073 := ()
def tw13179260711432474937 := ()
def tw10386211360629278435 := ()
def tw15925136935697881382 := ()
def tw4723042729682140438 := ()
def tw6441713258638123724 := ()
def tw15265702662953614829 := ()
def tw4834112728668062933 := ()
def tw2674959045890554433 := ()
def tw16299274420232648193 := ()
def tw15298878692379859518 := ()
def tw8588058311572378760 := ()
def tw10072539982246845042 := ()
def tw2495639583276559688 := ()
def tw16701799228923010718 := ()
def tw13811441862857608887 := ()
def tw10219591895352091776 := ()
def tw1575442364994476860 := ()
def tw15853722663547865079 := ()
def tw3613181228196123759 := ()
def tw2284233169315857187 := ()
def tw289427782386067074 := ()
def tw17590350376889779110 := ()
def tw2622466467931140253 := ()
def tw12782558452916612199 := ()
def tw7208340539138765801 := ()
def tw5560986292406885695 := ()
def tw9147022127393124284 := ()
def tw7064230697336213114 := ()
def tw11725578284939911929 := ()
def tw4114676087878473969 := ()
def tw5690300096009656877 := ()
def tw5946274088219257339 := ()
def tw14520520036237734142 := ()
def tw7641683970887480049 := ()
def tw91419130523477713 := ()
def tw15101820249287763785 := ()
def tw4118518833871290947 := ()
def tw3191385289269971780 := ()
def tw11278665932767239494 := ()
def tw7356714243559811660 := ()
def tw15222816003954098916 := ()
def tw11462349917301814560 := ()
def tw674926535413662923 := ()
def tw15798437973851826367 := ()
def tw2683362023138886318 := ()
def tw17739301066204243402 := ()
def tw8035037233114827691 := ()
def tw1916340872540928413 := ()
def tw17713196367582463673 := ()
def tw7222194380695113880 := ()
def tw14265532928674924390 := ()
def tw13515409517407312278 := ()
def tw16698235146428860074 := ()
def tw14131836140890131447 := ()
def tw11845256231717745430 := ()
def tw11985883858842444613 := ()
def tw7818262598611726496 := ()
def tw15463937703539279450 := ()
def tw11825837774628395731 := ()
def tw8110032201185896948 := ()
def tw3332649398666296970 := ()
def tw1364348077051301753 := ()
def tw16978807712571374526 := ()
def tw8567212343252935161 := ()
def tw13938404895880107968 := ()
def tw10546510998840701536 := ()
def tw16493611988235355689 := ()
def tw3406002972549841583 := ()
def tw6812658813508494760 := ()
def tw16815173073733883249 := ()
def tw7608276832755281656 := ()
def tw12539672306793006889 := ()
def tw8829086520921382539 := ()
def tw9880715948948994619 := ()
def tw10719586571359296679 := ()
end PySem.W.Fast
open PySem PySem.W PyProof.Rows
set_option maxRecDepth 100000 in
set_option maxHeartbeats 0 in
theorem PySem.Challenge.cw_growbook_k13_whole_followers_holds : PySem.Challenge.rw_growbook_k13_whole_followers.Holds := by
  w_on; o_law; k_head; (case hw => w_witness2)
  k_fill
  refine' L2.walk_ofT (l := PySem.Challenge.rw_growbook_k13_whole_followers) (n := 63) (k := 100) (x := "_law_script") (xn := "_law_numbering") (sp := My.spLaw) rfl (by decide) rfl ⟨rfl, by decide, by decide⟩ (fun w h Y => PySem.W.km_in_of Y) rfl ?ht ?hnt ?F ?S
  case ht =>
    intro w
    refine' L2.tabIn_mk ?a ?l ?c ?lc ?v
    (case a => k_is); (case l => k_is); (case c => exact rfl); (case lc => k_is); (case v => exact rfl)
  case hnt => intro w; kernel_rfl
  case F =>
    intro w mg fa h KX G hmg TB
    have F_split : L2.FunAt (L2.KOf KX) mg "split" My.sSplit := by
      dsimp only [L2.KOf]
      refine' L2.funAt_mk KX G ?a ?l ?c ?k
      case a | l | c | k => k_is
    have F_none : L2.FunAt (L2.KOf KX) mg "none_seal" My.sNone := by
      dsimp only [L2.KOf]
      refine' L2.funAt_mk KX G ?a ?l ?c ?k
      case a | l | c | k => k_is
    have F_leaf : L2.FunAt (L2.KOf KX) mg "leaf_seal" My.sLeafS := by
      dsimp only [L2.KOf]
      refine' L2.funAt_mk KX G ?a ?l ?c ?k
      case a | l | c | k => k_is
    have F_pair : L2.FunAt (L2.KOf KX) mg "pair_seal" My.sPair := by
      dsimp only [L2.KOf]
      refine' L2.funAt_mk KX G ?a ?l ?c ?k
      case a | l | c | k => k_is
    have F_book : L2.FunAt (L2.KOf KX) mg "book_seal" My.sBook := by
      dsimp only [L2.KOf]
      refine' L2.funAt_mk KX G ?a ?l ?c ?k
      case a | l | c | k => k_is
    have F_top : L2.FunAt (L2.KOf KX) mg "top_of" My.sTop := by
      dsimp only [L2.KOf]
      refine' L2.funAt_mk KX G ?a ?l ?c ?k
      case a | l | c | k => k_is
    have F_path : L2.FunAt (L2.KOf KX) mg "path_of" My.sPath := by
      dsimp only [L2.KOf]
      refine' L2.funAt_mk KX G ?a ?l ?c ?k
      case a | l | c | k => k_is
    have F_grow : L2.FunAt (L2.KOf KX) mg "growth_of" My.sGrow := by
      dsimp only [L2.KOf]
      refine' L2.funAt_mk KX G ?a ?l ?c ?k
      case a | l | c | k => k_is
    have F_turns : L2.FunAt (L2.KOf KX) mg "turns_of" My.sTurns := by
      dsimp only [L2.KOf]
      refine' L2.funAt_mk KX G ?a ?l ?c ?k
      case a | l | c | k => k_is
    have F_risen : L2.FunAt (L2.KOf KX) mg "risen" My.sRisen := by
      dsimp only [L2.KOf]
      refine' L2.funAt_mk KX G ?a ?l ?c ?k
      case a | l | c | k => k_is
    have F_gturns : L2.FunAt (L2.KOf KX) mg "growth_turns" My.sGturns := by
      dsimp only [L2.KOf]
      refine' L2.funAt_mk KX G ?a ?l ?c ?k
      case a | l | c | k => k_is
    have F_grown : L2.FunAt (L2.KOf KX) mg "grown" My.sGrown := by
      dsimp only [L2.KOf]
      refine' L2.funAt_mk KX G ?a ?l ?c ?k
      case a | l | c | k => k_is
    have F_row : L2.FunAt (L2.KOf KX) mg "row_seal" My.sRow := by
      dsimp only [L2.KOf]
      refine' L2.funAt_mk KX G ?a ?l ?c ?k
      case a | l | c | k => k_is
    have F_fork : L2.FunAt (L2.KOf KX) mg "fork_seal" My.sFork := by
      dsimp only [L2.KOf]
      refine' L2.funAt_mk KX G ?a ?l ?c ?k
      case a | l | c | k => k_is
    have F_tabs : L2.FunAt (L2.KOf KX) mg "table_seal" My.sTabS := by
      dsimp only [L2.KOf]
      refine' L2.funAt_mk KX G ?a ?l ?c ?k
      case a | l | c | k => k_is
    have F_part : L2.FunAt (L2.KOf KX) mg "part_of" My.sPartOf := by
      dsimp only [L2.KOf]
      refine' L2.funAt_mk KX G ?a ?l ?c ?k
      case a | l | c | k => k_is
    have F_topp : L2.FunAt (L2.KOf KX) mg "top_of_part" My.sTopPart := by
      dsimp only [L2.KOf]
      refine' L2.funAt_mk KX G ?a ?l ?c ?k
      case a | l | c | k => k_is
    have F_same : L2.FunAt (L2.KOf KX) mg "same" My.sSame := by
      dsimp only [L2.KOf]
      refine' L2.funAt_mk KX G ?a ?l ?c ?k
      case a | l | c | k => k_is
    have F_lst : L2.FunAt (L2.KOf KX) mg "leaf_stands" My.sLStands := by
      dsimp only [L2.KOf]
      refine' L2.funAt_mk KX G ?a ?l ?c ?k
      case a | l | c | k => k_is
    have F_reada : L2.FunAt (L2.KOf KX) mg "read_at" My.sReadAt := by
      dsimp only [L2.KOf]
      refine' L2.funAt_mk KX G ?a ?l ?c ?k
      case a | l | c | k => k_is
    have F_chg : L2.FunAt (L2.KOf KX) mg "changed" My.sChanged := by
      dsimp only [L2.KOf]
      refine' L2.funAt_mk KX G ?a ?l ?c ?k
      case a | l | c | k => k_is
    have F_ckp : L2.FunAt (L2.KOf KX) mg "check_place" My.sCheckP := by
      dsimp only [L2.KOf]
      refine' L2.funAt_mk KX G ?a ?l ?c ?k
      case a | l | c | k => k_is
    have F_cell : L2.FunAt (L2.KOf KX) mg "_law_cell_at" My.sCell := by
      dsimp only [L2.KOf]
      refine' L2.funAt_mk KX G ?a ?l ?c ?k
      case a | l | c | k => k_is
    have F_plain : L2.FunAt (L2.KOf KX) mg "_law_plain" My.sPlain := by
      dsimp only [L2.KOf]
      refine' L2.funAt_mk KX G ?a ?l ?c ?k
      case a | l | c | k => k_is
    have F_turned : L2.FunAt (L2.KOf KX) mg "_law_turned" My.sTurned := by
      dsimp only [L2.KOf]
      refine' L2.funAt_mk KX G ?a ?l ?c ?k
      case a | l | c | k => k_is
    have F_numbering : L2.FunAt (L2.KOf KX) mg "_law_numbering" My.sNumbering := by
      dsimp only [L2.KOf]
      refine' L2.funAt_mk KX G ?a ?l ?c ?k
      case a | l | c | k => k_is
    have F_sealby : L2.FunAt (L2.KOf KX) mg "_law_seal_by" My.sSealBy := by
      dsimp only [L2.KOf]
      refine' L2.funAt_mk KX G ?a ?l ?c ?k
      case a | l | c | k => k_is
    have F_draw : L2.FunAt (L2.KOf KX) mg "_law_draw" My.sDraw := by
      dsimp only [L2.KOf]
      refine' L2.funAt_mk KX G ?a ?l ?c ?k
      case a | l | c | k => k_is
    have F_word : L2.FunAt (L2.KOf KX) mg "_law_word" My.sWord := by
      dsimp only [L2.KOf]
      refine' L2.funAt_mk KX G ?a ?l ?c ?k
      case a | l | c | k => k_is
    have F_lsplit : L2.FunAt (L2.KOf KX) mg "_law_split" My.sLsplit := by
      dsimp only [L2.KOf]
      refine' L2.funAt_mk KX G ?a ?l ?c ?k
      case a | l | c | k => k_is
    have F_ltop : L2.FunAt (L2.KOf KX) mg "_law_top" My.sLtop := by
      dsimp only [L2.KOf]
      refine' L2.funAt_mk KX G ?a ?l ?c ?k
      case a | l | c | k => k_is
    have F_lpath : L2.FunAt (L2.KOf KX) mg "_law_path" My.sLpath := by
      dsimp only [L2.KOf]
      refine' L2.funAt_mk KX G ?a ?l ?c ?k
      case a | l | c | k => k_is
    have F_lgrow : L2.FunAt (L2.KOf KX) mg "_law_growth" My.sLgrow := by
      dsimp only [L2.KOf]
      refine' L2.funAt_mk KX G ?a ?l ?c ?k
      case a | l | c | k => k_is
    have F_books : L2.FunAt (L2.KOf KX) mg "_law_books" My.sBooks := by
      dsimp only [L2.KOf]
      refine' L2.funAt_mk KX G ?a ?l ?c ?k
      case a | l | c | k => k_is
    have F_lleaves : L2.FunAt (L2.KOf KX) mg "_law_leaves" My.sLLeaves := by
      dsimp only [L2.KOf]
      refine' L2.funAt_mk KX G ?a ?l ?c ?k
      case a | l | c | k => k_is
    have F_lhead : L2.FunAt (L2.KOf KX) mg "_law_head" My.sLhead := by
      dsimp only [L2.KOf]
      refine' L2.funAt_mk KX G ?a ?l ?c ?k
      case a | l | c | k => k_is
    have F_bent : L2.FunAt (L2.KOf KX) mg "_law_bent" My.sBent := by
      dsimp only [L2.KOf]
      refine' L2.funAt_mk KX G ?a ?l ?c ?k
      case a | l | c | k => k_is
    have F_off : L2.FunAt (L2.KOf KX) mg "_law_offered" My.sOffered := by
      dsimp only [L2.KOf]
      refine' L2.funAt_mk KX G ?a ?l ?c ?k
      case a | l | c | k => k_is
    have F_jud : L2.FunAt (L2.KOf KX) mg "_law_judged" My.sJudged := by
      dsimp only [L2.KOf]
      refine' L2.funAt_mk KX G ?a ?l ?c ?k
      case a | l | c | k => k_is
    have F_kept : L2.FunAt (L2.KOf KX) mg "_law_kept" My.sKept := by
      dsimp only [L2.KOf]
      refine' L2.funAt_mk KX G ?a ?l ?c ?k
      case a | l | c | k => k_is
    have F_law : L2.FunAt (L2.KOf KX) mg "law" My.sLaw := by
      dsimp only [L2.KOf]
      refine' L2.funAt_mk KX G ?a ?l ?c ?k
      case a | l | c | k => k_is
    have z0 : mg "len" = none := by
      refine' PySem.W.mg_none_of KX G ?z; (case z => k_is)
    have z1 : mg "list" = none := by
      refine' PySem.W.mg_none_of KX G ?z; (case z => k_is)
    have z2 : mg "range" = none := by
      refine' PySem.W.mg_none_of KX G ?z; (case z => k_is)
    have z3 : mg "isinstance" = none := by
      refine' PySem.W.mg_none_of KX G ?z; (case z => k_is)
    have z4 : mg "tuple" = none := by
      refine' PySem.W.mg_none_of KX G ?z; (case z => k_is)
    have z5 : mg "zip" = none := by
      refine' PySem.W.mg_none_of KX G ?z; (case z => k_is)
    have z6 : mg "reversed" = none := by
      refine' PySem.W.mg_none_of KX G ?z; (case z => k_is)
    have z7 : mg "bool" = none := by
      refine' PySem.W.mg_none_of KX G ?z; (case z => k_is)
    have z8 : mg "min" = none := by
      refine' PySem.W.mg_none_of KX G ?z; (case z => k_is)
    have z9 : mg "int" = none := by
      refine' PySem.W.mg_none_of KX G ?z; (case z => k_is)
    have z10 : mg "sorted" = none := by
      refine' PySem.W.mg_none_of KX G ?z; (case z => k_is)
    have z11 : mg "dict" = none := by
      refine' PySem.W.mg_none_of KX G ?z; (case z => k_is)
    have z12 : mg "enumerate" = none := by
      refine' PySem.W.mg_none_of KX G ?z; (case z => k_is)
    obtain ⟨cP, XC, HP⟩ : ∃ cP, L2.XCls (L2.KOf KX) cP ∧ mg "BadPaper" = some (.ref cP) := by
      dsimp only [L2.KOf]
      refine' My.err_mk KX G ?a1 ?lB ?lk ?l1 ?l2 ?e1 ?e2 ?b1 ?b2 ?b3 ?b4 ?c1 ?c2 ?c3 ?c4 ?ga ?gn ?fo ?sp ?tk ?mo
      (case a1 | lk | lB | l1 | l2 => k_is); (case e1 => rfl); (case e2 => rfl); (case b1 | b2 | b3 | b4 | c1 | c2 | c3 | c4 | ga | gn | fo | sp | tk | mo => k_is)
    obtain ⟨cG, cD, TG, MG, G_init, G_judged, G_none⟩ : ∃ C cC, My.TxG (L2.KOf KX) mg C cC ∧ (∃ fI, L2.Mk (L2.KOf KX) C fI) ∧ L2.MethAt (L2.KOf KX) C "__init__" "Grows.__init__" My.mGInit ∧ L2.MethAt (L2.KOf KX) C "judged" "Grows.judged" My.mGJudged ∧ L2.MethAt (L2.KOf KX) C "judged_from_none" "Grows.judged_from_none" My.mGNone := by
      dsimp only [L2.KOf]
      refine' My.gw_mk KX G ?aC ?pg ?hd ?po ?sa ?mk ?kc ?n0 ?n1 ?aI ?iI ?aB ?lB ?fo ?sp ?tk ?mo ?kB ?ne ?m0 ?m1 ?m2
      (case aC | pg | hd | po | sa | mk | kc | n0 | n1 | aI | iI | aB | lB | fo | sp | tk | mo | kB => k_is); (case ne => decide)
      case m0 =>
        refine' L2.methAt_mk ?a ?i ?l ?c ?k
        case a | i | l | c | k => k_is
      case m1 =>
        refine' L2.methAt_mk ?a ?i ?l ?c ?k
        case a | i | l | c | k => k_is
      case m2 =>
        refine' L2.methAt_mk ?a ?i ?l ?c ?k
        case a | i | l | c | k => k_is
    obtain ⟨cS, cC, TS, MS, S_init, S_judged⟩ : ∃ C cC, My.TxS (L2.KOf KX) mg C cC ∧ (∃ fI, L2.Mk (L2.KOf KX) C fI) ∧ L2.MethAt (L2.KOf KX) C "__init__" "Stands.__init__" My.mSInit ∧ L2.MethAt (L2.KOf KX) C "judged" "Stands.judged" My.mSJudged := by
      dsimp only [L2.KOf]
      refine' My.st_mk KX G ?aC ?pg ?hd ?po ?sa ?mk ?kc ?n0 ?n1 ?n2 ?aI ?iI ?aB ?lB ?fo ?sp ?tk ?mo ?kB ?ne ?m0 ?m1
      (case aC | pg | hd | po | sa | mk | kc | n0 | n1 | n2 | aI | iI | aB | lB | fo | sp | tk | mo | kB => k_is); (case ne => decide)
      case m0 =>
        refine' L2.methAt_mk ?a ?i ?l ?c ?k
        case a | i | l | c | k => k_is
      case m1 =>
        refine' L2.methAt_mk ?a ?i ?l ?c ?k
        case a | i | l | c | k => k_is
    obtain ⟨cF, TF, MF, F_finit, F_take, F_judge, F_size, F_head⟩ : ∃ C, My.TxF (L2.KOf KX) mg C ∧ (∃ fI, L2.Mk (L2.KOf KX) C fI) ∧ L2.MethAt (L2.KOf KX) C "__init__" "Follower.__init__" My.mFInit ∧ L2.MethAt (L2.KOf KX) C "take" "Follower.take" My.mFTake ∧ L2.MethAt (L2.KOf KX) C "judge" "Follower.judge" My.mFJudge ∧ L2.MethAt (L2.KOf KX) C "size" "Follower.size" My.mFSize ∧ L2.MethAt (L2.KOf KX) C "head" "Follower.head" My.mFHead := by
      dsimp only [L2.KOf]
      refine' My.fol_mk KX G ?aC ?pg ?hd ?po ?sa ?mk ?kc ?n0 ?n1 ?n2 ?aI ?iI ?m0 ?m1 ?m2 ?m3 ?m4
      (case aC | pg | hd | po | sa | mk | kc | n0 | n1 | n2 | aI | iI => k_is)
      case m0 =>
        refine' L2.methAt_mk ?a ?i ?l ?c ?k
        case a | i | l | c | k => k_is
      case m1 =>
        refine' L2.methAt_mk ?a ?i ?l ?c ?k
        case a | i | l | c | k => k_is
      case m2 =>
        refine' L2.methAt_mk ?a ?i ?l ?c ?k
        case a | i | l | c | k => k_is
      case m3 =>
        refine' L2.methAt_mk ?a ?i ?l ?c ?k
        case a | i | l | c | k => k_is
      case m4 =>
        refine' L2.methAt_mk ?a ?i ?l ?c ?k
        case a | i | l | c | k => k_is
    obtain ⟨cT, TT, MT, T_init, T_head, T_twin, T_rows⟩ : ∃ C, My.Txt (L2.KOf KX) mg C ∧ (∃ fI, L2.Mk (L2.KOf KX) C fI) ∧ L2.MethD (L2.KOf KX) C "__init__" "Table.__init__" My.mInit [8] ∧ L2.MethAt (L2.KOf KX) C "head" "Table.head" My.mHead ∧ L2.MethAt (L2.KOf KX) C "twin" "Table.twin" My.mTwin ∧ L2.MethAt (L2.KOf KX) C "rows" "Table.rows" My.mRows := by
      dsimp only [L2.KOf]
      refine' My.tab_mk KX G ?aC ?pg ?hd ?po ?sa ?mk ?kc ?n0 ?n1 ?n2 ?aI ?iI ?m0 ?m1 ?m2 ?m3
      (case aC | pg | hd | po | sa | mk | kc | n0 | n1 | n2 | aI | iI => k_is)
      case m0 =>
        refine' L2.methD_mk ?a ?i ?l ?c ?k ?t
        case a | i | l | c | k | t => k_is
      case m1 =>
        refine' L2.methAt_mk ?a ?i ?l ?c ?k
        case a | i | l | c | k => k_is
      case m2 =>
        refine' L2.methAt_mk ?a ?i ?l ?c ?k
        case a | i | l | c | k => k_is
      case m3 =>
        refine' L2.methAt_mk ?a ?i ?l ?c ?k
        case a | i | l | c | k => k_is
    obtain ⟨C, TK, MK, K_init, K_add, K_sow, K_head, K_path, K_growth⟩ : ∃ C, My.TxK (L2.KOf KX) mg C ∧ (∃ fI, L2.Mk (L2.KOf KX) C fI) ∧ L2.MethV (L2.KOf KX) C "__init__" "Keeper.__init__" My.kInit (.int 8) ∧ L2.MethAt (L2.KOf KX) C "add" "Keeper.add" My.kAdd ∧ L2.MethAt (L2.KOf KX) C "size_or_whole" "Keeper.size_or_whole" My.kSow ∧ L2.MethV (L2.KOf KX) C "head" "Keeper.head" My.kHead .non ∧ L2.MethV (L2.KOf KX) C "path" "Keeper.path" My.kPath .non ∧ L2.MethV (L2.KOf KX) C "growth" "Keeper.growth" My.kGrowth .non := by
      dsimp only [L2.KOf]
      refine' My.keep_mk KX G ?aC ?pg ?hd ?po ?sa ?mk ?kc ?n0 ?n1 ?n2 ?n3 ?n4 ?aI ?iI ?m0 ?m1 ?m2 ?m3 ?m4 ?m5
      (case aC | pg | hd | po | sa | mk | kc | n0 | n1 | n2 | n3 | n4 | aI | iI => k_is)
      case m0 =>
        refine' L2.methV_mk ?a ?i ?l ?c ?k ?t ?r
        case a | i | l | c | k | t => k_is
        (case r => exact ⟨_, rfl⟩)
      case m1 =>
        refine' L2.methAt_mk ?a ?i ?l ?c ?k
        case a | i | l | c | k => k_is
      case m2 =>
        refine' L2.methAt_mk ?a ?i ?l ?c ?k
        case a | i | l | c | k => k_is
      case m3 =>
        refine' L2.methV_mk ?a ?i ?l ?c ?k ?t ?r
        case a | i | l | c | k | t => k_is
        (case r => exact rfl)
      case m4 =>
        refine' L2.methV_mk ?a ?i ?l ?c ?k ?t ?r
        case a | i | l | c | k | t => k_is
        (case r => exact rfl)
      case m5 =>
        refine' L2.methV_mk ?a ?i ?l ?c ?k ?t ?r
        case a | i | l | c | k | t => k_is
        (case r => exact rfl)
    obtain ⟨fd, hb, hF⟩ := L2.law_fn (x := "_law_script") (ps := ["_law_script"]) hmg F_law (fun base kb nb hC hB => My.all_ok (P := PySem.Challenge.rw_growbook_k13_whole_followers.prog) (w := w) (base := base) kb nb ⟨hC, hB, TB⟩ F_split F_none F_leaf F_pair F_book F_top F_path F_grow F_turns F_risen F_gturns F_grown F_row F_fork F_tabs F_part F_topp F_same F_lst F_reada F_chg F_ckp F_cell F_plain F_turned F_numbering F_sealby F_draw F_word F_lsplit F_ltop F_lpath F_lgrow F_books F_lleaves F_lhead F_bent F_off F_jud F_kept F_law z0 z1 z2 z3 z4 z5 z6 z7 z8 z9 z10 z11 z12 XC HP TG MG G_init G_judged G_none TS MS S_init S_judged TF MF F_finit F_take F_judge F_size F_head TT MT T_init T_head T_twin T_rows TK MK K_init K_add K_sow K_head K_path K_growth)
    exact ⟨fd, hb, hF⟩
  case S =>
    intro K mg Pt H a ns hl hS hScr hP
    exact ⟨a, ns, rfl, My.sqF_of hS hScr, hl, hP, fun _ => rfl⟩
#print axioms PySem.Challenge.cw_growbook_k13_whole_followers_holds
