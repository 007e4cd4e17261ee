import PyProof.Rows.All
import Wide.All
import OpenK.AllK
import Wide.FinOn
import Lean
import PyProof.EqAt
import PyProof.EqKinds
import PyProof.TupleCall
import PySem.Challenge.RW_growbook_k14_no_two
set_option Elab.async false
set_option linter.all false
set_option maxRecDepth 100000
set_option maxHeartbeats 4000000
namespace L2
open PySem PySem.Spec PyProof.Rows
abbrev Key := Sum Int Str
def keyIs : Key → Value → Bool
  | .inl k, v => Value.isInt k v
  | .inr x, v => Value.isStrOf x v
def keyH (w : World) : Key → Int
  | .inl k => hashInt k
  | .inr x => hashStr w x
theorem keyIs_shape : ∀ {k : Key} {v : Value}, keyIs k v = true → (∃ i t, k = Sum.inl i ∧ v = Value.int i t) ∨ (∃ x t, k = Sum.inr x ∧ v = Value.str x t)
  | .inl i, v, h => by
    obtain ⟨t, e⟩ := Value.isInt_shape (k := i) (v := v) h
    exact .inl ⟨i, t, rfl, e⟩
  | .inr x, v, h => by
    obtain ⟨t, e⟩ := Value.isStrOf_shape (x := x) (v := v) h
    exact .inr ⟨x, t, rfl, e⟩
theorem key_ll (a b : Int) : decide ((Sum.inl a : Key) = Sum.inl b) = (a == b) := by
  by_cases e : a = b
  · subst e; simp
  · have h : ¬ (Sum.inl a : Key) = Sum.inl b := fun q => e (Sum.inl.inj q)
    rw [decide_eq_false h]
    exact (beq_eq_false_iff_ne.mpr e).symm
theorem key_rr (a b : Str) : decide ((Sum.inr a : Key) = Sum.inr b) = decide (a = b) := by
  by_cases e : a = b
  · subst e; simp
  · have h : ¬ (Sum.inr a : Key) = Sum.inr b := fun q => e (Sum.inr.inj q)
    rw [decide_eq_false h, decide_eq_false e]
theorem key_lr (a : Int) (b : Str) : decide ((Sum.inl a : Key) = Sum.inr b) = false := decide_eq_false (fun q => nomatch q)
theorem key_rl (a : Str) (b : Int) : decide ((Sum.inr a : Key) = Sum.inl b) = false := decide_eq_false (fun q => nomatch q)
def mixKind (prog : Program) (w : World) : PySem.KeyKind prog w Key where
  is := keyIs
  hash := keyH w
  inj := fun v a b ha hb => by
    rcases keyIs_shape ha with ⟨i, t, rfl, rfl⟩ | ⟨x, t, rfl, rfl⟩
    · rcases keyIs_shape hb with ⟨j, u, rfl, e⟩ | ⟨y, u, rfl, e⟩
      · injection e with e1 _; rw [e1]
      · exact nomatch e
    · rcases keyIs_shape hb with ⟨j, u, rfl, e⟩ | ⟨y, u, rfl, e⟩
      · exact nomatch e
      · injection e with e1 _; rw [e1]
  byValue := fun k v h => by
    rcases keyIs_shape h with ⟨i, t, rfl, rfl⟩ | ⟨x, t, rfl, rfl⟩ <;> rfl
  pyHash := fun hv h => by
    rcases keyIs_shape hv with ⟨i, t, rfl, rfl⟩ | ⟨x, t, rfl, rfl⟩
    · exact wpAny_pyHash_int h
    · exact wpAny_pyHash_str h
  eqBool := fun hu hv h => by
    rcases keyIs_shape hu with ⟨i, t, rfl, rfl⟩ | ⟨x, t, rfl, rfl⟩
    · rcases keyIs_shape hv with ⟨j, u, rfl, rfl⟩ | ⟨y, u, rfl, rfl⟩
      · rw [key_ll] at h; exact wpAny_eqBool_int h
      · rw [key_lr] at h; exact SeqAt.EqAt.int_str i t y u _ _ _ _ h
    · rcases keyIs_shape hv with ⟨j, u, rfl, rfl⟩ | ⟨y, u, rfl, rfl⟩
      · rw [key_rl] at h; exact SeqAt.EqAt.str_int x t j u _ _ _ _ h
      · rw [key_rr] at h; exact wpAny_eqBool_str h
  «strs» := fun k x t v h => by
    rcases keyIs_shape h with ⟨i, u, rfl, e⟩ | ⟨y, u, rfl, e⟩
    · exact nomatch e
    · injection e with e1 _
      subst e1
      cases v <;> rfl
end L2
namespace L2
open PySem PySem.Spec PyProof.Rows
inductive V where
  | non | bl (b : Bool) | int (i : Int) | str (x : Str) | byt (b : Array UInt8) | flt (b : UInt64) | ref (a : Addr) | ty (n : String)
  deriving DecidableEq
def RelV : V → Value → Prop
  | .non, u => u = Value.none
  | .bl b, u => u = Value.bool b
  | .int i, u => ∃ t, u = Value.int i t
  | .str x, u => ∃ t, u = Value.str x t
  | .byt b, u => ∃ t, u = Value.bytes b t
  | .flt b, u => ∃ t, u = Value.float b t
  | .ref a, u => u = Value.ref a
  | .ty n, u => u = Value.type n
abbrev Vals : List V → List Value → Prop := Paired RelV
theorem Vals.length {xs : List V} {us : List Value} (r : Vals xs us) : xs.length = us.length := Paired.length r
theorem Vals.get : ∀ {xs : List V} {us : List Value} {i : Nat} {x : V}, Vals xs us → xs[i]? = some x → ∃ u, us[i]? = some u ∧ RelV x u
  | _, _, _, _, .nil, e => by simp at e
  | _, _, 0, _, .cons r _, e => by simp at e; subst e; exact ⟨_, rfl, r⟩
  | _, _, i + 1, x, .cons _ t, e => by
    obtain ⟨u, h1, h2⟩ := Vals.get (i := i) (x := x) t (by simpa using e)
    exact ⟨u, by simpa using h1, h2⟩
theorem Vals.append : ∀ {xs ys : List V} {us ws : List Value}, Vals xs us → Vals ys ws → Vals (xs ++ ys) (us ++ ws)
  | _, _, _, _, .nil, s => s
  | _, _, _, _, .cons r t, s => .cons r (Vals.append t s)
theorem Vals.take : ∀ {xs : List V} {us : List Value} (n : Nat), Vals xs us → Vals (xs.take n) (us.take n)
  | _, _, 0, _ => .nil
  | _, _, _ + 1, .nil => .nil
  | _, _, n + 1, .cons r t => .cons r (Vals.take n t)
theorem Vals.drop : ∀ {xs : List V} {us : List Value} (n : Nat), Vals xs us → Vals (xs.drop n) (us.drop n)
  | _, _, 0, r => r
  | _, _, _ + 1, .nil => .nil
  | _, _, n + 1, .cons _ t => Vals.drop n t
def RelO : Option V → Option Value → Prop
  | some v, some u => RelV v u
  | none, none => True
  | _, _ => False
def KV {κ : Type} : List (κ × V) → List (κ × Value) → Prop := Paired fun (p : κ × V) (q : κ × Value) => p.1 = q.1 ∧ RelV p.2 q.2
def kV : Key → V
  | .inl i => .int i
  | .inr x => .str x
inductive HO where
    | lst (xs : List V)
    | tup (xs : List V)
    | dK (kvs : List (Key × V)) | dT (kvs : List (List Key × V))
    | set (S : Int → Bool) (n : Nat)
    | ins (C dx : Addr) (fs : List (Str × V))
    | own (x : Addr)
    | xd (fs : List (Str × V))
    | met (f x : Addr)
    | rng (lo hi : Int)
    | frz (o : Obj) (u : HO)
    | tbl (ps : Array Value)
    | ext (φ : Heap → Prop)
abbrev Hp := Addr → Option HO
def upd (H : Hp) (a : Addr) (o : HO) : Hp := fun b => if b = a then some o else H b
theorem upd_same {H : Hp} {a : Addr} {o : HO} : upd H a o a = some o := by unfold upd; rw [if_pos rfl]
theorem upd_ne {H : Hp} {a b : Addr} {o : HO} (h : b ≠ a) : upd H a o b = H b := by unfold upd; rw [if_neg h]
theorem upd_upd {H : Hp} {a : Addr} {o u : HO} : upd (upd H a o) a u = upd H a u := by
  funext b; unfold upd; split <;> rfl
theorem ne_of_none {H : Hp} {a b : Addr} {o : HO} (h : H a = some o) (h' : H b = none) : a ≠ b := by
  intro e; subst e; rw [h] at h'; cases h'
section
variable (P : Program) (w : World)
def ObjOk (H : Hp) (h : Heap) (a : Addr) : HO → Prop
  | .lst xs => xs.length ≤ sizeLine ∧ ∃ (its : List Value) (n : Nat), Vals xs its ∧ h.get? a = some { cls := .type "list", data := .seq its.toArray n }
  | .tup xs => xs.length ≤ sizeLine ∧ ∃ its : List Value, Vals xs its ∧ IsTup h a its.toArray
  | .dK kvs => kvs.length ≤ sizeLine ∧ (a == sysModules) = false ∧ ∃ vs, KV kvs vs ∧ h.DictOf (mixKind P w) a vs
  | .dT kvs => kvs.length ≤ sizeLine ∧ (a == sysModules) = false ∧ ∃ xs : List (List Key × Addr × Value),
      Paired (fun (p : List Key × V) (q : List Key × Addr × Value) => p.1 = q.1 ∧ H q.2.1 = some (.tup (p.1.map kV)) ∧ RelV p.2 q.2.2) kvs xs ∧
      ∃ o es ep, h.get? a = some o ∧ o.ExactDict ∧ o.data = .dict es ep ∧ es.toList = xs.map (entryOfKey (tupleKind (mixKind P w))) ∧ (xs.map (·.1)).Nodup
  | .set S n => h.SetOf (intKind P w) a S n
  | .ins C dx fs => H dx = some (.own a) ∧ fs.length ≤ 1000 ∧ dx ≠ a ∧ h.get? a = some (PySem.W.instObj C dx) ∧
      ∃ mA, h.Ns1 dx mA ∧ (∀ f, RelO (fs.lookup f) (mA f)) ∧ PySem.Within mA (fs.map (·.1))
  | .own _ => ∃ o, h.get? a = some o
  | .xd fs => ∃ mA, h.Ns1 a mA ∧ ∀ f, RelO (fs.lookup f) (mA f)
  | .rng lo hi => ∃ t u v, h.get? a = some { cls := .type "range", data := .fields #[.int lo t, .int hi u, .int 1 v] }
  | .frz o u => h.get? a = some o ∧ ObjOk H h a u
  | .tbl ps => h.get? a = some { cls := .none, data := .fields ps }
  | .met f x => h.get? a = some (PySem.W.methodObj (.ref f) (.ref x))
  | .ext φ => φ h ∧ (∃ o, h.get? a = some o) ∧ ∀ h1 h2 : Heap, φ h1 → (∀ o, h1.get? a = some o → h2.get? a = some o) → φ h2
def HOk (H : Hp) (h : Heap) : Prop := ∀ a o, H a = some o → ObjOk P w H h a o
end
section
variable {P : Program} {w : World} {H H' : Hp} {h h' : Heap} {a : Addr} {o : HO}
theorem ObjOk.lt (x : ObjOk P w H h a o) : a < h.objs.size := by
  cases o with
  | lst xs => obtain ⟨_, _, _, _, e⟩ := x; exact Heap.lt_size e
  | tup xs => obtain ⟨_, _, _, p⟩ := x; exact p.lt
  | dK kvs => obtain ⟨_, _, _, _, o, _, _, e, _⟩ := x; exact Heap.lt_size e
  | dT kvs => obtain ⟨_, _, _, _, o, _, _, e, _⟩ := x; exact Heap.lt_size e
  | set S n => obtain ⟨o, _, _, _, e, _⟩ := x; exact Heap.lt_size e
  | ins C dx fs => obtain ⟨_, _, _, e, _⟩ := x; exact Heap.lt_size e
  | own y => obtain ⟨_, e⟩ := x; exact Heap.lt_size e
  | xd fs => obtain ⟨_, ⟨_, _, _, e, _⟩, _⟩ := x; exact Heap.lt_size e
  | rng lo hi => obtain ⟨_, _, _, e⟩ := x; exact Heap.lt_size e
  | frz ob u => obtain ⟨e, _⟩ := x; exact Heap.lt_size e
  | tbl ps => exact Heap.lt_size (show h.get? a = some _ from x)
  | met f y => exact Heap.lt_size (show h.get? a = some _ from x)
  | ext φ => obtain ⟨_, ⟨_, e⟩, _⟩ := x; exact Heap.lt_size e
theorem Paired.mapP {α β : Type} {F G : α → β → Prop} : ∀ {l₁ : List α} {l₂ : List β}, Paired F l₁ l₂ → (∀ a b, F a b → G a b) → Paired G l₁ l₂
  | _, _, .nil, _ => .nil
  | _, _, .cons r t, f => .cons (f _ _ r) (Paired.mapP t f)
theorem ObjOk.stay (x : ObjOk P w H h a o) (k : ∀ b u, (b = a ∨ H b = some (.own a)) → h.get? b = some u → h'.get? b = some u)
    (ho : ∀ b, H b = some (.own a) → H' b = some (.own a)) (ht : ∀ b xs, H b = some (.tup xs) → H' b = some (.tup xs)) : ObjOk P w H' h' a o := by
  induction o with
  | lst xs => obtain ⟨z, its, n, r, e⟩ := x; exact ⟨z, its, n, r, k _ _ (.inl rfl) e⟩
  | tup xs => obtain ⟨z, its, r, ob, e, c⟩ := x; exact ⟨z, its, r, ob, k _ _ (.inl rfl) e, c⟩
  | dK kvs => obtain ⟨z, y, vs, r, ob, es, ep, e, c⟩ := x; exact ⟨z, y, vs, r, ob, es, ep, k _ _ (.inl rfl) e, c⟩
  | dT kvs =>
    obtain ⟨z, y, xs, r, ob, es, ep, e, c⟩ := x
    exact ⟨z, y, xs, Paired.mapP r fun p q z => ⟨z.1, ht _ _ z.2.1, z.2.2⟩, ob, es, ep, k _ _ (.inl rfl) e, c⟩
  | set S n => obtain ⟨ob, es, ep, t, e, c⟩ := x; exact ⟨ob, es, ep, t, k _ _ (.inl rfl) e, c⟩
  | ins C dx fs =>
    obtain ⟨d, z, ne, e, mA, ⟨od, es, ep, e2, c⟩, r⟩ := x
    exact ⟨ho _ d, z, ne, k _ _ (.inl rfl) e, mA, ⟨od, es, ep, k _ _ (.inr d) e2, c⟩, r⟩
  | own y => obtain ⟨ob, e⟩ := x; exact ⟨ob, k _ _ (.inl rfl) e⟩
  | xd fs => obtain ⟨mA, ⟨od, es, ep, e, c⟩, r⟩ := x; exact ⟨mA, ⟨od, es, ep, k _ _ (.inl rfl) e, c⟩, r⟩
  | rng lo hi => obtain ⟨t, u, v, e⟩ := x; exact ⟨t, u, v, k _ _ (.inl rfl) e⟩
  | frz ob u ih => obtain ⟨e, q⟩ := x; exact ⟨k _ _ (.inl rfl) e, ih q⟩
  | tbl ps =>
    have e : h.get? a = some { cls := .none, data := .fields ps } := x
    show h'.get? a = some { cls := .none, data := .fields ps }
    exact k a _ (.inl rfl) e
  | met f y =>
    have e : h.get? a = some (PySem.W.methodObj (.ref f) (.ref y)) := x
    show h'.get? a = some (PySem.W.methodObj (.ref f) (.ref y))
    exact k a _ (.inl rfl) e
  | ext φ => obtain ⟨p, ⟨o, e⟩, st⟩ := x; exact ⟨st _ _ p fun o q => k _ _ (.inl rfl) q, ⟨o, k _ _ (.inl rfl) e⟩, st⟩
theorem HOk.lt (x : HOk P w H h) (e : H a = some o) : a < h.objs.size := (x a o e).lt
theorem HOk.fresh (x : HOk P w H h) (e : h.objs.size ≤ a) : H a = none := by
  cases q : H a with
  | none => rfl
  | some u => exact absurd (Nat.lt_of_lt_of_le (x.lt q) e) (Nat.lt_irrefl _)
theorem HOk.kept (x : HOk P w H h) (k : ∀ b u, h.get? b = some u → h'.get? b = some u) : HOk P w H h' := fun a o e =>
  (x a o e).stay (fun b u _ q => k b u q) (fun _ q => q) fun _ _ q => q
theorem HOk.laid (x : HOk P w H h) (k : ∀ b u, h.get? b = some u → h'.get? b = some u) (hp : h.objs.size ≤ a) (new : ObjOk P w (upd H a o) h' a o) : HOk P w (upd H a o) h' := fun b u e => by
  have hn := x.fresh hp
  by_cases hb : b = a
  · subst hb; rw [upd_same] at e; cases e; exact new
  · rw [upd_ne hb] at e
    exact (x b u e).stay (fun c v _ q => k c v q) (fun c q => by rw [upd_ne (ne_of_none q hn)]; exact q) fun c xs q => by rw [upd_ne (ne_of_none q hn)]; exact q
end
def Rd (H : Hp) (a : Addr) (u : HO) : Prop := H a = some u ∨ ∃ o, H a = some (.frz o u)
theorem Rd.ok {P : Program} {w : World} {H : Hp} {h : Heap} {a : Addr} {u : HO} (r : Rd H a u) (x : HOk P w H h) : ObjOk P w H h a u := by
  rcases r with r | ⟨o, r⟩
  · exact x a u r
  · obtain ⟨_, q⟩ := x a _ r
    exact q
def Mut : Option HO → Prop
  | some (.lst _) => True
  | some (.dK _) => True
  | some (.dT _) => True
  | some (.set _ _) => True
  | some (.ins _ _ _) => True
  | some (.ext _) => True
  | _ => False
section
variable {P : Program} {w : World} {H : Hp} {h h' : Heap} {x e : Addr} {o' : HO}
theorem HOk.write (ok : HOk P w H h) (mu : Mut (H x)) (he : e = x ∨ H e = some (.own x)) (k : ∀ b u, b ≠ e → h.get? b = some u → h'.get? b = some u) (heo : ∃ u, h'.get? e = some u)
    (new : ObjOk P w (upd H x o') h' x o') : HOk P w (upd H x o') h' := fun b u q => by
  have nown : ∀ c y, H c = some (.own y) → c ≠ x := fun c y r z => by subst z; rw [r] at mu; exact mu
  have ntup : ∀ c xs, H c = some (.tup xs) → c ≠ x := fun c xs r z => by subst z; rw [r] at mu; exact mu
  by_cases hb : b = x
  · subst hb; rw [upd_same] at q; cases q; exact new
  · rw [upd_ne hb] at q
    by_cases hbe : b = e
    · have q' : H b = some (.own x) := by
        rcases he with z | z
        · exact absurd (hbe.trans z) hb
        · rw [hbe]; exact z
      rw [q] at q'; cases q'
      obtain ⟨v, hv⟩ := heo
      exact ⟨v, by rw [hbe]; exact hv⟩
    · refine (ok b u q).stay (fun c v hc r => k c v ?_ r) (fun c r => by rw [upd_ne (nown c b r)]; exact r) fun c xs r => by rw [upd_ne (ntup c xs r)]; exact r
      rcases hc with rfl | hc
      · exact hbe
      · rintro rfl
        rcases he with z | z
        · exact nown c b hc z
        · rw [hc] at z; cases z; exact hb rfl
end
structure Un (fs ex : List Addr) (H H' : Hp) (h h' : Heap) : Prop where
  keep : ∀ b o, h.get? b = some o → H b = none → b ∉ fs → b ∉ ex → h'.get? b = some o
  slot : ∀ b o, h.get? b = some o → H b = none → b ∈ fs → b ∉ ex → ∃ sl, h'.get? b = some { o with slots := sl }
  free : ∀ b o, h.get? b = some o → H b = none → b ∉ ex → H' b = none
  there : ∀ b o, h.get? b = some o → b ∉ ex → ∃ o', h'.get? b = some o'
  tups : ∀ b xs, H b = some (.tup xs) → H' b = some (.tup xs)
  frzs : ∀ b o u, H b = some (.frz o u) → H' b = some (.frz o u)
  tbls : ∀ b ps, H b = some (.tbl ps) → ∃ more, H' b = some (.tbl (ps ++ more))
section
variable {fs fs' ex ex' : List Addr} {H H1 H2 : Hp} {h h1 h2 h' : Heap} {a x e : Addr} {o : HO}
theorem Un.any (u : Un fs ex H H1 h h1) {b : Addr} {ob : Obj} (q : h.get? b = some ob) (n : H b = none) (hx : b ∉ ex) : ∃ sl, h1.get? b = some { ob with slots := sl } := by
  by_cases hb : b ∈ fs
  · exact u.slot b ob q n hb hx
  · exact ⟨ob.slots, u.keep b ob q n hb hx⟩
theorem Un.kept (k : ∀ b u, h.get? b = some u → h'.get? b = some u) : Un fs ex H H h h' :=
  ⟨fun b ob q _ _ _ => k b ob q, fun b ob q _ _ _ => ⟨ob.slots, k b ob q⟩, fun _ _ _ n _ => n, fun b ob q _ => ⟨ob, k b ob q⟩, fun _ _ q => q, fun _ _ _ q => q, fun _ ps q => ⟨#[], by rw [q]; simp⟩⟩
theorem Un.refl : Un fs ex H H h h := Un.kept fun _ _ q => q
theorem Un.laid (k : ∀ b u, h.get? b = some u → h'.get? b = some u) (hp : h.objs.size ≤ a) (hn : H a = none) : Un fs ex H (upd H a o) h h' where
  keep := fun b u q _ _ _ => k b u q
  slot := fun b u q _ _ _ => ⟨u.slots, k b u q⟩
  free := fun b u q n _ => by rw [upd_ne (Nat.ne_of_lt (Nat.lt_of_lt_of_le (Heap.lt_size q) hp))]; exact n
  there := fun b u q _ => ⟨u, k b u q⟩
  tups := fun b xs q => by rw [upd_ne (ne_of_none q hn)]; exact q
  frzs := fun b u xs q => by rw [upd_ne (ne_of_none q hn)]; exact q
  tbls := fun b ps q => ⟨#[], by rw [upd_ne (ne_of_none q hn), q]; simp⟩
theorem Un.write (mu : Mut (H x)) (he : e = x ∨ H e = some (.own x)) (k : ∀ b u, b ≠ e → h.get? b = some u → h'.get? b = some u) (heo : ∃ u, h'.get? e = some u) : Un fs ex H (upd H x o) h h' := by
  have hx : ∀ b, H b = none → b ≠ x := fun b n z => by subst z; rw [n] at mu; exact mu
  have hb : ∀ b, H b = none → b ≠ e := fun b n z => by
    subst z
    rcases he with r | r
    · exact hx b n r
    · rw [n] at r; cases r
  have hm : ∀ b u, H b = some u → ¬ Mut (some u) → b ≠ x := fun b u q nm z => by subst z; rw [q] at mu; exact nm mu
  refine ⟨fun b u q n _ _ => k b u (hb b n) q, fun b u q n _ _ => ⟨u.slots, k b u (hb b n) q⟩, fun b u q n _ => by rw [upd_ne (hx b n)]; exact n, fun b u q _ => ?_,
    fun b xs q => by rw [upd_ne (hm b _ q fun z => z)]; exact q, fun b u xs q => by rw [upd_ne (hm b _ q fun z => z)]; exact q, fun b ps q => ⟨#[], by rw [upd_ne (hm b _ q fun z => z), q]; simp⟩⟩
  by_cases hbe : b = e
  · subst hbe; exact heo
  · exact ⟨u, k b u hbe q⟩
end
def trk (h : Heap) (H : Hp) : List Addr := (List.range h.objs.size).filter fun a => (H a).isSome
def hidT (h : Heap) (H : Hp) : Heap := PySem.W.hideAll h (trk h H)
theorem hidT_size (h : Heap) (H : Hp) : (hidT h H).objs.size = h.objs.size := PySem.W.hideAll_size _ _
theorem hidT_get {h : Heap} {H : Hp} {b : Addr} {o : Obj} (e : h.get? b = some o) (n : H b = none) : (hidT h H).get? b = some o :=
  PySem.W.hideAll_get _ e fun hm => by
    have q : (H b).isSome = true := (List.mem_filter.mp hm).2
    rw [n] at q; simp at q
theorem of_hidT {h : Heap} {H : Hp} {b : Addr} {o : Obj} (e : (hidT h H).get? b = some o) : h.get? b = some o ∧ H b = none := by
  have e' : h.get? b = some o := PySem.W.of_hideAll (trk h H) e
  refine ⟨e', ?_⟩
  cases q : H b with
  | none => rfl
  | some x =>
    have hm : b ∈ trk h H := List.mem_filter.mpr ⟨List.mem_range.mpr (Heap.lt_size e'), by simp [q]⟩
    have z : (hidT h H).get? b = none := PySem.W.hideAll_none (trk h H) hm
    rw [z] at e; cases e
def allNews (g h : Heap) (L : Addr) : List (Addr × Obj) := (List.range h.objs.size).filterMap fun a => if a = L ∨ (g.get? a).isSome = true then none else (h.get? a).map fun o => (a, o)
def rest (g h : Heap) (L d : Addr) : List (Addr × Obj) := (allNews g h L).filter fun p => decide (p.1 ≠ d)
end L2
namespace L2
open PySem PySem.Spec PyProof.Rows
structure Mod (K : PySem.W.Frag) (mg : Str → Option Value) (base : Heap) : Prop where
  kin : K.In base
  glob : base.Ns mainGlobals mg
  blt : ∃ mb, base.Ns builtinsNs mb ∧ ∀ x : Str, x ≠ "__name__" → mb x = bootBuiltins x
  nolimit : base.NoLimit
structure Cx where
  prog : Program
  w : World
  K : PySem.W.Frag
  mg : Str → Option Value
  base : Heap
  A : Around
  N : List Str
  s₀ : Shared
  H₀ : Hp
  env : Env
  outer : List Env
  stack : List Env
  ex : List Addr
  fn : Str → Bool
  calm : Bool
  pn : List (Addr × Obj)
  xe : Value → Shared → Prop
def frs (l : List Env) : List Addr := l.filterMap (·.frame)
abbrev Cx.fs (X : Cx) : List Addr := frs X.outer
def Vis (sc : Scope) (x : Str) : Prop := sc.names.lookup x = some .local ∨ sc.names.lookup x = some .cell ∨ sc.names.lookup x = some .free
def Loc (sc : Scope) (x : Str) : Prop := sc.names.lookup x = some .local ∨ sc.names.lookup x = some .cell
def Look (env : Env) (h : Heap) (m : Str → Option Value) (x : Str) (u : Value) : Prop :=
  (env.kindOf x = some .local ∧ m x = some u) ∨ ((env.kindOf x = some .cell ∨ env.kindOf x = some .free) ∧ ∃ c, env.cells.lookup x = some c ∧ h.IsCell c (some u))
structure Cx.Ok (X : Cx) : Prop where
  mod : Mod X.K X.mg X.base
  kind : X.env.scope.kind = .function
  glob : X.env.globals = mainGlobals
  blt : X.env.builtins = builtinsNs
  above : X.s₀.heap.objs.size ≤ X.env.locals
  inj : ∀ x y c, X.env.cells.lookup x = some c → X.env.cells.lookup y = some c → x = y
  has : ∀ x, (X.env.kindOf x = some .cell ∨ X.env.kindOf x = some .free) → ∃ c, X.env.cells.lookup x = some c
  cab : ∀ x c, X.fn x = true → X.env.cells.lookup x = some c → X.s₀.heap.objs.size ≤ c
  hd : X.calm = true → X.A.handled = none
  frames : X.A.frames = some X.stack
  stk : X.stack = X.outer ∨ (X.stack = X.env :: X.outer ∧ X.env.frame = some X.env.locals)
  exf : ∀ b ∈ X.ex, b ≠ X.env.locals ∧ ∀ x c, X.env.cells.lookup x = some c → c ≠ b
  bs : ∀ b o, X.base.get? b = some o → X.s₀.heap.get? b = some o ∧ X.H₀ b = none
  bsz : X.base.objs.size ≤ X.s₀.heap.objs.size
  noex : ∀ b o, X.base.get? b = some o → b ∉ X.ex
  exfs : ∀ b ∈ X.ex, b ∉ X.fs
  funs : X.s₀.heap.FunFrames X.base X.outer
  frf : ∀ b ∈ X.fs, X.H₀ b = none
structure Inv (X : Cx) (pins : List (Addr × Obj)) (σ : List (Option V)) (H : Hp) (s : Shared) : Prop where
  ok : X.Ok
  os : s.os = X.s₀.os
  bare : AllBare s.gens
  base : Un X.fs X.ex X.H₀ H X.s₀.heap s.heap
  loc : ∃ m, s.heap.Ns X.env.locals m ∧ ∀ (i : Nat) (x : Str) (v : V), X.N[i]? = some x → σ[i]? = some (some v) → Vis X.env.scope x → ∃ u, RelV v u ∧ Look X.env s.heap m x u
  cell : ∀ x c, X.env.cells.lookup x = some c → ∃ v, s.heap.IsCell c v
  free : H X.env.locals = none
  freeC : ∀ x c, X.env.cells.lookup x = some c → H c = none ∨ (X.fn x = false ∧ ∃ o, H c = some (.frz o (.own 0)))
  pin : ∀ p ∈ X.pn ++ pins, s.heap.get? p.1 = some p.2 ∧ H p.1 = none ∧ p.1 ≠ X.env.locals ∧ p.1 ∉ X.fs ∧ ∀ v, p.2.data ≠ .cell v
  hok : HOk X.prog X.w H s.heap
  len : σ.length = X.N.length
section
variable {X : Cx} {pins : List (Addr × Obj)} {σ : List (Option V)} {H H' : Hp} {s : Shared} {h' : Heap}
theorem Cx.Ok.nofr (ok : X.Ok) {b : Addr} {o : Obj} (e : X.base.get? b = some o) : b ∉ X.fs := fun hb => by
  have := (ok.funs.mem hb).1
  rw [e] at this; cases this
theorem Inv.bs (I : Inv X pins σ H s) : ∀ b o, X.base.get? b = some o → s.heap.get? b = some o ∧ H b = none := fun b o e =>
  ⟨I.base.keep b o (I.ok.bs b o e).1 (I.ok.bs b o e).2 (I.ok.nofr e) (I.ok.noex b o e), I.base.free b o (I.ok.bs b o e).1 (I.ok.bs b o e).2 (I.ok.noex b o e)⟩
theorem Inv.bk (I : Inv X pins σ H s) : ∀ b o, X.base.get? b = some o → s.heap.get? b = some o := fun b o e => (I.bs b o e).1
theorem Inv.mod (I : Inv X pins σ H s) : Mod X.K X.mg X.base := I.ok.mod
theorem Inv.kIn (I : Inv X pins σ H s) : X.K.In s.heap := I.ok.mod.kin.keeps I.bk
theorem Inv.lt (I : Inv X pins σ H s) : X.env.locals < s.heap.objs.size := let ⟨_, hn, _⟩ := I.loc; hn.lt
theorem Inv.sz (I : Inv X pins σ H s) : X.s₀.heap.objs.size ≤ s.heap.objs.size := Nat.le_trans I.ok.above (Nat.le_of_lt I.lt)
theorem Inv.nofs (I : Inv X pins σ H s) {a : Addr} (h : s.heap.objs.size ≤ a) : a ∉ X.fs := fun hb => by
  obtain ⟨_, o, ho, _⟩ := I.ok.funs.mem hb
  exact absurd (Nat.lt_of_lt_of_le (Heap.lt_size ho) (Nat.le_trans I.sz h)) (Nat.lt_irrefl _)
theorem Inv.cne (I : Inv X pins σ H s) : ∀ x c, X.env.cells.lookup x = some c → c ≠ X.env.locals := fun x c e z => by
  obtain ⟨v, o, ho, hd⟩ := I.cell x c e
  obtain ⟨m, ⟨o', es, ep, ho', hd', _⟩, _⟩ := I.loc
  rw [z, ho'] at ho; cases ho; rw [hd'] at hd; cases hd
theorem Inv.funs (I : Inv X pins σ H s) : s.heap.FunFrames X.base X.outer := by
  have all : ∀ (l : List Env), (∀ b ∈ frs l, b ∈ X.fs) → X.s₀.heap.FunFrames X.base l → s.heap.FunFrames X.base l := by
    intro l
    induction l with
    | nil => intro _ _; trivial
    | cons env r ih =>
      intro hs hl
      obtain ⟨hk, ⟨L, o, hf, hn, ho, hd⟩, hr⟩ := hl
      have hL : L ∈ X.fs := hs L (by unfold frs; rw [List.filterMap_cons, hf]; exact List.mem_cons_self)
      obtain ⟨sl, e⟩ := I.base.slot L o ho (I.ok.frf L hL) hL fun z => I.ok.exfs L z hL
      exact ⟨hk, ⟨L, _, hf, hn, e, hd⟩, ih (fun b hb => hs b (by unfold frs; rw [List.filterMap_cons, hf]; exact List.mem_cons_of_mem _ hb)) hr⟩
  exact all X.outer (fun _ hb => hb) I.ok.funs
theorem Inv.stack (I : Inv X pins σ H s) : s.heap.FunFrames X.base X.stack := by
  rcases I.ok.stk with e | ⟨e, hf⟩
  · rw [e]; exact I.funs
  · rw [e]
    obtain ⟨m, hn, _⟩ := I.loc
    refine .cons (by rw [I.ok.kind]; decide) hf hn ?_ I.funs
    exact Heap.get?_none_of_le (Nat.le_trans I.ok.bsz I.ok.above)
theorem Inv.stkSub (I : Inv X pins σ H s) : ∀ b ∈ frs X.stack, b ∈ X.env.locals :: X.fs := fun b hb => by
  rcases I.ok.stk with e | ⟨e, hf⟩
  · rw [e] at hb; exact List.mem_cons_of_mem _ hb
  · rw [e] at hb
    unfold frs at hb
    rw [List.filterMap_cons, hf] at hb
    exact hb
theorem Inv.stkFree (I : Inv X pins σ H s) : ∀ b ∈ frs X.stack, H b = none := fun b hb => by
  rcases List.mem_cons.mp (I.stkSub b hb) with e | hb
  · rw [e]; exact I.free
  · obtain ⟨_, o, ho, _⟩ := I.ok.funs.mem hb
    exact I.base.free b o ho (I.ok.frf b hb) fun z => I.ok.exfs b z hb
theorem Inv.step {g' : Array GenState} {t' : Nat} {d' : Drawn} {ch : List Addr} (I : Inv X pins σ H s)
    (hch : ∀ b ∈ ch, (b ∈ X.ex ∨ X.s₀.heap.objs.size ≤ b) ∧ b ≠ X.env.locals ∧ (∀ x c, X.env.cells.lookup x = some c → c ≠ b) ∧ ∀ p ∈ X.pn ++ pins, p.1 ≠ b)
    (keep : ∀ b o, b ≠ X.env.locals → b ∉ X.fs → b ∉ ch → s.heap.get? b = some o → H b = none → h'.get? b = some o)
    (slot : ∀ b o, b ≠ X.env.locals → b ∈ X.fs → b ∉ ch → s.heap.get? b = some o → H b = none → ∃ sl, h'.get? b = some { o with slots := sl }) (free : ∀ b o, b ∉ ch → s.heap.get? b = some o → H b = none → H' b = none)
    (there : ∀ b o, b ∉ ch → s.heap.get? b = some o → ∃ o', h'.get? b = some o')
    (tups : ∀ b xs, H b = some (.tup xs) → H' b = some (.tup xs)) (frzs : ∀ b o u, H b = some (.frz o u) → H' b = some (.frz o u)) (tbls : ∀ b ps, H b = some (.tbl ps) → ∃ more, H' b = some (.tbl (ps ++ more)))
    (ns : ∀ m, s.heap.Ns X.env.locals m → h'.Ns X.env.locals m) (hok : HOk X.prog X.w H' h') (hg : AllBare g') :
    Inv X pins σ H' { s with heap := h', gens := g', drawn := d', toks := t' } := by
  have neL : ∀ b o, X.s₀.heap.get? b = some o → b ≠ X.env.locals := fun b o e => Nat.ne_of_lt (Nat.lt_of_lt_of_le (Heap.lt_size e) I.ok.above)
  have neC : ∀ b o, X.s₀.heap.get? b = some o → b ∉ X.ex → b ∉ ch := fun b o e hx hb => by
    rcases (hch b hb).1 with z | z
    · exact hx z
    · exact absurd (Nat.lt_of_lt_of_le (Heap.lt_size e) z) (Nat.lt_irrefl _)
  have cellK : ∀ x c, X.env.cells.lookup x = some c → ∀ v, s.heap.IsCell c v → h'.IsCell c v := fun x c e v ⟨o, ho, hd⟩ => by
    have nch : c ∉ ch := fun z => (hch c z).2.2.1 x c e rfl
    rcases I.freeC x c e with fc | ⟨_, of, hf⟩
    · by_cases hc : c ∈ X.fs
      · obtain ⟨sl, q⟩ := slot c o (I.cne x c e) hc nch ho fc
        exact ⟨_, q, hd⟩
      · exact ⟨o, keep c o (I.cne x c e) hc nch ho fc, hd⟩
    · obtain ⟨e1, _⟩ := I.hok c _ hf
      obtain ⟨e2, _⟩ := hok c _ (frzs c _ _ hf)
      rw [ho] at e1; cases e1
      exact ⟨o, e2, hd⟩
  refine ⟨I.ok, I.os, hg, ⟨fun b o e n hb hx => ?_, fun b o e n hb hx => ?_, fun b o e n hx => ?_, fun b o e hx => ?_, fun b xs e => tups b xs (I.base.tups b xs e), fun b o xs e => frzs b o xs (I.base.frzs b o xs e), fun b ps e => ?_⟩, ?_, fun x c e => ?_, ?_, fun x c e => ?_, fun p hp => ?_, hok, I.len⟩
  · exact keep b o (neL b o e) hb (neC b o e hx) (I.base.keep b o e n hb hx) (I.base.free b o e n hx)
  · obtain ⟨sl, e1⟩ := I.base.slot b o e n hb hx
    obtain ⟨sl', e2⟩ := slot b _ (neL b o e) hb (neC b o e hx) e1 (I.base.free b o e n hx)
    exact ⟨sl', e2⟩
  · obtain ⟨o', e1⟩ := I.base.there b o e hx
    exact free b o' (neC b o e hx) e1 (I.base.free b o e n hx)
  · obtain ⟨o', e1⟩ := I.base.there b o e hx
    exact there b o' (neC b o e hx) e1
  · obtain ⟨m1, e1⟩ := I.base.tbls b ps e
    obtain ⟨m2, e2⟩ := tbls b _ e1
    exact ⟨m1 ++ m2, by rw [e2, Array.append_assoc]⟩
  · obtain ⟨m, hn, hl⟩ := I.loc
    refine ⟨m, ns m hn, fun i x v e1 e2 e3 => ?_⟩
    obtain ⟨u, r, l⟩ := hl i x v e1 e2 e3
    refine ⟨u, r, ?_⟩
    rcases l with l | ⟨k, c, e, z⟩
    · exact .inl l
    · exact .inr ⟨k, c, e, cellK x c e _ z⟩
  · obtain ⟨v, z⟩ := I.cell x c e
    exact ⟨v, cellK x c e v z⟩
  · obtain ⟨m, ⟨o, _, _, ho, _⟩, _⟩ := I.loc
    exact free _ o (fun z => (hch _ z).2.1 rfl) ho I.free
  · obtain ⟨v, o, ho, hd⟩ := I.cell x c e
    rcases I.freeC x c e with fc | ⟨fn0, of, hf⟩
    · exact .inl (free c o (fun z => (hch c z).2.2.1 x c e rfl) ho fc)
    · exact .inr ⟨fn0, of, frzs c _ _ hf⟩
  · obtain ⟨e, n, ne, nf, d⟩ := I.pin p hp
    have nch : p.1 ∉ ch := fun z => (hch p.1 z).2.2.2 p hp rfl
    exact ⟨keep p.1 p.2 ne nf nch e n, free p.1 p.2 nch e n, ne, nf, d⟩
theorem Inv.un {t' : Nat} (I : Inv X pins σ H s) (u : Un X.fs [] H H' s.heap h') (hok : HOk X.prog X.w H' h') : Inv X pins σ H' { s with heap := h', toks := t' } := by
  obtain ⟨m, ⟨o, es, ep, ho, r⟩, _⟩ := id I.loc
  obtain ⟨sl, hL⟩ := u.any ho I.free (by simp)
  exact I.step (g' := s.gens) (d' := s.drawn) (ch := []) (fun _ z => nomatch z) (fun b o _ hb _ e n => u.keep b o e n hb (by simp)) (fun b o _ hb _ e n => u.slot b o e n hb (by simp)) (fun b o _ e n => u.free b o e n (by simp)) (fun b o _ e => u.there b o e (by simp)) u.tups u.frzs u.tbls (fun m' hm => by
    obtain ⟨o', es', ep', ho', r'⟩ := hm
    rw [ho] at ho'; cases ho'
    exact ⟨_, es', ep', hL, r'⟩) hok I.bare
theorem Inv.call {g' : Array GenState} {t' : Nat} {d' : Drawn} {ch : List Addr} (I : Inv X pins σ H s) (u : Un (frs X.stack) ch H H' s.heap h') (hok : HOk X.prog X.w H' h') (hg : AllBare g')
    (hch : ∀ b ∈ ch, (b ∈ X.ex ∨ X.s₀.heap.objs.size ≤ b) ∧ b ≠ X.env.locals ∧ (∀ x c, X.env.cells.lookup x = some c → c ≠ b) ∧ ∀ p ∈ X.pn ++ pins, p.1 ≠ b) :
    Inv X pins σ H' { s with heap := h', gens := g', drawn := d', toks := t' } := by
  obtain ⟨m, ⟨o, es, ep, ho, r⟩, _⟩ := id I.loc
  obtain ⟨sl, hL⟩ := u.any ho I.free fun z => (hch _ z).2.1 rfl
  exact I.step (ch := ch) hch (fun b o hL hb hc e n => u.keep b o e n (fun z => (List.mem_cons.mp (I.stkSub b z)).elim hL hb) hc) (fun b o _ _ hc e n => u.any e n hc) (fun b o hc e n => u.free b o e n hc) (fun b o hc e => u.there b o e hc) u.tups u.frzs u.tbls (fun m' hm => by
    obtain ⟨o', es', ep', ho', r'⟩ := hm
    rw [ho] at ho'; cases ho'
    exact ⟨_, es', ep', hL, r'⟩) hok hg
theorem Inv.turned {t' : Nat} {it : Addr} (I : Inv X pins σ H s) (k : ∀ b o, b ≠ it → s.heap.get? b = some o → h'.get? b = some o) (hn : H it = none) (hL : it ≠ X.env.locals)
    (h1 : it ∈ X.ex ∨ X.s₀.heap.objs.size ≤ it) (h2 : ∀ x c, X.env.cells.lookup x = some c → c ≠ it) (h3 : ∀ p ∈ X.pn ++ pins, p.1 ≠ it) : Inv X pins σ H { s with heap := h', toks := t' } := by
  have nit : ∀ b u, H b = some u → b ≠ it := fun b u e z => by rw [z, hn] at e; cases e
  refine I.step (g' := s.gens) (d' := s.drawn) (ch := [it]) (fun b hb => ?_) (fun b o _ _ hc e _ => k b o (fun z => hc (by simp [z])) e) (fun b o _ _ hc e _ => ⟨o.slots, k b o (fun z => hc (by simp [z])) e⟩) (fun _ _ _ _ n => n)
    (fun b o hc e => ⟨o, k b o (fun z => hc (by simp [z])) e⟩) (fun _ _ e => e) (fun _ _ _ e => e) (fun b ps e => ⟨#[], by rw [e]; simp⟩) (fun m hm => ?_) (fun b u e => ?_) I.bare
  · have e : b = it := by simpa using hb
    subst e
    exact ⟨h1, hL, h2, h3⟩
  · obtain ⟨o, es, ep, ho, r⟩ := hm
    exact ⟨o, es, ep, k _ o (Ne.symm hL) ho, r⟩
  · refine (I.hok b u e).stay (fun c v hc q => k c v ?_ q) (fun _ q => q) fun _ _ q => q
    rcases hc with z | z
    · rw [z]; exact nit b u e
    · exact nit c _ z
theorem Inv.tok (I : Inv X pins σ H s) (t : Nat) : Inv X pins σ H { s with toks := t } := I.un (h' := s.heap) (t' := t) Un.refl I.hok
theorem Inv.kept {t' : Nat} (I : Inv X pins σ H s) (k : ∀ b u, s.heap.get? b = some u → h'.get? b = some u) : Inv X pins σ H { s with heap := h', toks := t' } := I.un (Un.kept k) (I.hok.kept k)
theorem Inv.laid {a : Addr} {o : HO} {t' : Nat} (I : Inv X pins σ H s) (k : ∀ b u, s.heap.get? b = some u → h'.get? b = some u) (hp : s.heap.objs.size ≤ a) (new : ObjOk X.prog X.w (upd H a o) h' a o) :
    Inv X pins σ (upd H a o) { s with heap := h', toks := t' } := I.un (Un.laid k hp (I.hok.fresh hp)) (I.hok.laid k hp new)
theorem Inv.write {x e : Addr} {o : HO} {t' : Nat} (I : Inv X pins σ H s) (mu : Mut (H x)) (he : e = x ∨ H e = some (.own x)) (k : ∀ b u, b ≠ e → s.heap.get? b = some u → h'.get? b = some u) (heo : ∃ u, h'.get? e = some u)
    (new : ObjOk X.prog X.w (upd H x o) h' x o) : Inv X pins σ (upd H x o) { s with heap := h', toks := t' } := I.un (Un.write mu he k heo) (I.hok.write mu he k heo new)
theorem Inv.pins_of {pins' : List (Addr × Obj)} (I : Inv X pins σ H s) (h : ∀ p ∈ pins', s.heap.get? p.1 = some p.2 ∧ H p.1 = none ∧ p.1 ≠ X.env.locals ∧ p.1 ∉ X.fs ∧ ∀ v, p.2.data ≠ .cell v) : Inv X pins' σ H s :=
  ⟨I.ok, I.os, I.bare, I.base, I.loc, I.cell, I.free, I.freeC, fun p hp => (List.mem_append.mp hp).elim (fun z => I.pin p (List.mem_append_left _ z)) (h p), I.hok, I.len⟩
theorem nodup_ix {N : List Str} (hN : N.Nodup) {i j : Nat} {x : Str} (a : N[i]? = some x) (b : N[j]? = some x) : i = j := by
  obtain ⟨h1, e1⟩ := List.getElem?_eq_some_iff.mp a
  obtain ⟨h2, e2⟩ := List.getElem?_eq_some_iff.mp b
  exact (List.getElem_inj hN).mp (e1.trans e2.symm)
theorem store_ok2 {M : Model} {A : Around} {E : Value → Shared → Prop} {i : Nat} {x : Str} {v : V} {u : Value} {Q : Unit → Shared → Prop} (I : Inv X pins σ H s) (hN : X.N.Nodup) (hi : X.N[i]? = some x) (hx : Loc X.env.scope x) (r : RelV v u)
    (h : ∀ s', Inv X pins (σ.set i (some v)) H s' → (∃ a, Heap.SameBut a s.heap s'.heap ∧ (a = X.env.locals ∨ X.env.cells.lookup x = some a)) → Q () s') (hf : X.fn x = true ∨ X.env.scope.names.lookup x = some .local := by first | exact .inl rfl | exact .inr rfl | assumption) : wpAny M A (storeName X.env x u) Q E s := by
  obtain ⟨m, hn, hl⟩ := id I.loc
  have hcls : (X.env.scope.kind == .class || (X.env.scope.kind == .module && X.env.locals != X.env.globals)) = false := by rw [I.ok.kind]; rfl
  have hiσ : i < σ.length := by rw [I.len]; exact (List.getElem?_eq_some_iff.mp hi).1
  have cne := I.cne
  have tracked : ∀ {a : Addr} {h' : Heap}, (∃ o, s.heap.get? a = some o ∧ H a = none) → Heap.SameBut a s.heap h' → HOk X.prog X.w H h' := fun {a h'} ha hs b ob e => by
    obtain ⟨_, _, hfree⟩ := ha
    refine (I.hok b ob e).stay (fun c w' hc q => (hs.2 c ?_).trans q) (fun _ q => q) fun _ _ q => q
    rintro rfl
    rcases hc with rfl | hc
    · rw [hfree] at e; cases e
    · rw [hfree] at hc; cases hc
  rcases hx with hk | hk
  · refine wpAny_storeName_local hk hn (fun h' hn' hs => ?_) hcls
    obtain ⟨oL, _, _, hoL, _⟩ := id hn
    refine h _ ⟨I.ok, I.os, I.bare, ⟨fun b o e n hb hx => ?_, fun b o e n hb hx => ?_, I.base.free, fun b o e hx => ?_, I.base.tups, I.base.frzs, I.base.tbls⟩, ⟨_, hn', fun j y v' e1 e2 e3 => ?_⟩, fun y c e => ?_, I.free, I.freeC, fun p hp => ?_, tracked ⟨oL, hoL, I.free⟩ hs, by simpa using I.len⟩ ⟨_, hs, .inl rfl⟩
    · exact (hs.2 b (Nat.ne_of_lt (Nat.lt_of_lt_of_le (Heap.lt_size e) I.ok.above))).trans (I.base.keep b o e n hb hx)
    · obtain ⟨sl, e1⟩ := I.base.slot b o e n hb hx
      exact ⟨sl, (hs.2 b (Nat.ne_of_lt (Nat.lt_of_lt_of_le (Heap.lt_size e) I.ok.above))).trans e1⟩
    · obtain ⟨o', e1⟩ := I.base.there b o e hx
      exact ⟨o', (hs.2 b (Nat.ne_of_lt (Nat.lt_of_lt_of_le (Heap.lt_size e) I.ok.above))).trans e1⟩
    · by_cases hj : j = i
      · subst hj
        rw [hi] at e1; cases e1
        rw [List.getElem?_set_self hiσ] at e2
        cases e2
        exact ⟨u, r, .inl ⟨hk, by simp⟩⟩
      · rw [List.getElem?_set_ne (Ne.symm hj)] at e2
        obtain ⟨u', r', q⟩ := hl j y v' e1 e2 e3
        refine ⟨u', r', ?_⟩
        rcases q with ⟨k, e⟩ | ⟨k, c, e, z⟩
        · refine .inl ⟨k, ?_⟩
          have : y ≠ x := fun e => hj (nodup_ix hN e1 (e ▸ hi))
          simp [this, e]
        · exact .inr ⟨k, c, e, z.sameBut hs (cne y c e)⟩
    · obtain ⟨w', z⟩ := I.cell y c e
      exact ⟨w', z.sameBut hs (cne y c e)⟩
    · obtain ⟨e, n, ne, nf, d⟩ := I.pin p hp
      exact ⟨(hs.2 p.1 ne).trans e, n, ne, nf, d⟩
  · have hfn : X.fn x = true := by
      rcases hf with z | z
      · exact z
      · rw [z] at hk; cases hk
    obtain ⟨c, hc⟩ := I.ok.has x (.inl hk)
    obtain ⟨w', z⟩ := I.cell x c hc
    refine wpAny_storeName_cell I.ok.kind hk hc z (fun h' hc' hs => ?_)
    obtain ⟨oc, hoc, hocd⟩ := id z
    refine h { s with heap := h' } ⟨I.ok, I.os, I.bare, ⟨fun b o e n hb hx => ?_, fun b o e n hb hx => ?_, I.base.free, fun b o e hx => ?_, I.base.tups, I.base.frzs, I.base.tbls⟩, ⟨m, hn.sameBut hs (Ne.symm (cne x c hc)), fun j y v' e1 e2 e3 => ?_⟩, fun y c' e => ?_, I.free, I.freeC, fun p hp => ?_, tracked ⟨oc, hoc, (I.freeC x c hc).resolve_right fun z => by rw [hfn] at z; cases z.1⟩ hs, by simpa using I.len⟩ ⟨c, hs, .inr hc⟩
    · exact (hs.2 b (Nat.ne_of_lt (Nat.lt_of_lt_of_le (Heap.lt_size e) (I.ok.cab x c hfn hc)))).trans (I.base.keep b o e n hb hx)
    · obtain ⟨sl, e1⟩ := I.base.slot b o e n hb hx
      exact ⟨sl, (hs.2 b (Nat.ne_of_lt (Nat.lt_of_lt_of_le (Heap.lt_size e) (I.ok.cab x c hfn hc)))).trans e1⟩
    · obtain ⟨o', e1⟩ := I.base.there b o e hx
      exact ⟨o', (hs.2 b (Nat.ne_of_lt (Nat.lt_of_lt_of_le (Heap.lt_size e) (I.ok.cab x c hfn hc)))).trans e1⟩
    · by_cases hj : j = i
      · subst hj
        rw [hi] at e1; cases e1
        rw [List.getElem?_set_self hiσ] at e2
        cases e2
        exact ⟨u, r, .inr ⟨.inl hk, c, hc, hc'⟩⟩
      · rw [List.getElem?_set_ne (Ne.symm hj)] at e2
        obtain ⟨u', r', q⟩ := hl j y v' e1 e2 e3
        refine ⟨u', r', ?_⟩
        rcases q with q | ⟨k, c', e, z'⟩
        · exact .inl q
        · refine .inr ⟨k, c', e, z'.sameBut hs ?_⟩
          rintro rfl
          exact hj (nodup_ix hN e1 (I.ok.inj _ _ _ e hc ▸ hi))
    · by_cases hcc : c' = c
      · subst hcc; exact ⟨_, hc'⟩
      · obtain ⟨w2, z2⟩ := I.cell y c' e
        exact ⟨w2, z2.sameBut hs hcc⟩
    · obtain ⟨e, n, ne, nf, d⟩ := I.pin p hp
      refine ⟨(hs.2 p.1 ?_).trans e, n, ne, nf, d⟩
      intro q
      rw [q, hoc] at e
      have q' : oc = p.2 := Option.some.inj e
      exact d w' (by rw [← q']; exact hocd)
theorem store_ok {M : Model} {A : Around} {E : Value → Shared → Prop} {i : Nat} {x : Str} {v : V} {u : Value} {Q : Unit → Shared → Prop} (I : Inv X pins σ H s) (hN : X.N.Nodup) (hi : X.N[i]? = some x) (hx : Loc X.env.scope x) (r : RelV v u)
    (h : ∀ s', Inv X pins (σ.set i (some v)) H s' → Q () s') (hf : X.fn x = true ∨ X.env.scope.names.lookup x = some .local := by first | exact .inl rfl | exact .inr rfl | assumption) : wpAny M A (storeName X.env x u) Q E s :=
  store_ok2 I hN hi hx r (fun s' I' _ => h s' I') hf
theorem Inv.call' {s' : Shared} {ch : List Addr} (I : Inv X pins σ H s) (ho : s'.os = s.os) (u : Un (frs X.stack) ch H H' s.heap s'.heap) (hok : HOk X.prog X.w H' s'.heap) (hg : AllBare s'.gens)
    (hch : ∀ b ∈ ch, (b ∈ X.ex ∨ X.s₀.heap.objs.size ≤ b) ∧ b ≠ X.env.locals ∧ (∀ x c, X.env.cells.lookup x = some c → c ≠ b) ∧ ∀ p ∈ X.pn ++ pins, p.1 ≠ b) : Inv X pins σ H' s' := by
  obtain ⟨h', g', d', t', o'⟩ := s'
  have e : o' = s.os := ho
  subst e
  exact I.call (g' := g') (t' := t') (d' := d') u hok hg hch
end
abbrev XK := Value → Option Addr → Hp → Prop
abbrev St := List (Option V)
abbrev VK := V → Hp → Prop
abbrev TE := St → Hp → VK → Prop
abbrev TT := St → Hp → (Bool → Hp → Prop) → Prop
abbrev TA := St → Hp → (List V → Hp → Prop) → Prop
structure Ends where
  nx : St → Hp → Prop
  rt : VK
  bk : St → Hp → Prop := fun _ _ => False
  ct : St → Hp → Prop := fun _ _ => False
abbrev TS := Ends → St → Hp → Prop
def EP (X : Cx) (pins : List (Addr × Obj)) (σ : St) (Q : VK) (u : Value) (s' : Shared) : Prop := ∃ v H', Inv X pins σ H' s' ∧ RelV v u ∧ Q v H'
def TP (X : Cx) (pins : List (Addr × Obj)) (σ : St) (Q : Bool → Hp → Prop) (b : Bool) (s' : Shared) : Prop := ∃ H', Inv X pins σ H' s' ∧ Q b H'
def AP (X : Cx) (pins : List (Addr × Obj)) (σ : St) (Q : List V → Hp → Prop) (us : List Value) (s' : Shared) : Prop := ∃ vs H', Inv X pins σ H' s' ∧ Vals vs us ∧ Q vs H'
def SP (X : Cx) (pins : List (Addr × Obj)) (D : Ends) (f : Flow) (s' : Shared) : Prop :=
  match f with
  | .next => ∃ σ' H', Inv X pins σ' H' s' ∧ D.nx σ' H'
  | .brk => ∃ σ' H', Inv X pins σ' H' s' ∧ D.bk σ' H'
  | .cont => ∃ σ' H', Inv X pins σ' H' s' ∧ D.ct σ' H'
  | .ret u => ∃ v σ' H', Inv X pins σ' H' s' ∧ RelV v u ∧ D.rt v H'
def PE (X : Cx) (e : Expr) (t : TE) : Prop :=
  ∀ (pins : List (Addr × Obj)) (s : Shared) (σ : St) (H : Hp) (Q : VK), Inv X pins σ H s → t σ H Q → wpAny (model X.prog X.w) X.A (eval e X.env) (EP X pins σ Q) X.xe s
def PT (X : Cx) (e : Expr) (t : TT) : Prop :=
  ∀ (pins : List (Addr × Obj)) (s : Shared) (σ : St) (H : Hp) (Q : Bool → Hp → Prop), Inv X pins σ H s → t σ H Q → wpAny (model X.prog X.w) X.A (isTrue e X.env (eval e X.env)) (TP X pins σ Q) X.xe s
def PW (X : Cx) (e : Expr) (t : TT) : Prop :=
  ∀ (whole : Sem Value) (pins : List (Addr × Obj)) (s : Shared) (σ : St) (H : Hp) (Q : Bool → Hp → Prop), Inv X pins σ H s → t σ H Q → wpAny (model X.prog X.w) X.A (isTrue e X.env whole) (TP X pins σ Q) X.xe s
theorem PW.pt {X : Cx} {e : Expr} {t : TT} (h : PW X e t) : PT X e t := h _
def PA (X : Cx) (es : List Expr) (t : TA) : Prop :=
  ∀ (pos : Pos) (pins : List (Addr × Obj)) (s : Shared) (σ : St) (H : Hp) (Q : List V → Hp → Prop), Inv X pins σ H s → t σ H Q → wpAny (model X.prog X.w) X.A (spliced (backTo pos (starEach es X.env))) (AP X pins σ Q) X.xe s
def PS (X : Cx) (st : Stmt) (t : TS) : Prop :=
  ∀ (pins : List (Addr × Obj)) (s : Shared) (σ : St) (H : Hp) (D : Ends), Inv X pins σ H s → t D σ H → wpAny (model X.prog X.w) X.A (exec st X.env) (SP X pins D) X.xe s
def PSs (X : Cx) (st : List Stmt) (t : TS) : Prop :=
  ∀ (pins : List (Addr × Obj)) (s : Shared) (σ : St) (H : Hp) (D : Ends), Inv X pins σ H s → t D σ H → wpAny (model X.prog X.w) X.A (execs st X.env) (SP X pins D) X.xe s
theorem thn {α : Type} {t : Sem α} {Q Q' : α → Shared → Prop} {M : Model} {A : Around} {E : Value → Shared → Prop} {s : Shared} (h : wpAny M A t Q E s) (hQ : ∀ a s, Q a s → Q' a s) : wpAny M A t Q' E s := wpAny_mono h hQ fun _ _ x => x
end L2
namespace L2
open PySem PySem.Spec PyProof.Rows
section
variable {X : Cx}
def tVar (i : Nat) : TE := fun σ H Q => ∃ v, σ[i]? = some (some v) ∧ Q v H
def tC (v : V) : TE := fun _ H Q => Q v H
theorem pe_var {i : Nat} {x : Str} {pos : Pos} (hN : X.N[i]? = some x) (hv : Vis X.env.scope x) (hd : (x == ("__debug__" : Str)) = false := by decide) (hcd : (x == ("__classdict__" : Str)) = false := by decide) : PE X (.Name x pos) (tVar i) := by
  intro pins s σ H Q I h
  obtain ⟨v, e, h⟩ := h
  obtain ⟨m, hn, hl⟩ := I.loc
  obtain ⟨u, r, l⟩ := hl i x v hN e hv
  have fin : EP X pins σ Q u s := ⟨v, H, I, r, h⟩
  rcases l with ⟨hk, hm⟩ | ⟨hk, c, hc, hcell⟩
  · exact wpAny_Name (wpAny_loadName_local I.ok.kind hk hn hm fin) hd
  · rcases hk with hk | hk
    · exact wpAny_Name (wpAny_loadName_cell I.ok.kind hk hc hcell fin) hd
    · exact wpAny_Name (wpAny_loadName_free I.ok.kind hk hc hcell fin hcd) hd
theorem pe_int {i j pos} : PE X (.Constant (.int i) j pos) (tC (.int i)) := fun _ _ _ H _ I h => wpAny_Constant_int ⟨.int i, H, I.tok _, ⟨_, rfl⟩, h⟩
theorem pe_bl {b j pos} : PE X (.Constant (.bool b) j pos) (tC (.bl b)) := fun _ _ _ H _ I h => Constant_bool ⟨.bl b, H, I, rfl, h⟩
theorem pe_non {j pos} : PE X (.Constant .none j pos) (tC .non) := fun _ _ _ H _ I h => Constant_none ⟨.non, H, I, rfl, h⟩
theorem pe_str {x j pos} : PE X (.Constant (.str x) j pos) (tC (.str x)) := fun _ _ _ H _ I h => Calls.Constant_str ⟨.str x, H, I.tok _, ⟨_, rfl⟩, h⟩
def Gl (X : Cx) (x : Str) : Prop := X.env.kindOf x = some .globalImplicit
theorem ld_glob {E : Value → Shared → Prop} {pins : List (Addr × Obj)} {s : Shared} {σ : St} {H : Hp} {x : Str} {u : Value} {pos : Pos} {Q : Value → Shared → Prop} (I : Inv X pins σ H s) (hg : Gl X x) (hm : X.mg x = some u) (h : Q u s)
    (hd : (x == ("__debug__" : Str)) = false := by decide) : wpAny (model X.prog X.w) X.A (eval (.Name x pos) X.env) Q E s :=
  Calls.Name_function_global I.ok.kind hg (Calls.loadGlobal_global (by rw [I.ok.glob]; exact I.mod.glob.keeps I.bk) hm h) hd
theorem ld_blt {E : Value → Shared → Prop} {pins : List (Addr × Obj)} {s : Shared} {σ : St} {H : Hp} {x : Str} {u : Value} {pos : Pos} {Q : Value → Shared → Prop} (I : Inv X pins σ H s) (hg : Gl X x) (hm : X.mg x = none) (hv : bootBuiltins x = some u) (h : Q u s)
    (hn : x ≠ "__name__" := by decide) (hd : (x == ("__debug__" : Str)) = false := by decide) : wpAny (model X.prog X.w) X.A (eval (.Name x pos) X.env) Q E s := by
  obtain ⟨mb, h1, h2⟩ := I.mod.blt
  exact Calls.Name_function_global I.ok.kind hg (Calls.loadGlobal_builtin (by rw [I.ok.glob]; exact I.mod.glob.keeps I.bk) hm (by rw [I.ok.blt]; exact h1.keeps I.bk) ((h2 x hn).trans hv) h) hd
theorem pe_glob {x : Str} {v : V} {u : Value} {pos : Pos} (hg : Gl X x) (hm : X.mg x = some u) (r : RelV v u) (hd : (x == ("__debug__" : Str)) = false := by decide) : PE X (.Name x pos) (tC v) :=
  fun _ _ _ H _ I h => ld_glob I hg hm ⟨v, H, I, r, h⟩ hd
theorem pe_bltn {x : Str} {v : V} {u : Value} {pos : Pos} (hg : Gl X x) (hm : X.mg x = none) (hv : bootBuiltins x = some u) (r : RelV v u) (hn : x ≠ "__name__" := by decide) (hd : (x == ("__debug__" : Str)) = false := by decide) : PE X (.Name x pos) (tC v) :=
  fun _ _ _ H _ I h => ld_blt I hg hm hv ⟨v, H, I, r, h⟩ hn hd
variable {a b : Expr} {ta tb : TE} {pos : Pos}
def tB (t : TE) : TT := fun σ H Q => t σ H fun x H1 => ∃ c, x = .bl c ∧ Q c H1
theorem pt_val {e : Expr} {t : TE} (h : PE X e t) (he : ∀ whole, isTrue e X.env whole = (do let v ← whole; standAt e.pos; holding [v] (truthy v)) := by intro _; rfl) : PT X e (tB t) := by
  intro pins s σ H Q I hw
  refine isTrue_plain (thn (h pins s σ H _ I hw) fun v s1 ⟨x, H1, I1, r1, q1⟩ => ?_) (he _)
  obtain ⟨d, rfl, q⟩ := q1
  cases r1
  exact wpAny_truthy_bool ⟨H1, I1, q⟩
variable {tA tB' : TT} {rest : List Expr}
def tAnd (t u : TT) : TT := fun σ H Q => t σ H fun c H1 => if c = true then u σ H1 Q else Q false H1
def tOr (t u : TT) : TT := fun σ H Q => t σ H fun c H1 => if c = true then Q true H1 else u σ H1 Q
def tNot (t : TT) : TT := fun σ H Q => t σ H fun c H1 => Q (!c) H1
theorem pw_and1 (ha : PT X a tA) : PW X (.BoolOp .And [a] pos) tA := by
  intro wh pins s σ H Q I h
  refine isTrue_and (thn (ha pins s σ H Q I h) fun c s1 e => ?_)
  cases c with
  | true => exact isTrue_and_nil e
  | false => exact e
theorem pw_or1 (ha : PT X a tA) : PW X (.BoolOp .Or [a] pos) tA := by
  intro wh pins s σ H Q I h
  refine isTrue_or (thn (ha pins s σ H Q I h) fun c s1 e => ?_)
  cases c with
  | false => exact isTrue_or_nil e
  | true => exact e
theorem pw_and (ha : PT X a tA) (hb : PW X (.BoolOp .And (b :: rest) pos) tB') : PW X (.BoolOp .And (a :: b :: rest) pos) (tAnd tA tB') := by
  intro wh pins s σ H Q I h
  refine isTrue_and (thn (ha pins s σ H _ I h) fun c s1 ⟨H1, I1, q1⟩ => ?_)
  cases c with
  | true => exact hb wh pins s1 σ H1 Q I1 q1
  | false => exact ⟨H1, I1, q1⟩
theorem pw_or (ha : PT X a tA) (hb : PW X (.BoolOp .Or (b :: rest) pos) tB') : PW X (.BoolOp .Or (a :: b :: rest) pos) (tOr tA tB') := by
  intro wh pins s σ H Q I h
  refine isTrue_or (thn (ha pins s σ H _ I h) fun c s1 ⟨H1, I1, q1⟩ => ?_)
  cases c with
  | true => exact ⟨H1, I1, q1⟩
  | false => exact hb wh pins s1 σ H1 Q I1 q1
theorem pt_not (ha : PT X a tA) : PT X (.UnaryOp .Not a pos) (tNot tA) := by
  intro pins s σ H Q I h
  exact isTrue_not (ha pins s σ H (fun c H1 => Q (!c) H1) I h)
def tAndV (ta tb : TE) : TE := fun σ H Q => ta σ H fun x H1 => ∃ c, x = .bl c ∧ if c = true then tb σ H1 Q else Q (.bl false) H1
def tNotV (ta : TE) : TE := fun σ H Q => ta σ H fun x H1 => ∃ c, x = .bl c ∧ Q (.bl (!c)) H1
theorem pe_one {op} {t : TE} (h : PE X a t) : PE X (.BoolOp op [a] pos) t := fun pins s σ H Q I hw => BoolOp_one (h pins s σ H Q I hw)
theorem pe_and (ha : PE X a ta) (hb : PE X (.BoolOp .And (b :: rest) pos) tb) : PE X (.BoolOp .And (a :: b :: rest) pos) (tAndV ta tb) := by
  intro pins s σ H Q I h
  refine BoolOp_and (thn (ha pins s σ H _ I h) fun v s1 ⟨x, H1, I1, r1, q1⟩ => ?_)
  obtain ⟨c, rfl, q1⟩ := q1
  cases r1
  refine wpAny_truthy_bool ?_
  cases c with
  | true => exact hb pins s1 σ H1 Q I1 q1
  | false => exact ⟨.bl false, H1, I1, rfl, q1⟩
theorem pe_not (ha : PE X a ta) : PE X (.UnaryOp .Not a pos) (tNotV ta) := by
  intro pins s σ H Q I h
  refine UnaryOp_ (thn (ha pins s σ H _ I h) fun v s1 ⟨x, H1, I1, r1, q1⟩ => ?_)
  obtain ⟨c, rfl, q1⟩ := q1
  cases r1
  exact not_of (wpAny_truthy_bool ⟨.bl (!c), H1, I1, rfl, q1⟩)
end
end L2
namespace L2
open PySem PySem.Spec PyProof.Rows
def SqL (K : PySem.W.Frag) (H : Hp) (a : Addr) (xs : List V) : Prop :=
  Rd H a (.lst xs) ∨
    ∃ (o : Obj) (its : Array Value) (n : Nat), K.lookup a = some o ∧ o.cls = .type "list" ∧ o.dict = none ∧ o.data = .seq its n ∧ its.size ≤ sizeLine ∧ Vals xs its.toList
def SqT (K : PySem.W.Frag) (H : Hp) (a : Addr) (xs : List V) : Prop :=
  Rd H a (.tup xs) ∨
    ∃ (o : Obj) (its : Array Value) (n : Nat), K.lookup a = some o ∧ o.cls = .type "tuple" ∧ o.data = .seq its n ∧ its.size ≤ sizeLine ∧ Vals xs its.toList
def absV : Value → Option V
  | .none => some .non
  | .bool b => some (.bl b)
  | .int i _ => some (.int i)
  | .str x _ => some (.str x)
  | .bytes b _ => some (.byt b)
  | .float b _ => some (.flt b)
  | .ref a => some (.ref a)
  | .type n => some (.ty n)
  | _ => none
theorem RelV.abs {x : V} {u : Value} (r : RelV x u) : absV u = some x := by
  cases x with
  | non => cases r; rfl
  | bl _ => cases r; rfl
  | int _ => obtain ⟨t, rfl⟩ := r; rfl
  | str _ => obtain ⟨t, rfl⟩ := r; rfl
  | byt _ => obtain ⟨t, rfl⟩ := r; rfl
  | flt _ => obtain ⟨t, rfl⟩ := r; rfl
  | ref _ => cases r; rfl
  | ty _ => cases r; rfl
theorem RelV.inj {x y : V} {u : Value} (r : RelV x u) (q : RelV y u) : x = y := Option.some.inj (r.abs.symm.trans q.abs)
theorem Vals.inj : ∀ {xs ys : List V} {us : List Value}, Vals xs us → Vals ys us → xs = ys
  | _, _, _, .nil, .nil => rfl
  | _, _, _, .cons r t, .cons r' t' => by rw [r.inj r', Vals.inj t t']
section
variable {X : Cx} {pins : List (Addr × Obj)} {σ : St} {H : Hp} {s : Shared} {a : Addr} {xs ys : List V}
theorem SqL.of {K : PySem.W.Frag} (h : H a = some (.lst xs)) : SqL K H a xs := .inl (.inl h)
theorem Inv.list (I : Inv X pins σ H s) (h : SqL X.K H a xs) : ∃ its : List Value, Vals xs its ∧ PlainL s.heap a its.toArray ∧ xs.length ≤ sizeLine := by
  rcases h with h | ⟨o, its, n, hk, hc, hd, hs, hz, r⟩
  · obtain ⟨z, its, n, r, e⟩ := h.ok I.hok
    exact ⟨its, r, ⟨_, n, e, rfl, rfl, rfl⟩, z⟩
  · refine ⟨its.toList, r, ⟨o, n, I.kIn a o hk, hc, hd, by simpa using hs⟩, ?_⟩
    have e := r.length
    simp only [Array.length_toList] at e
    omega
theorem Inv.tuple (I : Inv X pins σ H s) (h : SqT X.K H a xs) : ∃ its : List Value, Vals xs its ∧ IsTup s.heap a its.toArray ∧ xs.length ≤ sizeLine := by
  rcases h with h | ⟨o, its, n, hk, hc, hs, hz, r⟩
  · obtain ⟨z, its, r, p⟩ := h.ok I.hok
    exact ⟨its, r, p, z⟩
  · refine ⟨its.toList, r, ⟨o, I.kIn a o hk, hc, n, by simpa using hs⟩, ?_⟩
    have e := r.length
    simp only [Array.length_toList] at e
    omega
theorem Inv.list_inj (I : Inv X pins σ H s) (h : SqL X.K H a xs) (h' : SqL X.K H a ys) : xs = ys := by
  obtain ⟨its, r, ⟨o, n, e, _, _, d⟩, _⟩ := I.list h
  obtain ⟨its', r', ⟨o', n', e', _, _, d'⟩, _⟩ := I.list h'
  rw [e] at e'; cases e'
  rw [d] at d'
  injection d' with d1 _
  have : its = its' := by simpa using congrArg Array.toList d1
  subst this
  exact r.inj r'
theorem Inv.tuple_inj (I : Inv X pins σ H s) (h : SqT X.K H a xs) (h' : SqT X.K H a ys) : xs = ys := by
  obtain ⟨its, r, ⟨o, e, _, n, d⟩, _⟩ := I.tuple h
  obtain ⟨its', r', ⟨o', e', _, n', d'⟩, _⟩ := I.tuple h'
  rw [e] at e'; cases e'
  rw [d] at d'
  injection d' with d1 _
  have : its = its' := by simpa using congrArg Array.toList d1
  subst this
  exact r.inj r'
end
abbrev Cx.wish (X : Cx) (E : Value → Shared → Prop) : Cx := { X with xe := E }
abbrev Cx.nox (X : Cx) : Cx := X.wish fun _ _ => False
theorem Cx.Ok.wish {X : Cx} (ok : X.Ok) (E : Value → Shared → Prop) : (X.wish E).Ok :=
  ⟨ok.mod, ok.kind, ok.glob, ok.blt, ok.above, ok.inj, ok.has, ok.cab, ok.hd, ok.frames, ok.stk, ok.exf, ok.bs, ok.bsz, ok.noex, ok.exfs, ok.funs, ok.frf⟩
theorem Cx.Ok.unwish {X : Cx} {E : Value → Shared → Prop} (ok : (X.wish E).Ok) : X.Ok :=
  ⟨ok.mod, ok.kind, ok.glob, ok.blt, ok.above, ok.inj, ok.has, ok.cab, ok.hd, ok.frames, ok.stk, ok.exf, ok.bs, ok.bsz, ok.noex, ok.exfs, ok.funs, ok.frf⟩
section
variable {X : Cx} {pins : List (Addr × Obj)} {σ : St} {H : Hp} {s : Shared} {E : Value → Shared → Prop}
theorem Inv.wish (I : Inv X pins σ H s) (E : Value → Shared → Prop) : Inv (X.wish E) pins σ H s := ⟨I.ok.wish E, I.os, I.bare, I.base, I.loc, I.cell, I.free, I.freeC, I.pin, I.hok, I.len⟩
theorem Inv.unwish (I : Inv (X.wish E) pins σ H s) : Inv X pins σ H s := ⟨I.ok.unwish, I.os, I.bare, I.base, I.loc, I.cell, I.free, I.freeC, I.pin, I.hok, I.len⟩
theorem SP.unwish {D : Ends} {f : Flow} {s' : Shared} (h : SP (X.wish E) pins D f s') : SP X pins D f s' := by
  cases f with
  | next => obtain ⟨σ', H', I, q⟩ := h; exact ⟨σ', H', I.unwish, q⟩
  | brk => obtain ⟨σ', H', I, q⟩ := h; exact ⟨σ', H', I.unwish, q⟩
  | cont => obtain ⟨σ', H', I, q⟩ := h; exact ⟨σ', H', I.unwish, q⟩
  | ret u => obtain ⟨v, σ', H', I, r, q⟩ := h; exact ⟨v, σ', H', I.unwish, r, q⟩
theorem PSs.nox {st : List Stmt} {t : TS} (h : PSs X.nox st t) : PSs X st t := fun pins s σ H D I hw =>
  wpAny_mono (h pins s σ H D (I.wish _) hw) (fun _ _ q => q.unwish) fun _ _ z => False.elim z
end
section
variable {X : Cx} {st : Stmt} {rest : List Stmt} {t u : TS} {e : Expr} {te : TE} {pos : Pos}
def tNext : TS := fun D σ H => D.nx σ H
def tSeq (t u : TS) : TS := fun D σ H => t { D with nx := u D } σ H
theorem pss_nil : PSs X [] tNext := fun _ _ σ H _ I h => wpAny_execs_nil ⟨σ, H, I, h⟩
theorem pss_cons (h1 : PS X st t) (h2 : PSs X rest u) : PSs X (st :: rest) (tSeq t u) := by
  intro pins s σ H D I h
  refine wpAny_execs_cons (thn (h1 pins s σ H { D with nx := u D } I h) fun f s1 q => ?_)
  cases f with
  | next =>
    obtain ⟨σ', H', I', q⟩ := q
    exact h2 pins s1 σ' H' D I' q
  | ret v => exact q
  | brk => exact q
  | cont => exact q
theorem pss_one (h1 : PS X st t) : PSs X [st] t := by
  intro pins s σ H D I h
  refine wpAny_execs_cons (thn (h1 pins s σ H D I h) fun f s1 q => ?_)
  cases f with
  | next => exact wpAny_execs_nil q
  | ret v => exact q
  | brk => exact q
  | cont => exact q
theorem Inv.quiet {pins : List (Addr × Obj)} {σ : St} {H : Hp} {s : Shared} (I : Inv X pins σ H s) : interactive X.env = false := by simp [interactive, I.ok.kind]
def tDrop (te : TE) : TS := fun D σ H => te σ H fun _ H1 => D.nx σ H1
theorem ps_expr (he : PE X e te) (hs : swapsWith e none pos.line X.env = pure false := by rfl) : PS X (.Expr e pos) (tDrop te) := by
  intro pins s σ H D I h
  exact wpAny_Expr_any (thn (he pins s σ H _ I h) fun v s1 ⟨x, H1, I1, r1, q1⟩ => ⟨σ, H1, I1, q1⟩) I.quiet hs
def tRet (te : TE) : TS := fun D σ H => te σ H D.rt
theorem ps_ret (he : PE X e te) : PS X (.Return (some e) pos) (tRet te) := by
  intro pins s σ H D I h
  exact wpAny_Return_some (thn (he pins s σ H _ I h) fun v s1 ⟨x, H1, I1, r1, q1⟩ => ⟨x, σ, H1, I1, r1, q1⟩)
def tIfS (c : TT) (t u : TS) : TS := fun D σ H => c σ H fun b H1 => if b = true then t D σ H1 else u D σ H1
theorem ps_if {c : Expr} {a b : List Stmt} {tc : TT} (hc : PT X c tc) (ha : PSs X a t) (hb : PSs X b u) : PS X (.If c a b pos) (tIfS tc t u) := by
  intro pins s σ H D I h
  refine wpAny_If (thn (hc pins s σ H _ I h) fun d s1 ⟨H1, I1, q1⟩ => ?_)
  cases d with
  | true => exact ha pins s1 σ H1 D I1 q1
  | false => exact hb pins s1 σ H1 D I1 q1
def tNever : TS := fun _ _ _ => False
theorem pss_never {sts : List Stmt} : PSs X sts tNever := fun _ _ _ _ _ _ h => h.elim
end
abbrev TG := V → St → Hp → (St → Hp → Prop) → Prop
abbrev TGs := List V → St → Hp → (St → Hp → Prop) → Prop
def PG (X : Cx) (target : Expr) (t : TG) : Prop :=
  ∀ (pins : List (Addr × Obj)) (s : Shared) (σ : St) (H : Hp) (v : V) (u : Value) (Q : St → Hp → Prop), Inv X pins σ H s → RelV v u → t v σ H Q →
    wpAny (model X.prog X.w) X.A (assign target X.env u) (fun _ s' => ∃ σ' H', Inv X pins σ' H' s' ∧ Q σ' H') X.xe s
def PGs (X : Cx) (ts : List Expr) (t : TGs) : Prop :=
  ∀ (pins : List (Addr × Obj)) (s : Shared) (σ : St) (H : Hp) (vs : List V) (us : List Value) (Q : St → Hp → Prop), Inv X pins σ H s → Vals vs us → t vs σ H Q →
    wpAny (model X.prog X.w) X.A (assignInOrder ((assignEach ts X.env).map (·.2)) us) (fun _ s' => ∃ σ' H', Inv X pins σ' H' s' ∧ Q σ' H') X.xe s
section
variable {X : Cx} {pos : Pos}
def gName (i : Nat) : TG := fun v σ H Q => Q (σ.set i (some v)) H
theorem pg_name {i : Nat} {x : Str} (hN : X.N.Nodup) (hi : X.N[i]? = some x) (hx : Loc X.env.scope x) (hf : X.fn x = true ∨ X.env.scope.names.lookup x = some .local := by first | exact .inl rfl | exact .inr rfl | assumption) : PG X (.Name x pos) (gName i) := by
  intro pins s σ H v u Q I r h
  exact wpAny_assign_Name (store_ok I hN hi hx r (fun s' I' => ⟨_, H, I', h⟩) hf)
def gNil : TGs := fun vs σ H Q => vs = [] ∧ Q σ H
def gCons (t : TG) (u : TGs) : TGs := fun vs σ H Q => ∃ v r, vs = v :: r ∧ t v σ H fun σ' H' => u r σ' H' Q
theorem pgs_nil : PGs X [] gNil := by
  intro pins s σ H vs us Q I r h
  obtain ⟨e, h⟩ := h
  subst e
  cases r
  exact assignInOrder_nil ⟨σ, H, I, h⟩
theorem pgs_cons {e : Expr} {es : List Expr} {t : TG} {u : TGs} (h1 : PG X e t) (h2 : PGs X es u)
    (hs : (assignEach (e :: es) X.env).map (·.2) = assign e X.env :: (assignEach es X.env).map (·.2) := by rfl) : PGs X (e :: es) (gCons t u) := by
  intro pins s σ H vs us Q I r h
  obtain ⟨v, vr, e1, h⟩ := h
  subst e1
  cases r with
  | cons r rr =>
    rw [hs]
    refine assignInOrder_cons (thn (h1 pins s σ H _ _ _ I r h) fun _ s1 ⟨σ1, H1, I1, q1⟩ => ?_)
    exact h2 pins s1 σ1 H1 _ _ Q I1 rr q1
def gTup (K : PySem.W.Frag) (n : Nat) (t : TGs) : TG := fun v σ H Q => ∃ a xs, v = .ref a ∧ SqT K H a xs ∧ xs.length = n ∧ t xs σ H Q
theorem pg_tup {es : List Expr} {k : Nat} {t : TGs} {n : Nat} (hc : X.calm = true) (h : PGs X es t)
    (hn : (assignEach es X.env).length = n := by rfl) (hst : (assignEach es X.env).findIdx? (·.1) = none := by rfl) : PG X (.Tuple es k pos) (gTup X.K n t) := by
  intro pins s σ H v u Q I r hw
  obtain ⟨a, xs, e1, hq, hl, hw⟩ := hw
  subst e1
  cases r
  obtain ⟨its, rv, ht, hz⟩ := I.tuple hq
  refine assign_Tuple_tuple (I.ok.hd hc) ht (by simp [hn, ← hl, rv.length]) hst fun h' hx => ?_
  have I1 : Inv X pins σ H { s with heap := h' } := I.kept (t' := s.toks) fun b o e => hx b o (Nat.ne_of_lt (Heap.lt_size e)) e
  exact h pins _ σ H xs _ Q I1 (by simpa using rv) hw
def tAsg (te : TE) (g : TG) : TS := fun D σ H => te σ H fun x H1 => g x σ H1 D.nx
theorem ps_set {i : Nat} {x : Str} {e : Expr} {te : TE} {pos' : Pos} (hN : X.N.Nodup) (hi : X.N[i]? = some x) (hx : Loc X.env.scope x) (he : PE X e te) (hs : swapsWith e (some (.Name x pos')) pos.line X.env = pure false := by rfl) (hf : X.fn x = true ∨ X.env.scope.names.lookup x = some .local := by first | exact .inl rfl | exact .inr rfl | assumption) :
    PS X (.Assign [.Name x pos'] e pos) (tAsg te (gName i)) := by
  intro pins s σ H D I h
  refine wpAny_Assign_Name (thn (he pins s σ H _ I h) fun v s1 ⟨y, H1, I1, r1, q1⟩ => ?_) hs
  exact store_ok I1 hN hi hx r1 (fun s2 I2 => ⟨_, H1, I2, q1⟩) hf
end
section
variable {X : Cx} {pos : Pos}
def tWhile (c : TT) (tb : TS) : TS := fun D σ H => ∃ W : Nat → St → Hp → Prop, (∃ m, W m σ H) ∧ ∀ m σ H, W m σ H →
  c σ H fun b H1 => if b = true then ∃ N : St → Hp → Prop, (∀ σ' H', N σ' H' → ∃ m', m' < m ∧ W m' σ' H') ∧ tb { D with nx := N, ct := N, bk := D.nx } σ H1 else D.nx σ H1
theorem ps_while {c : Expr} {body : List Stmt} {tc : TT} {tb : TS} (hp : PassesOwn (model X.prog X.w) X.A X.env X.xe) (hc : PT X c tc) (hb : PSs X body tb) : PS X (.While c body [] pos) (tWhile tc tb) := by
  intro pins s σ H D I h
  obtain ⟨W, ⟨m0, w0⟩, turn⟩ := h
  refine wpAny_While (codeAny_whileLoop (fun n s' => ∃ σ' H', Inv X pins σ' H' s' ∧ W n σ' H') ?_ m0 ⟨σ, H, I, w0⟩)
  rintro n s1 ⟨σ1, H1, I1, w1⟩
  refine wpAny_passesOwn hp (thn (hc pins s1 σ1 H1 _ I1 (turn n σ1 H1 w1)) fun b s2 ⟨H2, I2, q2⟩ => ?_)
  cases b with
  | true =>
    obtain ⟨N, hN, q2⟩ := q2
    rw [if_pos rfl]
    refine wpAny_passesOwn hp (thn (hb pins s2 σ1 H2 _ I2 q2) fun f s3 q3 => ?_)
    cases f with
    | next =>
      obtain ⟨σ3, H3, I3, n3⟩ := q3
      obtain ⟨m', hm, w3⟩ := hN σ3 H3 n3
      exact ⟨m', hm, σ3, H3, I3, w3⟩
    | cont =>
      obtain ⟨σ3, H3, I3, n3⟩ := q3
      obtain ⟨m', hm, w3⟩ := hN σ3 H3 n3
      exact ⟨m', hm, σ3, H3, I3, w3⟩
    | brk => exact q3
    | ret v => exact q3
  | false =>
    rw [if_neg Bool.false_ne_true]
    exact wpAny_execs_nil ⟨σ1, H2, I2, q2⟩
end
structure It where
  go : Nat → Hp → Prop
  yld : Nat → Hp → V → Hp → Prop
  stop : Nat → Hp → Prop
def FpOk (X : Cx) (pins : List (Addr × Obj)) (H : Hp) (b : Addr) : Prop :=
  H b = none ∧ b ≠ X.env.locals ∧ b ∉ X.fs ∧ (b ∈ X.ex ∨ X.s₀.heap.objs.size ≤ b) ∧ (∀ x c, X.env.cells.lookup x = some c → c ≠ b) ∧ ∀ p ∈ X.pn ++ pins, p.1 ≠ b
theorem Inv.fpOk {X : Cx} {pins : List (Addr × Obj)} {σ : St} {H H' : Hp} {s : Shared} {b : Addr} (I : Inv X pins σ H s) (hb : s.heap.objs.size ≤ b) (hn : H' b = none) : FpOk X pins H' b := by
  refine ⟨hn, Nat.ne_of_gt (Nat.lt_of_lt_of_le I.lt hb), I.nofs hb, .inr (Nat.le_trans I.sz hb), fun x c e z => ?_, fun p hp z => ?_⟩
  · obtain ⟨v, q⟩ := I.cell x c e
    exact absurd (Nat.lt_of_lt_of_le q.lt (by rw [z]; exact hb)) (Nat.lt_irrefl _)
  · exact absurd (Nat.lt_of_lt_of_le (Heap.lt_size (I.pin p hp).1) (by rw [z]; exact hb)) (Nat.lt_irrefl _)
structure Turn (P : Program) (w : World) (K : PySem.W.Frag) (tg : Expr) (J : It) (fp : List Addr) (it : Addr) (tn : Nat → Heap → Prop) : Prop where
  mem : it ∈ fp
  obj : ∀ i h, tn i h → ∀ b ∈ fp, ∃ o, h.get? b = some o ∧ ∀ v, o.data ≠ .cell v
  keep : ∀ i h h', tn i h → (∀ b ∈ fp, ∀ o, h.get? b = some o → h'.get? b = some o) → tn i h'
  item : ∀ (X : Cx), X.prog = P → X.w = w → X.K = K → X.calm = true → ∀ (i : Nat) (pins : List (Addr × Obj)) (s : Shared) (σ : St) (H : Hp) (E : Value → Shared → Prop), Inv X pins σ H s → (∀ b ∈ fp, FpOk X pins H b) → tn i s.heap → J.go i H →
    wpAny (model P w) X.A (pyNext (.ref it)) (fun r s1 => ∃ u, r = some u ∧
      wpAny (model P w) X.A (letOwnedTupleGo tg (.ref it) u) (fun _ s2 => ∃ x H', Inv X pins σ H' s2 ∧ RelV x u ∧ J.yld i H x H' ∧ tn (i + 1) s2.heap ∧ ∀ b ∈ fp, H' b = none) E s1) E s
  done : ∀ (X : Cx), X.prog = P → X.w = w → X.K = K → X.calm = true → ∀ (i : Nat) (pins : List (Addr × Obj)) (s : Shared) (σ : St) (H : Hp) (E : Value → Shared → Prop), Inv X pins σ H s → (∀ b ∈ fp, FpOk X pins H b) → tn i s.heap → J.stop i H →
    wpAny (model P w) X.A (pyNext (.ref it)) (fun r s1 => r = none ∧ Inv X pins σ H s1) E s
  self : ∀ (A : Around) (i : Nat) (s : Shared) (Q : Value → Shared → Prop) (E : Value → Shared → Prop), tn i s.heap → Q (.ref it) s → wpAny (model P w) A (pyIter (.ref it)) Q E s
abbrev TI := St → Hp → (It → Hp → Prop) → Prop
def PIE (X : Cx) (pins : List (Addr × Obj)) (σ : St) (tg : Expr) (R : It → Hp → Prop) (itv : Value) (s2 : Shared) : Prop :=
  ∃ (it : Addr) (fp : List Addr) (tn : Nat → Heap → Prop) (J : It) (H' : Hp), itv = .ref it ∧ Inv X pins σ H' s2 ∧ Turn X.prog X.w X.K tg J fp it tn ∧ tn 0 s2.heap ∧ (∀ b ∈ fp, FpOk X pins H' b) ∧ R J H'
def PI (X : Cx) (tg iter : Expr) (wi : TI) : Prop :=
  ∀ (pins : List (Addr × Obj)) (s : Shared) (σ : St) (H : Hp) (R : It → Hp → Prop), Inv X pins σ H s → wi σ H R →
    wpAny (model X.prog X.w) X.A (eval iter X.env) (fun v s1 => wpAny (model X.prog X.w) X.A (pyIter v) (PIE X pins σ tg R) X.xe s1) X.xe s
theorem go_of {M : Model} {A : Around} {E : Value → Shared → Prop} {s : Shared} {tg : Expr} {it : Addr} {u : Value} {o : Obj} {n : String} {vs : Array Value} {Q : Unit → Shared → Prop} (ho : s.heap.get? it = some o) (hc : o.cls = .type n) (hd : o.data = .fields vs)
    (hn : ["enumerate", "zip", "dict_itemiterator", "dict_reverseitemiterator", "odict_iterator", "itertools.zip_longest", "itertools.pairwise"].contains n = false) (hQ : Q () s) : wpAny M A (letOwnedTupleGo tg (.ref it) u) Q E s := by
  unfold letOwnedTupleGo
  cases tg <;> first
    | exact wpAny_pure hQ
    | (cases u <;> first
        | exact wpAny_pure hQ
        | (refine wpAny_bind (wpAny_load ho ?_)
           rw [hc, hd]
           show wpAny M A (if (["enumerate", "zip", "dict_itemiterator", "dict_reverseitemiterator", "odict_iterator", "itertools.zip_longest", "itertools.pairwise"].contains n && vs[0]? == some (rawInt _)) = true then _ else _) Q E s
           rw [if_neg (by intro h; rw [hn, Bool.false_and] at h; cases h)]
           exact wpAny_pure hQ))
def Itl (K : PySem.W.Frag) (a : Addr) : It :=
  ⟨fun i H => ∃ xs x, SqL K H a xs ∧ xs[i]? = some x, fun i H x H' => H' = H ∧ ∀ xs, SqL K H a xs → xs[i]? = some x, fun i H => ∃ xs, SqL K H a xs ∧ xs.length ≤ i⟩
def Itt (K : PySem.W.Frag) (a : Addr) : It :=
  ⟨fun i H => ∃ xs x, SqT K H a xs ∧ xs[i]? = some x, fun i H x H' => H' = H ∧ ∀ xs, SqT K H a xs → xs[i]? = some x, fun i H => ∃ xs, SqT K H a xs ∧ xs.length ≤ i⟩
def Itr (lo : Int) (n : Nat) : It := ⟨fun i _ => i < n, fun i H x H' => H' = H ∧ x = .int (lo + i), fun i _ => n ≤ i⟩
theorem turn_list {P : Program} {w : World} {K : PySem.W.Frag} {tg : Expr} (a it : Addr) : Turn P w K tg (Itl K a) [it] it (fun i h => h.IsListIter it a i) where
  mem := by simp
  obj := fun i h st b hb => by
    have e : b = it := by simpa using hb
    subst e
    obtain ⟨o, e, c, d⟩ := st
    exact ⟨o, e, fun v z => by rw [d] at z; cases z⟩
  keep := fun i h h' st k => st.at fun o e => k it (by simp) o e
  item := by
    intro X hP hw hK hc i pins s σ H E I hf st hg
    subst hP hw hK
    obtain ⟨xs, x, hq, hx⟩ := hg
    obtain ⟨its, rv, p, hz⟩ := I.list hq
    obtain ⟨u, hu, ru⟩ := rv.get hx
    obtain ⟨f0, f1, f2, f3, f4, f5⟩ := hf it (by simp)
    refine wpAny_pyNext_list_item st p.isList (x := u) (by simpa using hu) fun h' st' sb => ?_
    have I1 : Inv X pins σ H { s with heap := h' } := I.turned (t' := s.toks) (fun b o hb e => (sb.2 b hb).trans e) f0 f1 f3 f4 f5
    obtain ⟨o, e, c, d⟩ := id st'
    exact ⟨u, rfl, go_of (s := { s with heap := h' }) e c d (by decide) ⟨x, H, I1, ru, ⟨rfl, fun ys hy => by rw [I.list_inj hy hq]; exact hx⟩, st', fun b hb => (hf b hb).1⟩⟩
  done := by
    intro X hP hw hK hc i pins s σ H E I hf st hg
    subst hP hw hK
    obtain ⟨xs, hq, hx⟩ := hg
    obtain ⟨its, rv, p, hz⟩ := I.list hq
    obtain ⟨f0, f1, f2, f3, f4, f5⟩ := hf it (by simp)
    have hl := rv.length
    exact wpAny_pyNext_list_end (I.ok.hd hc) st p.isList (by simp; omega) fun h' eb => ⟨rfl, I.turned (t' := s.toks) (fun b o hb e => eb b o hb e) f0 f1 f3 f4 f5⟩
  self := fun _ _ _ _ _ st h => wpAny_pyIter_listiter st h
theorem turn_tuple {P : Program} {w : World} {K : PySem.W.Frag} {tg : Expr} (a it : Addr) : Turn P w K tg (Itt K a) [it] it (fun i h => h.IsTupleIter it a i) where
  mem := by simp
  obj := fun i h st b hb => by
    have e : b = it := by simpa using hb
    subst e
    obtain ⟨o, e, c, d⟩ := st
    exact ⟨o, e, fun v z => by rw [d] at z; cases z⟩
  keep := fun i h h' st k => st.at fun o e => k it (by simp) o e
  item := by
    intro X hP hw hK hc i pins s σ H E I hf st hg
    subst hP hw hK
    obtain ⟨xs, x, hq, hx⟩ := hg
    obtain ⟨its, rv, p, hz⟩ := I.tuple hq
    obtain ⟨u, hu, ru⟩ := rv.get hx
    obtain ⟨f0, f1, f2, f3, f4, f5⟩ := hf it (by simp)
    refine wpAny_pyNext_tuple_item st (show s.heap.IsTuple a its.toArray from p) (x := u) (by simpa using hu) fun h' st' sb => ?_
    have I1 : Inv X pins σ H { s with heap := h' } := I.turned (t' := s.toks) (fun b o hb e => (sb.2 b hb).trans e) f0 f1 f3 f4 f5
    obtain ⟨o, e, c, d⟩ := id st'
    exact ⟨u, rfl, go_of (s := { s with heap := h' }) e c d (by decide) ⟨x, H, I1, ru, ⟨rfl, fun ys hy => by rw [I.tuple_inj hy hq]; exact hx⟩, st', fun b hb => (hf b hb).1⟩⟩
  done := by
    intro X hP hw hK hc i pins s σ H E I hf st hg
    subst hP hw hK
    obtain ⟨xs, hq, hx⟩ := hg
    obtain ⟨its, rv, p, hz⟩ := I.tuple hq
    obtain ⟨f0, f1, f2, f3, f4, f5⟩ := hf it (by simp)
    have hl := rv.length
    exact wpAny_pyNext_tuple_end (I.ok.hd hc) st (show s.heap.IsTuple a its.toArray from p) (by simp; omega) fun h' eb => ⟨rfl, I.turned (t' := s.toks) (fun b o hb e => eb b o hb e) f0 f1 f3 f4 f5⟩
  self := fun _ _ _ _ _ st h => wpAny_pyIter_tupleiter st h
theorem turn_range {P : Program} {w : World} {K : PySem.W.Frag} {tg : Expr} (it : Addr) (lo : Int) (n : Nat) : Turn P w K tg (Itr lo n) [it] it (fun i h => IsRangeIter h it (lo + (i : Nat) * 1) ((n : Int) - (i : Nat)) 1) where
  mem := by simp
  obj := fun i h st b hb => by
    have e : b = it := by simpa using hb
    subst e
    exact ⟨_, st, fun v z => by
      have z' : Data.fields _ = Data.cell v := z
      cases z'⟩
  keep := fun i h h' st k => k it (by simp) _ st
  item := by
    intro X hP hw hK hc i pins s σ H E I hf st hg
    subst hP hw hK
    obtain ⟨f0, f1, f2, f3, f4, f5⟩ := hf it (by simp)
    have W := Walks.range (prog := X.prog) (w := X.w) (I.ok.hd hc) it lo 1 n
    refine W.item i s _ _ hg st fun v h' tk hv st' kk => ?_
    obtain ⟨t, rfl⟩ := hv
    have I1 : Inv X pins σ H { s with heap := h', toks := tk } := I.turned (fun b o hb e => kk b o (by simpa using hb) e) f0 f1 f3 f4 f5
    refine ⟨_, rfl, go_of (s := { s with heap := h', toks := tk }) (n := "range_iterator") st' rfl rfl (by decide) ⟨.int (lo + i), H, I1, ⟨t, ?_⟩, ⟨rfl, rfl⟩, st', fun b hb => (hf b hb).1⟩⟩
    rw [Int.mul_one]
  done := by
    intro X hP hw hK hc i pins s σ H E I hf st hg
    subst hP hw hK
    obtain ⟨f0, f1, f2, f3, f4, f5⟩ := hf it (by simp)
    exact wpAny_pyNext_range_end (I.ok.hd hc) st (by have : n ≤ i := hg; omega) fun h' eb => ⟨rfl, I.turned (t' := s.toks) (fun b o hb e => eb b o hb e) f0 f1 f3 f4 f5⟩
  self := fun _ _ _ _ _ st h => wpAny_pyIter_rangeiter st h
end L2
namespace L2
open PySem PySem.Spec PyProof.Rows
section
variable {X : Cx} {tg : Expr}
def iList (K : PySem.W.Frag) (tl : TE) : TI := fun σ H R => tl σ H fun x H1 => ∃ a, x = .ref a ∧ (∃ xs, SqL K H1 a xs) ∧ R (Itl K a) H1
def iTup (K : PySem.W.Frag) (tl : TE) : TI := fun σ H R => tl σ H fun x H1 => ∃ a, x = .ref a ∧ (∃ xs, SqT K H1 a xs) ∧ R (Itt K a) H1
theorem pi_list {l : Expr} {tl : TE} (hl : PE X l tl) : PI X tg l (iList X.K tl) := by
  intro pins s σ H R I h
  refine thn (hl pins s σ H _ I h) fun v s1 ⟨x, H1, I1, r1, q1⟩ => ?_
  obtain ⟨a, e, ⟨xs, hq⟩, q⟩ := q1
  subst e
  cases r1
  obtain ⟨its, rv, p, hz⟩ := I1.list hq
  refine wpAny_pyIter_list p.isList ?_
  refine ⟨s1.heap.objs.size, [s1.heap.objs.size], _, _, H1, rfl, I1.kept (t' := s1.toks) fun b o e => Heap.get?_push_of_some _ e, turn_list a _, ⟨_, Heap.get?_push_size _ rfl, rfl, rfl⟩, fun b hb => ?_, q⟩
  have e : b = s1.heap.objs.size := by simpa using hb
  subst e
  exact I1.fpOk (Nat.le_refl _) (I1.hok.fresh (Nat.le_refl _))
theorem pi_tup {l : Expr} {tl : TE} (hl : PE X l tl) : PI X tg l (iTup X.K tl) := by
  intro pins s σ H R I h
  refine thn (hl pins s σ H _ I h) fun v s1 ⟨x, H1, I1, r1, q1⟩ => ?_
  obtain ⟨a, e, ⟨xs, hq⟩, q⟩ := q1
  subst e
  cases r1
  obtain ⟨its, rv, p, hz⟩ := I1.tuple hq
  refine wpAny_pyIter_tuple (show s1.heap.IsTuple a its.toArray from p) ?_
  refine ⟨s1.heap.objs.size, [s1.heap.objs.size], _, _, H1, rfl, I1.kept (t' := s1.toks) fun b o e => Heap.get?_push_of_some _ e, turn_tuple a _, ⟨_, Heap.get?_push_size _ rfl, rfl, rfl⟩, fun b hb => ?_, q⟩
  have e : b = s1.heap.objs.size := by simpa using hb
  subst e
  exact I1.fpOk (Nat.le_refl _) (I1.hok.fresh (Nat.le_refl _))
theorem range_it {pins : List (Addr × Obj)} {σ : St} {H : Hp} {s : Shared} {R : It → Hp → Prop} {E : Value → Shared → Prop} {lo hi : Int} {t u v : Tok} {tk : Nat} (I : Inv X pins σ H s) (h1 : -(2 ^ 62) ≤ lo) (h2 : lo < 2 ^ 62) (h3 : -(2 ^ 62) ≤ hi) (h4 : hi < 2 ^ 62)
    (q : R (Itr lo (hi - lo).toNat) H) : wpAny (model X.prog X.w) X.A (pyIter (.ref s.heap.objs.size)) (PIE X pins σ tg R) E { s with heap := s.heap.push { cls := .type "range", data := .fields #[.int lo t, .int hi u, .int 1 v] }, toks := tk } := by
  refine wpAny_pyIter_range (IsRange.new ..) (small_one h1 h2 h3 h4) ?_
  have I1 : Inv X pins σ H { s with heap := s.heap.push { cls := .type "range", data := .fields #[.int lo t, .int hi u, .int 1 v] }, toks := tk } := I.kept fun b o e => Heap.get?_push_of_some _ e
  refine ⟨(s.heap.push { cls := .type "range", data := .fields #[.int lo t, .int hi u, .int 1 v] }).objs.size, [(s.heap.push { cls := .type "range", data := .fields #[.int lo t, .int hi u, .int 1 v] }).objs.size], _, _, H, rfl,
    I1.kept (t' := tk) fun b o e => Heap.get?_push_of_some _ e, turn_range _ lo (hi - lo).toNat, ?_, fun b hb => ?_, q⟩
  · have e1 : lo + ((0 : Nat) : Int) * 1 = lo := by simp
    have e2 : (((hi - lo).toNat : Nat) : Int) - ((0 : Nat) : Int) = Builtin.Range.rangeSize lo hi 1 := by rw [rangeSize_one]; split <;> omega
    show IsRangeIter _ _ (lo + ((0 : Nat) : Int) * 1) ((((hi - lo).toNat : Nat) : Int) - ((0 : Nat) : Int)) 1
    rw [e1, e2]
    exact Heap.get?_push_size _ rfl
  · have e : b = (s.heap.push { cls := .type "range", data := .fields #[.int lo t, .int hi u, .int 1 v] }).objs.size := by simpa using hb
    subst e
    exact I1.fpOk (Nat.le_refl _) (I1.hok.fresh (Nat.le_refl _))
def iRng1 (ta : TA) : TI := fun σ H R => ta σ H fun vs H1 => ∃ j : Int, vs = [.int j] ∧ -(2 ^ 62) ≤ j ∧ j < 2 ^ 62 ∧ R (Itr 0 j.toNat) H1
theorem pi_range1 {a : Expr} {ta : TA} {p pos : Pos} (hg : Gl X "range") (hm : X.mg "range" = none) (ha : PA X [a] ta) (hs : starEach [a] X.env = [(false, eval a X.env)] := by rfl) : PI X tg (.Call (.Name "range" p) [a] [] pos) (iRng1 ta) := by
  intro pins s σ H R I h
  refine Call_ (ld_blt I hg hm boot_range (PyProof.Rows.callWith_type1 (thn (ha pos pins s σ H _ I h) fun us s1 ⟨vs, H1, I1, r1, q1⟩ => ?_) hs rfl))
  obtain ⟨j, e, q1, q2, q⟩ := q1
  subst e
  cases r1 with
  | cons r rr =>
    cases rr
    obtain ⟨t, rfl⟩ := r
    exact call_range_1 (range_it I1 (by omega) (by omega) q1 q2 (by simpa using q))
def tFor (wi : TI) (g : TG) (tb : TS) : TS := fun D σ H => wi σ H fun J H1 => ∃ W : Nat → Nat → St → Hp → Prop, (∃ m, W 0 m σ H1) ∧ ∀ i m σ H, W i m σ H →
  (J.stop i H ∧ D.nx σ H) ∨ (J.go i H ∧ ∃ N : St → Hp → Prop, (∀ σ' H', N σ' H' → ∃ m', m' < m ∧ W (i + 1) m' σ' H') ∧ ∀ x H', J.yld i H x H' → g x σ H' fun σ2 H2 => tb { D with nx := N, ct := N, bk := D.nx } σ2 H2)
def pinsAt (fp : List Addr) (h : Heap) : List (Addr × Obj) := fp.filterMap fun b => (h.get? b).map fun o => (b, o)
theorem mem_pinsAt {fp : List Addr} {h : Heap} {b : Addr} {o : Obj} (hb : b ∈ fp) (e : h.get? b = some o) : (b, o) ∈ pinsAt fp h := List.mem_filterMap.mpr ⟨b, hb, by rw [e]; rfl⟩
theorem of_pinsAt {fp : List Addr} {h : Heap} {p : Addr × Obj} (hp : p ∈ pinsAt fp h) : p.1 ∈ fp ∧ h.get? p.1 = some p.2 := by
  obtain ⟨b, hb, e⟩ := List.mem_filterMap.mp hp
  cases q : h.get? b with
  | none => rw [q] at e; cases e
  | some o =>
    rw [q] at e
    have e' : (b, o) = p := Option.some.inj e
    subst e'
    exact ⟨hb, q⟩
theorem Inv.pinned {pins : List (Addr × Obj)} {σ : St} {H : Hp} {s : Shared} {fp : List Addr} (I : Inv X pins σ H s) (hf : ∀ b ∈ fp, FpOk X pins H b) (ho : ∀ b ∈ fp, ∃ o, s.heap.get? b = some o ∧ ∀ v, o.data ≠ .cell v) : Inv X (pins ++ pinsAt fp s.heap) σ H s :=
  I.pins_of fun p hp => (List.mem_append.mp hp).elim (fun z => I.pin p (List.mem_append_right _ z)) fun z => by
    obtain ⟨hb, e⟩ := of_pinsAt z
    obtain ⟨f0, f1, f2, _⟩ := hf p.1 hb
    obtain ⟨o, e', d⟩ := ho p.1 hb
    rw [e] at e'; cases e'
    exact ⟨e, f0, f1, f2, d⟩
theorem Inv.unpinned {pins pl : List (Addr × Obj)} {σ : St} {H : Hp} {s : Shared} (I : Inv X (pins ++ pl) σ H s) : Inv X pins σ H s := I.pins_of fun p hp => I.pin p (List.mem_append_right _ (List.mem_append_left _ hp))
theorem ps_for {iter : Expr} {body : List Stmt} {wi : TI} {g : TG} {tb : TS} {pos : Pos} (hp : PassesOwn (model X.prog X.w) X.A X.env X.xe) (hc : X.calm = true) (hi : PI X tg iter wi) (hg : PG X tg g) (hb : PSs X body tb)
    (hs : ∀ x, foldedSetIterable iter X.env x = pure x := by intro _; rfl) : PS X (.For tg iter body [] pos) (tFor wi g tb) := by
  intro pins s σ H D I h
  refine wpAny_For (thn (hi pins s σ H _ I h) fun v s1 h1 => thn h1 fun itv s2 h2 => ?_) hs
  obtain ⟨it, fp, tn, J, H2, e, I2, T, st2, f2, W, ⟨m0, w0⟩, turn⟩ := h2
  subst e
  -- what stays true of the iterator's objects through the loop
  have stat : ∀ {H' : Hp}, (∀ b ∈ fp, H' b = none) → ∀ b ∈ fp, FpOk X pins H' b := fun hn b hb => ⟨hn b hb, (f2 b hb).2⟩
  refine codeAny_forLoop_any (fun n s' => ∃ i σ' H', Inv X pins σ' H' s' ∧ tn i s'.heap ∧ (∀ b ∈ fp, H' b = none) ∧ W i n σ' H') ?_ m0 ⟨0, σ, H2, I2, st2, fun b hb => (f2 b hb).1, w0⟩
  rintro n s3 ⟨i, σ3, H3, I3, st3, fr3, w3⟩
  rcases turn i n σ3 H3 w3 with ⟨stop, qn⟩ | ⟨go, N, hN, step⟩
  · refine wpAny_passesOwn hp (thn (T.done X rfl rfl rfl hc i pins s3 σ3 H3 X.xe I3 (stat fr3) st3 stop) fun r s4 ⟨hr, I4⟩ => ?_)
    subst hr
    exact wpAny_execs_nil ⟨σ3, H3, I4, qn⟩
  · refine wpAny_passesOwn hp (thn (T.item X rfl rfl rfl hc i pins s3 σ3 H3 X.xe I3 (stat fr3) st3 go) fun r s4 ⟨u, hr, h4⟩ => ?_)
    subst hr
    refine wpAny_passesOwn hp (thn h4 fun _ s5 ⟨x, H5, I5, r5, y5, st5, fr5⟩ => ?_)
    have I5' := I5.pinned (stat fr5) (T.obj _ _ st5)
    refine wpAny_passesOwn hp (thn (hg _ s5 σ3 H5 x u _ I5' r5 (step x H5 y5)) fun _ s6 ⟨σ6, H6, I6, q6⟩ => ?_)
    refine wpAny_passesOwn hp (thn (hb _ s6 σ6 H6 _ I6 q6) fun f s7 q7 => ?_)
    have again : ∀ {σ7 : St} {H7 : Hp}, Inv X (pins ++ pinsAt fp s5.heap) σ7 H7 s7 → N σ7 H7 → ∃ m, m < n ∧ ∃ i σ' H', Inv X pins σ' H' s7 ∧ tn i s7.heap ∧ (∀ b ∈ fp, H' b = none) ∧ W i m σ' H' := fun {σ7 H7} I7 n7 => by
      obtain ⟨m', hm, w7⟩ := hN σ7 H7 n7
      refine ⟨m', hm, i + 1, σ7, H7, I7.unpinned, T.keep _ _ _ st5 fun b hb o e => (I7.pin (b, o) (List.mem_append_right _ (List.mem_append_right _ (mem_pinsAt hb e)))).1, fun b hb => ?_, w7⟩
      obtain ⟨o, e, d⟩ := T.obj _ _ st5 b hb
      exact (I7.pin (b, o) (List.mem_append_right _ (List.mem_append_right _ (mem_pinsAt hb e)))).2.1
    cases f with
    | next => obtain ⟨σ7, H7, I7, n7⟩ := q7; exact again I7 n7
    | cont => obtain ⟨σ7, H7, I7, n7⟩ := q7; exact again I7 n7
    | brk => obtain ⟨σ7, H7, I7, q7⟩ := q7; exact ⟨σ7, H7, I7.unpinned, q7⟩
    | ret v => obtain ⟨x7, σ7, H7, I7, r7, q7⟩ := q7; exact ⟨x7, σ7, H7, I7.unpinned, r7, q7⟩
end
theorem for_list {K : PySem.W.Frag} {a : Addr} {xs : List V} {g : TG} {tb : TS} {D : Ends} {σ : St} {H : Hp} (Pv : Nat → St → Hp → Prop) (h0 : Pv 0 σ H) (hl : ∀ i σ H, i ≤ xs.length → Pv i σ H → SqL K H a xs)
    (hs : ∀ i x σ H, xs[i]? = some x → Pv i σ H → g x σ H fun σ2 H2 => tb { D with nx := Pv (i + 1), ct := Pv (i + 1), bk := D.nx } σ2 H2) (hd : ∀ σ H, Pv xs.length σ H → D.nx σ H) :
    ∃ W : Nat → Nat → St → Hp → Prop, (∃ m, W 0 m σ H) ∧ ∀ i m σ H, W i m σ H →
      ((Itl K a).stop i H ∧ D.nx σ H) ∨ ((Itl K a).go i H ∧ ∃ N : St → Hp → Prop, (∀ σ' H', N σ' H' → ∃ m', m' < m ∧ W (i + 1) m' σ' H') ∧ ∀ x H', (Itl K a).yld i H x H' → g x σ H' fun σ2 H2 => tb { D with nx := N, ct := N, bk := D.nx } σ2 H2) := by
  refine ⟨fun i m σ H => m = xs.length - i ∧ i ≤ xs.length ∧ Pv i σ H, ⟨xs.length, by simp, Nat.zero_le _, h0⟩, ?_⟩
  rintro i m σ H ⟨rfl, hi, p⟩
  have q := hl i σ H hi p
  by_cases hlt : i < xs.length
  · refine .inr ⟨⟨xs, xs[i], q, by simp [hlt]⟩, Pv (i + 1), fun σ' H' p' => ⟨xs.length - (i + 1), by omega, rfl, hlt, p'⟩, fun x H' y => ?_⟩
    obtain ⟨e, y⟩ := y
    subst e
    exact hs i x σ _ (y xs q) p
  · have e : i = xs.length := by omega
    subst e
    exact .inl ⟨⟨xs, q, Nat.le_refl _⟩, hd σ H p⟩
theorem for_tup {K : PySem.W.Frag} {a : Addr} {xs : List V} {g : TG} {tb : TS} {D : Ends} {σ : St} {H : Hp} (Pv : Nat → St → Hp → Prop) (h0 : Pv 0 σ H) (hl : ∀ i σ H, i ≤ xs.length → Pv i σ H → SqT K H a xs)
    (hs : ∀ i x σ H, xs[i]? = some x → Pv i σ H → g x σ H fun σ2 H2 => tb { D with nx := Pv (i + 1), ct := Pv (i + 1), bk := D.nx } σ2 H2) (hd : ∀ σ H, Pv xs.length σ H → D.nx σ H) :
    ∃ W : Nat → Nat → St → Hp → Prop, (∃ m, W 0 m σ H) ∧ ∀ i m σ H, W i m σ H →
      ((Itt K a).stop i H ∧ D.nx σ H) ∨ ((Itt K a).go i H ∧ ∃ N : St → Hp → Prop, (∀ σ' H', N σ' H' → ∃ m', m' < m ∧ W (i + 1) m' σ' H') ∧ ∀ x H', (Itt K a).yld i H x H' → g x σ H' fun σ2 H2 => tb { D with nx := N, ct := N, bk := D.nx } σ2 H2) := by
  refine ⟨fun i m σ H => m = xs.length - i ∧ i ≤ xs.length ∧ Pv i σ H, ⟨xs.length, by simp, Nat.zero_le _, h0⟩, ?_⟩
  rintro i m σ H ⟨rfl, hi, p⟩
  have q := hl i σ H hi p
  by_cases hlt : i < xs.length
  · refine .inr ⟨⟨xs, xs[i], q, by simp [hlt]⟩, Pv (i + 1), fun σ' H' p' => ⟨xs.length - (i + 1), by omega, rfl, hlt, p'⟩, fun x H' y => ?_⟩
    obtain ⟨e, y⟩ := y
    subst e
    exact hs i x σ _ (y xs q) p
  · have e : i = xs.length := by omega
    subst e
    exact .inl ⟨⟨xs, q, Nat.le_refl _⟩, hd σ H p⟩
theorem for_range {lo : Int} {n : Nat} {g : TG} {tb : TS} {D : Ends} {σ : St} {H : Hp} (Pv : Nat → St → Hp → Prop) (h0 : Pv 0 σ H)
    (hs : ∀ i σ H, i < n → Pv i σ H → g (.int (lo + i)) σ H fun σ2 H2 => tb { D with nx := Pv (i + 1), ct := Pv (i + 1), bk := D.nx } σ2 H2) (hd : ∀ σ H, Pv n σ H → D.nx σ H) :
    ∃ W : Nat → Nat → St → Hp → Prop, (∃ m, W 0 m σ H) ∧ ∀ i m σ H, W i m σ H →
      ((Itr lo n).stop i H ∧ D.nx σ H) ∨ ((Itr lo n).go i H ∧ ∃ N : St → Hp → Prop, (∀ σ' H', N σ' H' → ∃ m', m' < m ∧ W (i + 1) m' σ' H') ∧ ∀ x H', (Itr lo n).yld i H x H' → g x σ H' fun σ2 H2 => tb { D with nx := N, ct := N, bk := D.nx } σ2 H2) := by
  refine ⟨fun i m σ H => m = n - i ∧ i ≤ n ∧ Pv i σ H, ⟨n, by simp, Nat.zero_le _, h0⟩, ?_⟩
  rintro i m σ H ⟨rfl, hi, p⟩
  by_cases hlt : i < n
  · refine .inr ⟨hlt, Pv (i + 1), fun σ' H' p' => ⟨n - (i + 1), by omega, rfl, hlt, p'⟩, fun x H' y => ?_⟩
    obtain ⟨e, y⟩ := y
    subst e y
    exact hs i σ _ hlt p
  · have e : i = n := by omega
    subst e
    exact .inl ⟨Nat.le_refl _, hd σ H p⟩
theorem while_by {c : TT} {tb : TS} {D : Ends} {σ : St} {H : Hp} (Pv : St → Hp → Prop) (μ : St → Hp → Nat) (h0 : Pv σ H)
    (hs : ∀ σ H, Pv σ H → c σ H fun b H1 => if b = true then tb { D with nx := fun σ' H' => Pv σ' H' ∧ μ σ' H' < μ σ H, ct := fun σ' H' => Pv σ' H' ∧ μ σ' H' < μ σ H, bk := D.nx } σ H1 else D.nx σ H1)
    (mono : ∀ σ H Q Q', (∀ b H1, Q b H1 → Q' b H1) → c σ H Q → c σ H Q') : tWhile c tb D σ H := by
  refine ⟨fun m σ H => m = μ σ H ∧ Pv σ H, ⟨_, rfl, h0⟩, ?_⟩
  rintro m σ H ⟨rfl, p⟩
  refine mono σ H _ _ (fun b H1 q => ?_) (hs σ H p)
  cases b with
  | true => exact ⟨_, fun σ' H' ⟨p', l⟩ => ⟨_, l, rfl, p'⟩, q⟩
  | false => exact q
end L2
namespace L2
open PySem PySem.Spec PyProof.Rows
abbrev R2 := V → V → Hp → VK → Prop
def OpR (X : Cx) (f : Value → Value → Sem Value) (r : R2) : Prop :=
  ∀ (pins : List (Addr × Obj)) (s : Shared) (σ : St) (H : Hp) (x y : V) (v u : Value) (Q : VK), Inv X pins σ H s → RelV x v → RelV y u → r x y H Q →
    wpAny (model X.prog X.w) X.A (f v u) (EP X pins σ Q) X.xe s
def CallR (X : Cx) (f : Value) (r : List V → Hp → VK → Prop) : Prop :=
  ∀ (pins : List (Addr × Obj)) (s : Shared) (σ : St) (H : Hp) (xs : List V) (us : List Value) (Q : VK), Inv X pins σ H s → Vals xs us → r xs H Q →
    wpAny (model X.prog X.w) X.A (call f us) (EP X pins σ Q) X.xe s
def tOp (r : R2) (ta tb : TE) : TE := fun σ H Q => ta σ H fun x H1 => tb σ H1 fun y H2 => r x y H2 Q
def rI (C : Int → Int → Prop) (g : Int → Int → V) : R2 := fun x y H Q => ∃ i j, x = .int i ∧ y = .int j ∧ C i j ∧ Q (g i j) H
def rI0 (g : Int → Int → V) : R2 := fun x y H Q => ∃ i j, x = .int i ∧ y = .int j ∧ Q (g i j) H
section
variable {X : Cx} {a b c : Expr} {ta tb tc : TE} {pos : Pos}
theorem binT (ha : PE X a ta) (hb : PE X b tb) {pins : List (Addr × Obj)} {s : Shared} {σ : St} {H : Hp} {R : V → V → Hp → Prop} (I : Inv X pins σ H s)
    (h : ta σ H fun x H1 => tb σ H1 fun y H2 => R x y H2) {Q : Value → Shared → Prop} {f : Value → Value → Sem Value}
    (hf : ∀ v u s2 x y H2, Inv X pins σ H2 s2 → RelV x v → RelV y u → R x y H2 → wpAny (model X.prog X.w) X.A (f v u) Q X.xe s2) :
    wpAny (model X.prog X.w) X.A (eval a X.env) (fun v s₁ => wpAny (model X.prog X.w) X.A (eval b X.env) (fun u s₂ => wpAny (model X.prog X.w) X.A (f v u) Q X.xe s₂) X.xe s₁) X.xe s := by
  refine thn (ha pins s σ H _ I h) fun v s1 ⟨x, H1, I1, r1, q1⟩ => ?_
  refine thn (hb pins s1 σ H1 _ I1 q1) fun u s2 ⟨y, H2, I2, r2, q2⟩ => ?_
  exact hf v u s2 x y H2 I2 r1 r2 q2
theorem pe_op {op : Operator} {r : R2} (ho : OpR X (binaryOp op) r) (ha : PE X a ta) (hb : PE X b tb) : PE X (.BinOp a op b pos) (tOp r ta tb) := by
  intro pins s σ H Q I h
  exact wpAny_BinOp (binT ha hb I h fun v u s2 x y H2 I2 rx ry q => ho pins s2 σ H2 x y v u Q I2 rx ry q)
theorem opI {f : Value → Value → Sem Value} {C : Int → Int → Prop} {g : Int → Int → Int}
    (rule : ∀ (i j : Int) (t u : Tok) (s : Shared) (Q : Value → Shared → Prop) (E : Value → Shared → Prop), C i j → Q (.int (g i j) s.toks) { s with toks := s.toks + 1 } → wpAny (model X.prog X.w) X.A (f (.int i t) (.int j u)) Q E s) :
    OpR X f (rI C fun i j => .int (g i j)) := by
  intro pins s σ H x y v u Q I rx ry h
  obtain ⟨i, j, rfl, rfl, hc, q⟩ := h
  obtain ⟨t, rfl⟩ := rx
  obtain ⟨t', rfl⟩ := ry
  exact rule i j t t' s _ _ hc ⟨.int (g i j), H, I.tok _, ⟨_, rfl⟩, q⟩
theorem opI0 {f : Value → Value → Sem Value} {g : Int → Int → Int}
    (rule : ∀ (i j : Int) (t u : Tok) (s : Shared) (Q : Value → Shared → Prop) (E : Value → Shared → Prop), Q (.int (g i j) s.toks) { s with toks := s.toks + 1 } → wpAny (model X.prog X.w) X.A (f (.int i t) (.int j u)) Q E s) :
    OpR X f (rI0 fun i j => .int (g i j)) := by
  intro pins s σ H x y v u Q I rx ry h
  obtain ⟨i, j, rfl, rfl, q⟩ := h
  obtain ⟨t, rfl⟩ := rx
  obtain ⟨t', rfl⟩ := ry
  exact rule i j t t' s _ _ ⟨.int (g i j), H, I.tok _, ⟨_, rfl⟩, q⟩
theorem opB0 {f : Value → Value → Sem Value} {g : Int → Int → Bool}
    (rule : ∀ (i j : Int) (t u : Tok) (s : Shared) (Q : Value → Shared → Prop) (E : Value → Shared → Prop), Q (.bool (g i j)) s → wpAny (model X.prog X.w) X.A (f (.int i t) (.int j u)) Q E s) :
    OpR X f (rI0 fun i j => .bl (g i j)) := by
  intro pins s σ H x y v u Q I rx ry h
  obtain ⟨i, j, rfl, rfl, q⟩ := h
  obtain ⟨t, rfl⟩ := rx
  obtain ⟨t', rfl⟩ := ry
  exact rule i j t t' s _ _ ⟨.bl (g i j), H, I, rfl, q⟩
def CDiv (i j : Int) : Prop := 0 < j ∧ j < 1073741824
def CPow (i j : Int) : Prop := 0 ≤ j ∧ j ≤ 1000000 ∧ i.natAbs < 2 ^ 64
def CMul (i j : Int) : Prop := (-(2 ^ 64) < i ∧ i < 2 ^ 64) ∨ (-(2 ^ 64) < j ∧ j < 2 ^ 64)
theorem CMul.ok {i j : Int} (h : CMul i j) : IntMulOk i j := by
  rcases h with ⟨h1, h2⟩ | ⟨h1, h2⟩
  · exact .of_left (intBits_le_64 h1 h2)
  · exact .of_right (intBits_le_64 h1 h2)
theorem two_pow_nn (k : Nat) : (0 : Int) ≤ 2 ^ k := by
  rw [two_pow_cast]
  exact Int.natCast_nonneg _
theorem op_add : OpR X (binaryOp .Add) (rI0 fun i j => .int (i + j)) := opI0 fun _ _ _ _ _ _ _ q => add_int q
theorem op_sub : OpR X (binaryOp .Sub) (rI0 fun i j => .int (i - j)) := opI0 fun _ _ _ _ _ _ _ q => sub_int q
theorem op_mul : OpR X (binaryOp .Mult) (rI CMul fun i j => .int (i * j)) := opI fun _ _ _ _ _ _ _ hc q => mul_int q hc.ok
theorem op_fdiv : OpR X (binaryOp .FloorDiv) (rI CDiv fun i j => .int (i / j)) := opI fun i j _ _ _ _ _ hc q => by
  have h1 : (0 : Int) < j := hc.1
  have h2 : j < 1073741824 := hc.2
  exact floordiv_int (by omega) (by rw [Int.fdiv_eq_ediv_of_nonneg i (by omega)]; exact q) (.inl (PyProof.noPylong_small (by omega)))
theorem op_mod : OpR X (binaryOp .Mod) (rI (fun _ j => 0 < j) fun i j => .int (i % j)) := opI fun i j _ _ _ _ _ hc q => by
  have h1 : (0 : Int) < j := hc
  exact mod_int' (by omega) (by rw [Int.fmod_eq_emod_of_nonneg i (by omega)]; exact q)
theorem op_shl : OpR X (binaryOp .LShift) (rI CPow fun i j => .int (i * 2 ^ j.toNat)) := opI fun _ _ _ _ _ _ _ hc q => lshift_int_small hc.1 hc.2.1 hc.2.2 q
theorem op_shr : OpR X (binaryOp .RShift) (rI (fun _ j => 0 ≤ j) fun i j => .int (i / 2 ^ j.toNat)) := opI fun i j _ _ _ _ _ hc q =>
  rshift_int hc (by rw [Int.fdiv_eq_ediv_of_nonneg i (two_pow_nn _)]; exact q)
theorem op_and : OpR X (binaryOp .BitAnd) (rI0 fun i j => .int (Builtin.bitAnd i j)) := opI0 fun _ _ _ _ _ _ _ q => and_int q
theorem op_xor : OpR X (binaryOp .BitXor) (rI0 fun i j => .int (Builtin.bitXor i j)) := opI0 fun _ _ _ _ _ _ _ q => xor_int q
end
def scal : V → V → Bool
  | .non, .non => true | .non, .int _ => true | .int _, .non => true | .non, .bl _ => true | .bl _, .non => true | .non, .str _ => true | .str _, .non => true
  | .int _, .int _ => true | .bl _, .bl _ => true | .str _, .str _ => true | .byt _, .byt _ => true
  | .int _, .str _ => true | .str _, .int _ => true | .bl _, .str _ => true | .str _, .bl _ => true
  | _, _ => false
def rEq : R2 := fun x y H Q => scal x y = true ∧ Q (.bl (decide (x = y))) H
def rNe : R2 := fun x y H Q => scal x y = true ∧ Q (.bl (!decide (x = y))) H
theorem dec_int {i j : Int} : decide (V.int i = V.int j) = (i == j) := by
  rw [Bool.eq_iff_iff]
  simp
theorem dec_bl {i j : Bool} : decide (V.bl i = V.bl j) = (i == j) := by
  rw [Bool.eq_iff_iff]
  simp
theorem dec_str {i j : Str} : decide (V.str i = V.str j) = (i == j) := by
  rw [Bool.eq_iff_iff]
  simp
theorem dec_byt {i j : Array UInt8} : decide (V.byt i = V.byt j) = (i.toList == j.toList) := by
  rw [Bool.eq_iff_iff]
  cases i
  cases j
  simp
section
variable {X : Cx} {a b c : Expr} {ta tb tc : TE} {pos : Pos}
theorem fin_bl {pins : List (Addr × Obj)} {σ : St} {H : Hp} {s : Shared} {Q : VK} {k k' : Bool} (I : Inv X pins σ H s) (q : Q (.bl k) H) (e : k = k') : EP X pins σ Q (.bool k') s := by
  subst e
  exact ⟨.bl k, H, I, rfl, q⟩
theorem op_eq : OpR X (compareOp .Eq) rEq := by
  intro pins s σ H x y v u Q I rx ry h
  obtain ⟨hs, q⟩ := h
  cases x with
  | non =>
    cases rx
    cases y with
    | non => cases ry; exact PySem.EqNone.eq_none_none (fin_bl I q (by simp))
    | bl j => cases ry; exact PySem.EqNone.eq_none_bool (fin_bl I q (by simp))
    | int j => obtain ⟨t', rfl⟩ := ry; exact PySem.EqNone.eq_none_int (fin_bl I q (by simp))
    | str j => obtain ⟨t', rfl⟩ := ry; exact PySem.EqNone.eq_none_str (fin_bl I q (by simp))
    | _ => exact absurd (show false = true from hs) Bool.false_ne_true
  | bl i =>
    cases rx
    cases y with
    | non => cases ry; exact PySem.EqNone.eq_bool_none (fin_bl I q (by simp))
    | bl j => cases ry; exact eq_bool (fin_bl I q dec_bl)
    | str j => obtain ⟨t', rfl⟩ := ry; exact PySem.EqMixed.eq_bool_str (fin_bl I q (by simp))
    | _ => exact absurd (show false = true from hs) Bool.false_ne_true
  | int i =>
    obtain ⟨t, rfl⟩ := rx
    cases y with
    | non => cases ry; exact PySem.EqNone.eq_int_none (fin_bl I q (by simp))
    | int j => obtain ⟨t', rfl⟩ := ry; exact eq_int (fin_bl I q dec_int)
    | str j => obtain ⟨t', rfl⟩ := ry; exact PySem.EqMixed.eq_int_str (fin_bl I q (by simp))
    | _ => exact absurd (show false = true from hs) Bool.false_ne_true
  | str i =>
    obtain ⟨t, rfl⟩ := rx
    cases y with
    | non => cases ry; exact PySem.EqNone.eq_str_none (fin_bl I q (by simp))
    | bl j => cases ry; exact PySem.EqMixed.eq_str_bool (fin_bl I q (by simp))
    | int j => obtain ⟨t', rfl⟩ := ry; exact PySem.EqMixed.eq_str_int (fin_bl I q (by simp))
    | str j => obtain ⟨t', rfl⟩ := ry; exact eq_str (fin_bl I q dec_str)
    | _ => exact absurd (show false = true from hs) Bool.false_ne_true
  | byt i =>
    obtain ⟨t, rfl⟩ := rx
    cases y with
    | byt j => obtain ⟨t', rfl⟩ := ry; exact PySem.W.eq_bytes (fin_bl I q dec_byt)
    | _ => exact absurd (show false = true from hs) Bool.false_ne_true
  | _ => cases y <;> exact absurd (show false = true from hs) Bool.false_ne_true
theorem op_ne : OpR X (compareOp .NotEq) rNe := by
  intro pins s σ H x y v u Q I rx ry h
  obtain ⟨hs, q⟩ := h
  cases x with
  | non =>
    cases rx
    cases y with
    | non => cases ry; exact PySem.EqNone.ne_none_none (fin_bl I q (by simp))
    | bl j => cases ry; exact PySem.EqNone.ne_none_bool (fin_bl I q (by simp))
    | int j => obtain ⟨t', rfl⟩ := ry; exact PySem.EqNone.ne_none_int (fin_bl I q (by simp))
    | str j => obtain ⟨t', rfl⟩ := ry; exact PySem.EqNone.ne_none_str (fin_bl I q (by simp))
    | _ => exact absurd (show false = true from hs) Bool.false_ne_true
  | bl i =>
    cases rx
    cases y with
    | non => cases ry; exact PySem.EqNone.ne_bool_none (fin_bl I q (by simp))
    | bl j => cases ry; exact ne_bool (fin_bl I q (congrArg not dec_bl))
    | str j => obtain ⟨t', rfl⟩ := ry; exact PySem.EqMixed.ne_bool_str (fin_bl I q (by simp))
    | _ => exact absurd (show false = true from hs) Bool.false_ne_true
  | int i =>
    obtain ⟨t, rfl⟩ := rx
    cases y with
    | non => cases ry; exact PySem.EqNone.ne_int_none (fin_bl I q (by simp))
    | int j => obtain ⟨t', rfl⟩ := ry; exact ne_int (fin_bl I q (congrArg not dec_int))
    | str j => obtain ⟨t', rfl⟩ := ry; exact PySem.EqMixed.ne_int_str (fin_bl I q (by simp))
    | _ => exact absurd (show false = true from hs) Bool.false_ne_true
  | str i =>
    obtain ⟨t, rfl⟩ := rx
    cases y with
    | non => cases ry; exact PySem.EqNone.ne_str_none (fin_bl I q (by simp))
    | bl j => cases ry; exact PySem.EqMixed.ne_str_bool (fin_bl I q (by simp))
    | int j => obtain ⟨t', rfl⟩ := ry; exact PySem.EqMixed.ne_str_int (fin_bl I q (by simp))
    | str j => obtain ⟨t', rfl⟩ := ry; exact ne_str (fin_bl I q (congrArg not dec_str))
    | _ => exact absurd (show false = true from hs) Bool.false_ne_true
  | byt i =>
    obtain ⟨t, rfl⟩ := rx
    cases y with
    | byt j => obtain ⟨t', rfl⟩ := ry; exact PySem.W.ne_bytes (fin_bl I q (congrArg not dec_byt))
    | _ => exact absurd (show false = true from hs) Bool.false_ne_true
  | _ => cases y <;> exact absurd (show false = true from hs) Bool.false_ne_true
theorem op_lt : OpR X (compareOp .Lt) (rI0 fun i j => .bl (decide (i < j))) := opB0 fun _ _ _ _ _ _ _ q => lt_int q
theorem op_le : OpR X (compareOp .LtE) (rI0 fun i j => .bl (decide (i ≤ j))) := opB0 fun _ _ _ _ _ _ _ q => le_int q
theorem op_gt : OpR X (compareOp .Gt) (rI0 fun i j => .bl (decide (j < i))) := opB0 fun _ _ _ _ _ _ _ q => gt_int q
theorem op_ge : OpR X (compareOp .GtE) (rI0 fun i j => .bl (decide (j ≤ i))) := opB0 fun _ _ _ _ _ _ _ q => ge_int q
theorem op_isN : OpR X (compareOp .Is) (fun x y H Q => y = .non ∧ Q (.bl (decide (x = .non))) H) := by
  intro pins s σ H x y v u Q I rx ry h
  obtain ⟨rfl, q⟩ := h
  cases ry
  refine is_none_gen (fin_bl I q ?_)
  cases x <;> first
    | (cases rx; rfl)
    | (obtain ⟨t, rfl⟩ := rx; rfl)
theorem op_notN : OpR X (compareOp .IsNot) (fun x y H Q => y = .non ∧ Q (.bl (!decide (x = .non))) H) := by
  intro pins s σ H x y v u Q I rx ry h
  obtain ⟨rfl, q⟩ := h
  cases ry
  refine isnot_none_gen (fin_bl I q ?_)
  cases x <;> first
    | (cases rx; rfl)
    | (obtain ⟨t, rfl⟩ := rx; rfl)
theorem nomark (b : Expr) {op : CmpOp} (h : op ≠ .In := by decide) (h2 : op ≠ .NotIn := by decide) : behindInMarks op b = false := by
  have e1 : (op == CmpOp.In) = false := by cases op <;> first | rfl | exact absurd rfl h
  have e2 : (op == CmpOp.NotIn) = false := by cases op <;> first | rfl | exact absurd rfl h2
  cases b <;> simp [behindInMarks, e1, e2]
theorem pe_cmpR {op : CmpOp} {r : R2} (ho : OpR X (compareOp op) r) (ha : PE X a ta) (hb : PE X b tb) (hm : behindInMarks op b = false) : PE X (.Compare a [op] [b] pos) (tOp r ta tb) := by
  intro pins s σ H Q I h
  exact wpAny_Compare1 (binT ha hb I h fun v u s2 x y H2 I2 rx ry q => ho pins s2 σ H2 x y v u Q I2 rx ry q) hm
def tTest (t : TE) : TT := fun σ H Q => t σ H fun x H' => ∃ k, x = .bl k ∧ Q k H'
theorem pt_cmpR {op : CmpOp} {r : R2} (ho : OpR X (compareOp op) r) (ha : PE X a ta) (hb : PE X b tb) (hm : behindInMarks op b = false) : PT X (.Compare a [op] [b] pos) (tTest (tOp r ta tb)) := by
  intro pins s σ H Q I h
  refine wpAny_isTrue_Compare1 (thn (ha pins s σ H _ I h) fun v s1 ⟨x, H1, I1, r1, q1⟩ => thn (hb pins s1 σ H1 _ I1 q1) fun u s2 ⟨y, H2, I2, r2, q2⟩ =>
    thn (ho pins s2 σ H2 x y v u _ I2 r1 r2 q2) fun c s3 ⟨z, H3, I3, r3, k, e, q3⟩ => ?_) hm
  subst e
  cases r3
  exact wpAny_truthy_bool ⟨H3, I3, q3⟩
theorem line63 : (sizeLine : Nat) < 2 ^ 63 := by rw [sizeLine_eq]; decide
theorem vals1 {x : V} {us : List Value} (r : Vals [x] us) : ∃ u, us = [u] ∧ RelV x u := by
  cases r with
  | cons r1 r2 => cases r2; exact ⟨_, rfl, r1⟩
theorem vals2 {x y : V} {us : List Value} (r : Vals [x, y] us) : ∃ u w', us = [u, w'] ∧ RelV x u ∧ RelV y w' := by
  cases r with
  | cons r1 r2 =>
    cases r2 with
    | cons r3 r4 => cases r4; exact ⟨_, _, rfl, r1, r3⟩
theorem call_min2 (hc : X.calm = true) : CallR X (.builtin "min") (fun xs H Q => ∃ i j, xs = [.int i, .int j] ∧ Q (.int (if j < i then j else i)) H) := by
  intro pins s σ H xs us Q I r h
  obtain ⟨i, j, rfl, q⟩ := h
  obtain ⟨u, w', rfl, ⟨t, rfl⟩, ⟨t', rfl⟩⟩ := vals2 r
  refine min_two_ints (I.ok.hd hc) fun h' tk k => ⟨_, H, I.kept k, ?_, q⟩
  by_cases hj : j < i
  · rw [if_pos hj, if_pos hj]; exact ⟨_, rfl⟩
  · rw [if_neg hj, if_neg hj]; exact ⟨_, rfl⟩
theorem call_bool1 : CallR X (.type "bool") (fun xs H Q => (∃ i, xs = [.int i] ∧ Q (.bl (i != 0)) H) ∨ ∃ k, xs = [.bl k] ∧ Q (.bl k) H) := by
  intro pins s σ H xs us Q I r h
  rcases h with ⟨i, rfl, q⟩ | ⟨k, rfl, q⟩
  · obtain ⟨u, rfl, t, rfl⟩ := vals1 r
    exact call_bool_int ⟨.bl (i != 0), H, I, rfl, q⟩
  · obtain ⟨u, rfl, r1⟩ := vals1 r
    cases r1
    exact call_bool_bool ⟨.bl k, H, I, rfl, q⟩
end
end L2
namespace L2
open PySem PySem.Spec PyProof.Rows
structure ObjM (h : Heap) (x dx C : Addr) (mA : Str → Option Value) : Prop where
  obj : h.get? x = some (PySem.W.instObj C dx)
  ns : h.Ns1 dx mA
  ne : dx ≠ x
theorem lookIn_ns {h : Heap} {dx : Addr} {mA : Str → Option Value} (n : h.Ns1 dx mA) : ∃ od, h.get? dx = some od ∧ ∀ name, PySem.W.lookIn name od = some (mA name) := by
  obtain ⟨o, es, ep, ho, hd, hk, _, hm⟩ := n
  refine ⟨o, ho, fun name => ?_⟩
  have e := hm name
  unfold nsFind findBy at e
  rw [← Array.find?_toList] at e
  unfold PySem.W.lookIn
  rw [hd]
  dsimp only
  split
  · rename_i y q
    rw [q] at e
    exact congrArg some e
  · rename_i q
    rw [q] at e
    have a : es.toList.any (·.refKey) = false := by
      rw [List.any_eq_false]
      intro y hy
      obtain ⟨z, t, hkey⟩ := hk y (Array.mem_toList_iff.mp hy)
      simp [DictEntry.refKey, hkey]
    have a' : ¬ es.toList.any (·.refKey) = true := by rw [a]; exact Bool.false_ne_true
    rw [if_neg a']
    exact congrArg some e
theorem ObjM.look {h : Heap} {x dx C : Addr} {mA : Str → Option Value} (I : ObjM h x dx C mA) : ∃ od, PySem.W.InstAt h x (PySem.W.instObj C dx) C (some od) ∧ ∀ name, PySem.W.lookIn name od = some (mA name) :=
  let ⟨od, ho, hl⟩ := lookIn_ns I.ns
  ⟨od, ⟨I.obj, rfl, rfl, ho⟩, hl⟩
section
variable {prog : Program} {w : World} {A : Around} {E : Value → Shared → Prop} {s : Shared} {K : PySem.W.Frag} {x dx C f : Addr} {mA : Str → Option Value} {name : Str} {v : Value}
theorem get_map {expr : Bool} {Q : Value → Shared → Prop} (X : K.In s.heap) (I : ObjM s.heap x dx C mA) (hg : PySem.W.plainGet K C name = true) (hh : PySem.W.hasDictIn K C = true)
    (ha : PySem.W.findIn K (.ref C) name = some none) (hv : mA name = some v) (hv' : PySem.W.handedIn v = true) (h : Q v { s with toks := s.toks + 1 }) :
    wpAny (model prog w) A (getAttr (.ref x) name expr) Q E s := by
  obtain ⟨od, J, hl⟩ := I.look
  exact PySem.W.get_value X J (PySem.W.plainGet_of hg).1 (PySem.W.findObj_own hh ha rfl (by rw [hl, hv])) hv' h
theorem get_meth {pl : Sem Bool} {Q : Value × List Value → Shared → Prop} (X : K.In s.heap) (I : ObjM s.heap x dx C mA) (hg : PySem.W.plainGet K C name = true)
    (hf : PySem.W.findIn K (.ref C) name = some (some (.ref f))) (ht : PySem.W.isFn K (.ref f) = true) (hv : mA name = none) (h : Q (.ref f, [.ref x]) s) :
    wpAny (model prog w) A (getMethod (.ref x) name pl) Q E s := by
  obtain ⟨od, J, hl⟩ := I.look
  exact PySem.W.method_fn X J (PySem.W.plainGet_of hg).1 (PySem.W.plainGet_of hg).2 hf (beq_iff_eq.mp ht) (by show (PySem.W.lookIn name od).map (·.isSome) = some false; rw [hl, hv]; rfl) h
theorem set_map {ns : List Str} {Q : Unit → Shared → Prop} (X : K.In s.heap) (I : ObjM s.heap x dx C mA)
    (hs : PySem.W.findIn K (.ref C) "__setattr__" = some (some (.builtin "object.__setattr__"))) (hp : PySem.W.plainOver K C = true) (ht : PySem.W.takerIn K C name = some none) (hh : PySem.W.hasDictIn K C = true)
    (hw : PySem.Within mA ns) (hsz : ns.length ≤ sizeLine)
    (h : ∀ h', ObjM h' x dx C (fun y => if y = name then some v else mA y) → Heap.SameBut dx s.heap h' → Q () { s with heap := h', toks := s.toks + 2 }) :
    wpAny (model prog w) A (setAttr (.ref x) name v) Q E s := by
  obtain ⟨od, J, hl⟩ := I.look
  refine PySem.W.set_plain X J hs (PySem.W.osa_open (s := { s with toks := s.toks + 1 }) (r := none) X J hp ht fun b => ?_)
  obtain ⟨cd, hc, hd'⟩ := PySem.W.any_some hh
  have hx : s.heap.get? x = some ⟨.ref C, some dx, .plain, #[]⟩ := I.obj
  refine wpAny_bind (wpAny_pure (wpAny_bind (wpAny_bind (wpAny_loadPart hx (wpAny_bind (PySem.W.Looks.here (s := { s with toks := s.toks + 1 }) (PySem.W.looks_clsIn X hc) ?_))))))
  rw [hd']
  refine wpAny_pure (a := some dx) (wpAny_bind (wpAny_pure (wpAny_bind ?_)))
  refine wpAny_nsSet1 (s := { s with toks := s.toks + 1 }) I.ns fun h' hn2 hs2 => ?_
  obtain ⟨oD, esD, epD, hoD, hdD, hcD⟩ := hn2.count (PySem.Within.cons name v hw)
  refine wpAny_bind (wpAny_lookBehind hoD (by rw [hdD]; exact pastItsLine_dict (Nat.le_trans hcD (by rw [List.length_cons]; omega))) ?_)
  exact wpAny_pure (h _ ⟨(hs2.2 _ (Ne.symm I.ne)).trans I.obj, hn2, I.ne⟩ hs2)
theorem make_map {R : Result → Shared → Prop} {vs : List Value} {kw : List (Str × Value)} (X : K.In s.heap) (hm : PySem.W.makesIn K C = true)
    (hi : PySem.W.findIn K (.ref C) "__init__" = some (some (.ref f))) (hf : PySem.W.typeIn K (.ref f) = some (.type "function"))
    (h : codeAny (model prog w) (A.under (.builtin "type.__call__" ⟨.ref C :: vs, kw⟩)) (.call (.ref f) ⟨.ref (s.heap.objs.size + 1) :: vs, kw⟩) (PySem.W.InitBack (s.heap.objs.size + 1) R)
      { s with heap := (s.heap.push PySem.W.emptyDict).push (PySem.W.instObj C s.heap.objs.size) }) :
    codeAny (model prog w) A (.call (.ref C) ⟨vs, kw⟩) R s := by
  obtain ⟨hh, g, d, t, os⟩ := s
  exact PySem.W.make_core (PySem.W.makes_of X hm) (PySem.W.looks_findIn X hi) (fun self => PySem.W.bind_fn X self hf) (.inl rfl) h
end
def putF (f : Str) (v : V) : List (Str × V) → List (Str × V)
  | [] => [(f, v)]
  | (g, x) :: r => if g = f then (g, v) :: r else (g, x) :: putF f v r
theorem lookup_putF (f g : Str) (v : V) : ∀ fs : List (Str × V), (putF f v fs).lookup g = if g = f then some v else fs.lookup g
  | [] => by
    show List.lookup g [(f, v)] = _
    by_cases h : g = f
    · have hb : (g == f) = true := beq_iff_eq.mpr h
      simp only [List.lookup, hb, if_pos h]
    · have hb : (g == f) = false := beq_eq_false_iff_ne.mpr h
      simp only [List.lookup, hb, if_neg h]
  | (k, x) :: r => by
    have ih := lookup_putF f g v r
    rw [show putF f v ((k, x) :: r) = (if k = f then (k, v) :: r else (k, x) :: putF f v r) from rfl]
    by_cases hk : k = f
    · rw [if_pos hk]
      by_cases h : g = k
      · have hb : (g == k) = true := beq_iff_eq.mpr h
        simp only [List.lookup, hb, if_pos (h.trans hk)]
      · have hb : (g == k) = false := beq_eq_false_iff_ne.mpr h
        simp only [List.lookup, hb, if_neg (fun e : g = f => h (e.trans hk.symm))]
    · rw [if_neg hk]
      by_cases h : g = k
      · have hb : (g == k) = true := beq_iff_eq.mpr h
        simp only [List.lookup, hb, if_neg (fun e : g = f => hk (h.symm.trans e))]
      · have hb : (g == k) = false := beq_eq_false_iff_ne.mpr h
        simp only [List.lookup, hb]
        exact ih
theorem keys_putF (f : Str) (v : V) : ∀ fs : List (Str × V), f ∈ (putF f v fs).map (·.1) ∧ ∀ g, g ∈ fs.map (·.1) → g ∈ (putF f v fs).map (·.1)
  | [] => ⟨by simp [putF], fun g h => by simp at h⟩
  | (k, x) :: r => by
    obtain ⟨i1, i2⟩ := keys_putF f v r
    rw [show putF f v ((k, x) :: r) = (if k = f then (k, v) :: r else (k, x) :: putF f v r) from rfl]
    by_cases hk : k = f
    · rw [if_pos hk]
      subst hk
      exact ⟨by simp, fun g h => by simpa using h⟩
    · rw [if_neg hk]
      refine ⟨?_, fun g h => ?_⟩
      · rw [List.map_cons]
        exact List.mem_cons_of_mem _ i1
      · rw [List.map_cons] at h ⊢
        rcases List.mem_cons.mp h with e | e
        · exact List.mem_cons.mpr (.inl e)
        · exact List.mem_cons_of_mem _ (i2 g e)
theorem length_putF (f : Str) (v : V) : ∀ fs : List (Str × V), (putF f v fs).length ≤ fs.length + 1
  | [] => by simp [putF]
  | (k, x) :: r => by
    have ih := length_putF f v r
    rw [show putF f v ((k, x) :: r) = (if k = f then (k, v) :: r else (k, x) :: putF f v r) from rfl]
    by_cases hk : k = f
    · rw [if_pos hk, List.length_cons, List.length_cons]; omega
    · rw [if_neg hk, List.length_cons, List.length_cons]; omega
theorem RelO.some_of {v : V} {o : Option Value} (r : RelO (some v) o) : ∃ u, o = some u ∧ RelV v u := by
  cases o with
  | none => exact (show False from r).elim
  | some u => exact ⟨u, rfl, r⟩
theorem RelO.none_of {o : Option Value} (r : RelO none o) : o = none := by
  cases o with
  | none => rfl
  | some u => exact (show False from r).elim
theorem handed_of {v : V} {u : Value} (r : RelV v u) : PySem.W.handedIn u = true := by
  cases v with
  | non => cases (show u = Value.none from r); rfl
  | bl b => cases (show u = Value.bool b from r); rfl
  | int i => obtain ⟨t, e⟩ := (show ∃ t, u = Value.int i t from r); cases e; rfl
  | str x => obtain ⟨t, e⟩ := (show ∃ t, u = Value.str x t from r); cases e; rfl
  | byt b => obtain ⟨t, e⟩ := (show ∃ t, u = Value.bytes b t from r); cases e; rfl
  | flt b => obtain ⟨t, e⟩ := (show ∃ t, u = Value.float b t from r); cases e; rfl
  | ref a => cases (show u = Value.ref a from r); rfl
  | ty n => cases (show u = Value.type n from r); rfl
section
variable {P : Program} {w : World} {H H' : Hp} {h h' : Heap} {a C dx : Addr} {fs fs' : List (Str × V)}
theorem ins_get (hok : HOk P w H h) (e : H a = some (.ins C dx fs)) : ∃ mA, ObjM h a dx C mA ∧ (∀ f, RelO (fs.lookup f) (mA f)) ∧ PySem.Within mA (fs.map (·.1)) ∧ fs.length ≤ 1000 ∧ H dx = some (.own a) := by
  obtain ⟨d, z, ne, ob, mA, n, r, q⟩ := (show ObjOk P w H h a (.ins C dx fs) from hok a _ e)
  exact ⟨mA, ⟨ob, n, ne⟩, r, q, z, d⟩
end
structure Cls (K : PySem.W.Frag) (C : Addr) : Prop where
  pg : PySem.W.plainGet K C Str.empty = true
  hd : PySem.W.hasDictIn K C = true
  po : PySem.W.plainOver K C = true
  sa : PySem.W.findIn K (.ref C) "__setattr__" = some (some (.builtin "object.__setattr__"))
theorem Cls.get {K : PySem.W.Frag} {C : Addr} (c : Cls K C) (f : Str) : PySem.W.plainGet K C f = true := c.pg
def NoAttr (K : PySem.W.Frag) (C : Addr) (f : Str) : Prop := PySem.W.findIn K (.ref C) f = some none
theorem NoAttr.taker {K : PySem.W.Frag} {C : Addr} {f : Str} (n : NoAttr K C f) : PySem.W.takerIn K C f = some none := by
  unfold PySem.W.takerIn
  rw [show PySem.W.findIn K (.ref C) f = some none from n]
  rfl
structure Meth (K : PySem.W.Frag) (C : Addr) (m : Str) (f : Addr) : Prop where
  at_ : PySem.W.findIn K (.ref C) m = some (some (.ref f))
  fn : PySem.W.isFn K (.ref f) = true
  kp : PySem.W.keepIn K (.ref f) = true
section
variable {X : Cx} {pins : List (Addr × Obj)} {σ : St} {H : Hp} {s : Shared} {a C dx : Addr} {fs : List (Str × V)} {f : Str} {v : V} {A : Around} {E : Value → Shared → Prop}
theorem getattr_ok {b : Bool} {Q : Value → Shared → Prop} (I : Inv X pins σ H s) (e : H a = some (.ins C dx fs)) (c : Cls X.K C) (n : NoAttr X.K C f) (l : fs.lookup f = some v)
    (h : ∀ u s', Inv X pins σ H s' → RelV v u → Q u s') : wpAny (model X.prog X.w) A (getAttr (.ref a) f b) Q E s := by
  obtain ⟨mA, O, r, _, _, _⟩ := ins_get I.hok e
  obtain ⟨u, hu, ru⟩ := RelO.some_of (v := v) (o := mA f) (by rw [← l]; exact r f)
  exact get_map I.kIn O (c.get f) c.hd n hu (handed_of ru) (h u _ (I.tok _) ru)
theorem getmeth_ok {m : Str} {g : Addr} {pl : Sem Bool} {Q : Value × List Value → Shared → Prop} (I : Inv X pins σ H s) (e : H a = some (.ins C dx fs)) (c : Cls X.K C) (k : Meth X.K C m g) (l : fs.lookup m = none)
    (h : Q (.ref g, [.ref a]) s) : wpAny (model X.prog X.w) A (getMethod (.ref a) m pl) Q E s := by
  obtain ⟨mA, O, r, _, _, _⟩ := ins_get I.hok e
  have hn : mA m = none := RelO.none_of (by rw [← l]; exact r m)
  exact get_meth I.kIn O (c.get m) k.at_ k.fn hn h
theorem setattr_ok {y : V} {u : Value} {Q : Unit → Shared → Prop} (I : Inv X pins σ H s) (e : H a = some (.ins C dx fs)) (c : Cls X.K C) (n : NoAttr X.K C f) (hl : fs.length < 1000) (ry : RelV y u)
    (h : ∀ s', Inv X pins σ (upd H a (.ins C dx (putF f y fs))) s' → Q () s') : wpAny (model X.prog X.w) A (setAttr (.ref a) f u) Q E s := by
  obtain ⟨mA, O, r, wi, _, ho⟩ := ins_get I.hok e
  have hz : (fs.map (·.1)).length ≤ sizeLine := by rw [List.length_map, sizeLine_eq]; omega
  refine set_map I.kIn O c.sa c.po n.taker c.hd wi hz fun h' O' sb => h _ ?_
  have hd : ∃ o, h'.get? dx = some o := let ⟨o, _, _, e', _⟩ := O'.ns; ⟨o, e'⟩
  refine I.write (x := a) (e := dx) (by rw [e]; exact True.intro) (.inr ho) (fun b q hb z => (sb.2 b hb).trans z) hd ?_
  refine ⟨by rw [upd_ne O.ne]; exact ho, ?_, O.ne, O'.obj, _, O'.ns, fun g => ?_, fun g hg => ?_⟩
  · have := length_putF f y fs; omega
  · show RelO ((putF f y fs).lookup g) (if g = f then some u else mA g)
    rw [lookup_putF]
    by_cases q : g = f
    · rw [if_pos q, if_pos q]; exact ry
    · rw [if_neg q, if_neg q]; exact r g
  · by_cases q : g = f
    · rw [q]; exact (keys_putF f y fs).1
    · refine (keys_putF f y fs).2 g (wi g fun z => hg ?_)
      show (if g = f then some u else mA g) = none
      rw [if_neg q]; exact z
theorem Inv.made (I : Inv X pins σ H s) : Inv X pins σ (upd (upd H s.heap.objs.size (.own (s.heap.objs.size + 1))) (s.heap.objs.size + 1) (.ins C s.heap.objs.size []))
    { s with heap := (s.heap.push PySem.W.emptyDict).push (PySem.W.instObj C s.heap.objs.size) } := by
  have e1 : (s.heap.push PySem.W.emptyDict).get? s.heap.objs.size = some PySem.W.emptyDict := Heap.get?_push_size s.heap rfl
  have e2 : ((s.heap.push PySem.W.emptyDict).push (PySem.W.instObj C s.heap.objs.size)).get? (s.heap.objs.size + 1) = some (PySem.W.instObj C s.heap.objs.size) := by
    have := Heap.get?_push_size (s.heap.push PySem.W.emptyDict) (o := PySem.W.instObj C s.heap.objs.size) rfl
    rwa [Heap.size_push] at this
  have e3 : (s.heap.push PySem.W.emptyDict).Ns s.heap.objs.size (fun _ => none) := ⟨PySem.W.emptyDict, #[], _, e1, rfl, (fun e he => absurd he (by simp)), fun _ => rfl⟩
  have I1 := I.laid (a := s.heap.objs.size) (o := .own (s.heap.objs.size + 1)) (h' := s.heap.push PySem.W.emptyDict) (t' := s.toks) (fun b u q => Heap.get?_push_of_some _ q) (Nat.le_refl _) ⟨_, e1⟩
  refine I1.laid (a := s.heap.objs.size + 1) (o := .ins C s.heap.objs.size []) (t' := s.toks) (fun b u q => Heap.get?_push_of_some _ q) (Nat.le_of_eq (Heap.size_push _ _)) ?_
  have ne : s.heap.objs.size ≠ s.heap.objs.size + 1 := Nat.ne_of_lt (Nat.lt_succ_self _)
  refine ⟨by rw [upd_ne ne, upd_same], Nat.zero_le _, ne, e2, fun _ => none, (Heap.Ns1.of_empty e3).at fun o q => Heap.get?_push_of_some _ q, fun _ => True.intro, fun y hy => absurd rfl hy⟩
theorem attr_of {prog : Program} {w : World} {env : Env} {e : Expr} {f : Str} {pos : Pos} {s : Shared} {Q : Value → Shared → Prop} (hb : attributeBase e f env (eval e env) = eval e env)
    (h : wpAny (model prog w) A (eval e env) (fun o s₁ => wpAny (model prog w) A (getAttr o f true) Q E s₁) E s) : wpAny (model prog w) A (eval (.Attribute e f pos) env) Q E s :=
  Attribute_any_ h (by rw [arm_eval_Attribute, hb])
end
def tFld (K : PySem.W.Frag) (ta : TE) (f : Str) : TE := fun σ H Q => ta σ H fun x H1 => ∃ a C dx fs v, x = .ref a ∧ H1 a = some (.ins C dx fs) ∧ Cls K C ∧ NoAttr K C f ∧ fs.lookup f = some v ∧ Q v H1
def sFld (K : PySem.W.Frag) (ta tv : TE) (f : Str) : TS := fun D σ H => tv σ H fun y H1 => ta σ H1 fun x H2 => ∃ a C dx fs, x = .ref a ∧ H2 a = some (.ins C dx fs) ∧ Cls K C ∧ NoAttr K C f ∧ fs.length < 1000 ∧
  D.nx σ (upd H2 a (.ins C dx (putF f y fs)))
section
variable {X : Cx} {o e value : Expr} {f : Str} {pos pos' tpos : Pos} {ta tv : TE}
theorem pe_fld (he : PE X e ta) (hb : attributeBase e f X.env (eval e X.env) = eval e X.env) : PE X (.Attribute e f pos) (tFld X.K ta f) := by
  intro pins s σ H Q I h
  refine attr_of hb (thn (he pins s σ H _ I h) fun u s1 ⟨x, H1, I1, rx, a, C, dx, fs, v, ex, ea, c, n, l, q⟩ => ?_)
  subst ex
  obtain rfl : u = Value.ref a := rx
  exact getattr_ok I1 ea c n l fun u' s2 I2 ru => ⟨v, H1, I2, ru, q⟩
theorem ps_fld (ha : PE X o ta) (hv : PE X value tv) (hs : swapsWith value (some (.Attribute o f pos')) pos.line X.env = pure false) : PS X (.Assign [.Attribute o f pos'] value pos) (sFld X.K ta tv f) := by
  intro pins s σ H D I h
  refine plainObj_wpAny_Assign_Attribute (thn (hv pins s σ H _ I h) fun u s1 ⟨y, H1, I1, ry, q⟩ => thn (ha pins s1 σ H1 _ I1 q) fun ov s2 ⟨x, H2, I2, rx, a, C, dx, fs, ex, ea, c, n, l, q2⟩ => ?_) hs
  subst ex
  obtain rfl : ov = Value.ref a := rx
  exact setattr_ok I2 ea c n l ry fun s3 I3 => ⟨σ, _, I3, q2⟩
end
section
variable {X : Cx} {pins : List (Addr × Obj)} {σ : St} {H : Hp} {s : Shared} {A : Around} {E : Value → Shared → Prop} {Q : Value → Shared → Prop} {c : Value} {b : Bool}
inductive TyOf (K : PySem.W.Frag) (H : Hp) : V → Value → Prop where
  | non : TyOf K H .non (.type "NoneType")
  | bl (x : Bool) : TyOf K H (.bl x) (.type "bool")
  | int (i : Int) : TyOf K H (.int i) (.type "int")
  | str (x : Str) : TyOf K H (.str x) (.type "str")
  | flt (x : UInt64) : TyOf K H (.flt x) (.type "float")
  | lst {a : Addr} {xs : List V} (e : H a = some (.lst xs)) : TyOf K H (.ref a) (.type "list")
  | frz {a : Addr} {o : Obj} {xs : List V} (e : H a = some (.frz o (.lst xs))) : TyOf K H (.ref a) (.type "list")
  | tup {a : Addr} {xs : List V} (e : H a = some (.tup xs)) : TyOf K H (.ref a) (.type "tuple")
  | dK {a : Addr} {kvs : List (Key × V)} (e : H a = some (.dK kvs)) : TyOf K H (.ref a) (.type "dict")
  | dT {a : Addr} {kvs : List (List Key × V)} (e : H a = some (.dT kvs)) : TyOf K H (.ref a) (.type "dict")
  | ins {a C dx : Addr} {fs : List (Str × V)} (e : H a = some (.ins C dx fs)) (cl : Cls K C) (ha : PySem.W.findIn K (.ref C) "__class__" = some (some (.builtin "object.__class__")))
      (hn : PySem.W.specialIn K (.builtin "object.__class__") "__get__" = some (some (.builtin "getset_descriptor.__get__"))) (htk : PySem.W.takesIn K (.builtin "object.__class__") = some true)
      (hm : PySem.W.mroIn K C (.type "object") = some true) : TyOf K H (.ref a) (.ref C)
theorem isinst_ok {x : V} {u t : Value} (I : Inv X pins σ H s) (rx : RelV x u) (ty : TyOf X.K H x t) (e : PySem.W.kitOne X.K t c = some b) (h : ∀ tk, Q (.bool b) { s with toks := tk }) :
    wpAny (model X.prog X.w) A (call (.builtin "isinstance") [u, c]) Q E s := by
  cases ty with
  | non => cases (show u = Value.none from rx); exact PySem.W.kia_one PySem.W.kitx_none I.kIn True.intro e (fun z => nomatch z) h
  | bl y => cases (show u = Value.bool y from rx); exact PySem.W.kia_one PySem.W.kitx_bool I.kIn True.intro e (fun z => nomatch z) h
  | int i => obtain ⟨t, q⟩ := (show ∃ t, u = Value.int i t from rx); cases q; exact PySem.W.kia_one PySem.W.kitx_int I.kIn True.intro e (fun z => nomatch z) h
  | str y => obtain ⟨t, q⟩ := (show ∃ t, u = Value.str y t from rx); cases q; exact PySem.W.kia_one PySem.W.kitx_str I.kIn True.intro e (fun z => nomatch z) h
  | flt y => obtain ⟨t, q⟩ := (show ∃ t, u = Value.float y t from rx); cases q; exact PySem.W.kia_one PySem.W.kitx_float I.kIn True.intro e (fun z => nomatch z) h
  | @lst a xs ea =>
    cases (show u = Value.ref a from rx)
    obtain ⟨_, _, n, _, h1⟩ := (show ObjOk X.prog X.w H s.heap a (.lst xs) from I.hok a _ ea)
    exact PySem.W.kia_one PySem.W.kitx_list I.kIn ⟨_, h1, rfl⟩ e (fun z => nomatch z) h
  | @frz a ob xs ea =>
    cases (show u = Value.ref a from rx)
    obtain ⟨_, _, _, n, _, h1⟩ := (show ObjOk X.prog X.w H s.heap a (.frz ob (.lst xs)) from I.hok a _ ea)
    exact PySem.W.kia_one PySem.W.kitx_list I.kIn ⟨_, h1, rfl⟩ e (fun z => nomatch z) h
  | @tup a xs ea =>
    cases (show u = Value.ref a from rx)
    obtain ⟨_, _, _, p⟩ := (show ObjOk X.prog X.w H s.heap a (.tup xs) from I.hok a _ ea)
    obtain ⟨o, h1, h2, _⟩ := p
    exact PySem.W.kia_one PySem.W.kitx_tuple I.kIn ⟨o, h1, h2⟩ e (fun z => nomatch z) h
  | @dK a kvs ea =>
    cases (show u = Value.ref a from rx)
    obtain ⟨_, _, vs, _, p⟩ := (show ObjOk X.prog X.w H s.heap a (.dK kvs) from I.hok a _ ea)
    obtain ⟨o, es, ep, h1, h2, _⟩ := p
    exact PySem.W.kia_one PySem.W.kitx_dict I.kIn ⟨o, h1, h2.1⟩ e (fun z => nomatch z) h
  | @dT a kvs ea =>
    cases (show u = Value.ref a from rx)
    obtain ⟨_, _, xs, _, o, es, ep, h1, h2, _⟩ := (show ObjOk X.prog X.w H s.heap a (.dT kvs) from I.hok a _ ea)
    exact PySem.W.kia_one PySem.W.kitx_dict I.kIn ⟨o, h1, h2.1⟩ e (fun z => nomatch z) h
  | @ins a C dx fs ea cl ha hn htk hm =>
    cases (show u = Value.ref a from rx)
    obtain ⟨mA, O, _⟩ := ins_get I.hok ea
    obtain ⟨od, J, _⟩ := O.look
    exact PySem.W.kia_one (PySem.W.kitx_own (cl.get _) cl.hd ha hn htk hm) I.kIn J e (fun z => nomatch z) h
end
end L2
namespace L2
open PySem PySem.Spec PyProof.Rows
structure Room (k : Nat) (A : Around) : Prop where
  hd : A.handled = none
  dp : A.depth + 3 * k + 5 < recursionLimit
  un : A.units + 16 * k + 200 < cLine
theorem Room.mono {j k : Nat} {A : Around} (r : Room k A) (h : j ≤ k) : Room j A := ⟨r.hd, by have := r.dp; omega, by have := r.un; omega⟩
theorem Room.deeper {k : Nat} {A : Around} (r : Room (k + 1) A) (env : Env) : Room k (A.deeper env) :=
  ⟨r.hd, by have := r.dp; show A.depth + 1 + 3 * k + 5 < _; omega, by have := r.un; show A.units + 3 + 16 * k + 200 < _; omega⟩
theorem make_depth {A : Around} {C : Addr} {us : List Value} {kw : List (Str × Value)} : (A.under (.builtin "type.__call__" ⟨.ref C :: us, kw⟩)).depth = A.depth + 1 := by
  first | rfl | simp [Around.under, Code.weight, Code.isCreation, Code.isGuard, Code.isCaller, Code.frames, Code.isFrame, guardIds]
theorem make_units {A : Around} {C : Addr} {us : List Value} {kw : List (Str × Value)} : (A.under (.builtin "type.__call__" ⟨.ref C :: us, kw⟩)).units = A.units + 1 := by
  first | rfl | simp [Around.under, Code.cUnits, Code.frames, Code.isFrame]
theorem Room.make {k : Nat} {A : Around} (r : Room (k + 1) A) (C : Addr) (us : List Value) (kw : List (Str × Value)) : Room k (A.under (.builtin "type.__call__" ⟨.ref C :: us, kw⟩)) :=
  ⟨r.hd, by have := r.dp; rw [make_depth]; omega, by have := r.un; rw [make_units]; omega⟩
theorem Room.depth {k : Nat} {A : Around} (r : Room k A) : A.depth < recursionLimit := by have := r.dp; omega
def tNil : TA := fun _ H Q => Q [] H
def tCons (ta : TE) (tr : TA) : TA := fun σ H Q => ta σ H fun x H1 => tr σ H1 fun xs H2 => Q (x :: xs) H2
section
variable {X : Cx} {e : Expr} {es : List Expr} {te : TE} {t : TA} {pos : Pos}
theorem pa_nil : PA X [] tNil := fun _ _ _ _ H Q I h => Calls.spliced_nil ⟨[], H, I, .nil, h⟩
theorem pa_cons (ha : PE X e te) (hr : PA X es t) (hs : starEach (e :: es) X.env = (false, eval e X.env) :: starEach es X.env := by rfl) : PA X (e :: es) (tCons te t) := by
  intro pos pins s σ H Q I h
  rw [hs]
  show wpAny _ _ (spliced ((false, eval e X.env) :: backTo pos (starEach es X.env))) _ _ s
  refine Calls.spliced_cons (thn (ha pins s σ H _ I h) fun u s1 ⟨x, H1, I1, r1, q1⟩ => ?_)
  exact thn (hr pos pins s1 σ H1 _ I1 q1) fun us s2 ⟨xs, H2, I2, r2, q2⟩ => ⟨x :: xs, H2, I2, .cons r1 r2, q2⟩
def tTup (t : TA) : TE := fun σ H Q => t σ H fun xs H1 => xs.length ≤ sizeLine ∧ ∀ p, H1 p = none → Q (.ref p) (upd H1 p (.tup xs))
def tLst (t : TA) : TE := fun σ H Q => t σ H fun xs H1 => xs.length ≤ sizeLine ∧ ∀ p, H1 p = none → Q (.ref p) (upd H1 p (.lst xs))
theorem pe_tup {x1} (h : PA X es t) : PE X (.Tuple es x1 pos) (tTup t) := by
  intro pins s σ H Q I hq
  refine wpAny_Tuple_spliced (thn (h pos pins s σ H _ I hq) fun us s1 ⟨xs, H1, I1, r, z, q⟩ => ⟨by rw [← r.length]; exact z, ?_⟩)
  have hf : H1 s1.heap.objs.size = none := I1.hok.fresh (Nat.le_refl _)
  refine ⟨.ref s1.heap.objs.size, upd H1 s1.heap.objs.size (.tup xs), I1.laid (t' := s1.toks) (fun b u e => Heap.get?_push_of_some _ e) (Nat.le_refl _) ?_, rfl, q _ hf⟩
  exact ⟨z, us, r, ⟨_, Heap.get?_push_size _ rfl, rfl, _, rfl⟩⟩
theorem pe_lst (h : PA X es t) : PE X (.List es pos) (tLst t) := by
  intro pins s σ H Q I hq
  refine wpAny_List_spliced (thn (h pos pins s σ H _ I hq) fun us s1 ⟨xs, H1, I1, r, z, q⟩ => ⟨by rw [← r.length]; exact z, ?_⟩)
  have hf : H1 s1.heap.objs.size = none := I1.hok.fresh (Nat.le_refl _)
  refine ⟨.ref s1.heap.objs.size, upd H1 s1.heap.objs.size (.lst xs), I1.laid (t' := s1.toks) (fun b u e => Heap.get?_push_of_some _ e) (Nat.le_refl _) ?_, rfl, q _ hf⟩
  exact ⟨z, us, 0, r, Heap.get?_push_size _ rfl⟩
end
abbrev Sp := List V → Hp → VK → XK → Prop
abbrev CXT := List Env → Hp → Shared → XK → Value → Shared → Prop
structure Env0 (P : Program) (w : World) (K : PySem.W.Frag) (mg : Str → Option Value) (base : Heap) (A : Around) (outer : List Env) (s : Shared) (H : Hp) : Prop where
  frames : A.frames = some outer
  mod : Mod K mg base
  bs : ∀ b o, base.get? b = some o → s.heap.get? b = some o ∧ H b = none
  bsz : base.objs.size ≤ s.heap.objs.size
  funs : s.heap.FunFrames base outer
  frf : ∀ b ∈ frs outer, H b = none
  hok : HOk P w H s.heap
  bare : AllBare s.gens
def CE (outer : List Env) (P : Program) (w : World) (H : Hp) (s : Shared) (Q : VK) (u : Value) (s' : Shared) : Prop :=
  ∃ v H', s'.os = s.os ∧ AllBare s'.gens ∧ Un (frs outer) [] H H' s.heap s'.heap ∧ HOk P w H' s'.heap ∧ RelV v u ∧ Q v H'
def CR (CX : CXT) (outer : List Env) (P : Program) (w : World) (H : Hp) (s : Shared) (Q : VK) (E : XK) (r : Result) (s' : Shared) : Prop :=
  match r with
  | .ok (.ret u) => CE outer P w H s Q u s'
  | .ok _ => False
  | .error e => CX outer H s E e s'
structure FnOk (P : Program) (w : World) (K : PySem.W.Frag) (mg : Str → Option Value) (base : Heap) (CX : CXT) (k : Nat) (f : Addr) (fd : FuncData) (ps : List Str) (sp : Sp) : Prop where
  len : ∀ vs H Q E, sp vs H Q E → vs.length = ps.length
  run : ∀ (A : Around) (outer : List Env) (s : Shared) (H : Hp) (args : Args) (us : List Value) (vs : List V) (Q : VK) (E : XK), Room k A → Env0 P w K mg base A outer s H → BindsTo s fd args (ps.zip us) → Vals vs us → sp vs H Q E →
    codeAny (model P w) A (.call (.ref f) args) (CR CX outer P w H s Q E) s
theorem FnOk.mono {P : Program} {w : World} {K : PySem.W.Frag} {mg : Str → Option Value} {base : Heap} {CX : CXT} {j k : Nat} {f : Addr} {fd : FuncData} {ps : List Str} {sp : Sp} (F : FnOk P w K mg base CX j f fd ps sp) (h : j ≤ k) :
    FnOk P w K mg base CX k f fd ps sp := ⟨F.len, fun A outer s H args us vs Q E hr => F.run A outer s H args us vs Q E (hr.mono h)⟩
theorem Env0.make {P : Program} {w : World} {K : PySem.W.Frag} {mg : Str → Option Value} {base : Heap} {A : Around} {outer : List Env} {s : Shared} {H : Hp} (e : Env0 P w K mg base A outer s H) (C : Addr) (us : List Value) (kw : List (Str × Value)) :
    Env0 P w K mg base (A.under (.builtin "type.__call__" ⟨.ref C :: us, kw⟩)) outer s H := ⟨by first | exact e.frames | (simpa [Around.under, Code.envs, Code.isFrame, pushEnvs] using e.frames), e.mod, e.bs, e.bsz, e.funs, e.frf, e.hok, e.bare⟩
section
variable {X : Cx} {pins : List (Addr × Obj)} {σ : St} {H : Hp} {s s' : Shared}
theorem Inv.env0 (I : Inv X pins σ H s) : Env0 X.prog X.w X.K X.mg X.base X.A X.stack s H :=
  ⟨I.ok.frames, I.ok.mod, I.bs, Nat.le_trans I.ok.bsz I.sz, I.stack, I.stkFree, I.hok, I.bare⟩
theorem Inv.after {Q : VK} {u : Value} (I : Inv X pins σ H s) (h : CE X.stack X.prog X.w H s Q u s') : EP X pins σ Q u s' := by
  obtain ⟨v, H', os, bare, un, hok, r, q⟩ := h
  obtain ⟨hh, g, d, t, os'⟩ := s'
  obtain rfl : os' = s.os := os
  exact ⟨v, H', I.call (h' := hh) (g' := g) (d' := d) (t' := t) (ch := []) un hok bare (fun b z => absurd z (by simp)), r, q⟩
end
def tCall (sp : Sp) (dvs : List V) (E : XK) (t : TA) : TE := fun σ H Q => t σ H fun vs H1 => sp (vs ++ dvs) H1 Q E
def tMeth (C : Addr) (m : Str) (sp : Sp) (dvs : List V) (E : XK) (ta : TE) (t : TA) : TE := fun σ H Q => ta σ H fun x H1 => ∃ a dx fs, x = .ref a ∧ H1 a = some (.ins C dx fs) ∧ fs.lookup m = none ∧
  t σ H1 fun vs H2 => sp (x :: (vs ++ dvs)) H2 Q E
def tMake (C : Addr) (sp : Sp) (dvs : List V) (E : XK) (t : TA) : TE := fun σ H Q => t σ H fun vs H1 => ∀ x dx, H1 x = none → H1 dx = none → dx ≠ x →
  sp (.ref x :: (vs ++ dvs)) (upd (upd H1 dx (.own x)) x (.ins C dx [])) (fun v H2 => v = .non ∧ Q (.ref x) H2) E
def Binds (K : PySem.W.Frag) (fd : FuncData) (ps : List Str) (ds : List Value) : Prop :=
  ∀ (s : Shared) (us : List Value), K.In s.heap → (us ++ ds).length = ps.length → BindsTo s fd ⟨us, []⟩ (ps.zip (us ++ ds))
theorem Binds.all {K : PySem.W.Frag} {fd : FuncData} {ps : List Str} (h : ∀ us : List Value, us.length = ps.length → bindArgs fd ⟨us, []⟩ = pure (ps.zip us)) : Binds K fd ps [] := fun s us _ hl => by
  rw [List.append_nil] at hl ⊢
  exact .of_eq (h us hl)
def Passes (CX : CXT) (X : Cx) (E : XK) : Prop := ∀ (pins : List (Addr × Obj)) (σ : St) (H : Hp) (s : Shared) (e : Value) (s' : Shared), Inv X pins σ H s → CX X.stack H s E e s' → X.xe e s'
section
variable {X : Cx} {CX : CXT} {k : Nat} {f C : Addr} {fd : FuncData} {ps : List Str} {sp : Sp} {dvs : List V} {ds : List Value} {E : XK} {x m : Str} {p pos apos : Pos} {e o : Expr} {es : List Expr} {ta : TE} {t : TA}
theorem run_fn {pins : List (Addr × Obj)} {σ : St} {H : Hp} {s : Shared} {Q : VK} {us : List Value} {vs : List V} (F : FnOk X.prog X.w X.K X.mg X.base CX k f fd ps sp) (hr : Room k X.A) (hb : Binds X.K fd ps ds) (hd : Vals dvs ds) (hx : Passes CX X E)
    (I : Inv X pins σ H s) (r : Vals vs us) (h : sp (vs ++ dvs) H Q E) : wpAny (model X.prog X.w) X.A (call (.ref f) us) (EP X pins σ Q) X.xe s := by
  have r2 : Vals (vs ++ dvs) (us ++ ds) := r.append hd
  have hl : (us ++ ds).length = ps.length := by rw [← r2.length]; exact F.len _ _ _ _ h
  refine wpAny_call (codeAny_mono (F.run X.A X.stack s H ⟨us, []⟩ (us ++ ds) (vs ++ dvs) Q E hr I.env0 (hb s us I.kIn hl) r2 h) fun r s' hq => ?_)
  cases r with
  | error e => exact hx pins σ H s e s' I hq
  | ok fl =>
    cases fl with
    | ret u => exact I.after hq
    | next => exact False.elim hq
    | brk => exact False.elim hq
    | cont => exact False.elim hq
theorem pe_call (F : FnOk X.prog X.w X.K X.mg X.base CX k f fd ps sp) (hr : Room k X.A) (hg : Gl X x) (hm : X.mg x = some (.ref f)) (hk : PySem.W.keepIn X.K (.ref f) = true) (hb : Binds X.K fd ps ds) (hd : Vals dvs ds) (hx : Passes CX X E)
    (ha : PA X (e :: es) t) (hdb : (x == ("__debug__" : Str)) = false := by decide) (he : starEach (e :: es) X.env = (false, eval e X.env) :: starEach es X.env := by rfl) (hpl : (backTo pos (starEach es X.env)).any (·.1) = false := by rfl) :
    PE X (.Call (.Name x p) (e :: es) [] pos) (tCall sp dvs E t) := by
  intro pins s σ H Q I h
  refine wpAny_Call_Name_kw (ld_glob I hg hm ?_ hdb)
  refine PySem.W.callWith_K (h₀ := X.base) I.ok.mod.kin hk (thn (ha pos pins s σ H _ I h) fun us s1 ⟨vs, H1, I1, r, q⟩ => ⟨I1.kIn, ?_⟩) he hpl
  exact run_fn F hr hb hd hx I1 r q
theorem pe_meth {pl : Sem Bool} (he : PE X o ta) (c : Cls X.K C) (hm : Meth X.K C m f) (F : FnOk X.prog X.w X.K X.mg X.base CX k f fd ps sp) (hr : Room k X.A) (hb : Binds X.K fd ps ds) (hd : Vals dvs ds) (hx : Passes CX X E) (ha : PA X (e :: es) t)
    (hst : starEach (e :: es) X.env = (false, eval e X.env) :: starEach es X.env := by rfl) (hpl : (backTo pos (starEach es X.env)).any (·.1) = false := by rfl)
    (ht : eval (.Call (.Attribute o m apos) (e :: es) [] pos) X.env = (do
      let ov ← eval o X.env
      standAt apos.atName
      let (f, first) ← holding [ov] (getMethod ov m pl)
      callWith pos f first (backTo pos (starEach (e :: es) X.env)) (backToKw pos (keywordEach [] X.env))) := by rfl) :
    PE X (.Call (.Attribute o m apos) (e :: es) [] pos) (tMeth C m sp dvs E ta t) := by
  intro pins s σ H Q I h
  refine PySem.W.methodCall_KW (pl := pl) (thn (he pins s σ H _ I h) fun u s1 ⟨x, H1, I1, rx, a, dx, fs, ex, ea, l, q⟩ => ?_) ht
  subst ex
  obtain rfl : u = Value.ref a := rx
  refine getmeth_ok I1 ea c hm l ?_
  refine PySem.W.callWith_K (first := [.ref a]) (h₀ := X.base) I.ok.mod.kin hm.kp (thn (ha pos pins s1 σ H1 _ I1 q) fun us s2 ⟨vs, H2, I2, r, q2⟩ => ⟨I2.kIn, ?_⟩) hst hpl
  exact run_fn (us := .ref a :: us) (vs := .ref a :: vs) F hr hb hd hx I2 (.cons rfl r) q2
structure Mk (K : PySem.W.Frag) (C f : Addr) : Prop where
  makes : PySem.W.makesIn K C = true
  init : PySem.W.findIn K (.ref C) "__init__" = some (some (.ref f))
  fn : PySem.W.isFn K (.ref f) = true
  kp : PySem.W.keepIn K (.ref C) = true
theorem run_make {pins : List (Addr × Obj)} {σ : St} {H : Hp} {s : Shared} {Q : VK} {us : List Value} {vs : List V} (M : Mk X.K C f) (F : FnOk X.prog X.w X.K X.mg X.base CX k f fd ps sp) (hr : Room (k + 1) X.A) (hb : Binds X.K fd ps ds) (hd : Vals dvs ds)
    (hx : Passes CX X E) (I : Inv X pins σ H s) (r : Vals vs us)
    (h : ∀ x dx, H x = none → H dx = none → dx ≠ x → sp (.ref x :: (vs ++ dvs)) (upd (upd H dx (.own x)) x (.ins C dx [])) (fun v H2 => v = .non ∧ Q (.ref x) H2) E) :
    wpAny (model X.prog X.w) X.A (call (.ref C) us) (EP X pins σ Q) X.xe s := by
  have hq := h (s.heap.objs.size + 1) s.heap.objs.size (I.hok.fresh (Nat.le_succ _)) (I.hok.fresh (Nat.le_refl _)) (Nat.ne_of_lt (Nat.lt_succ_self _))
  have I2 := Inv.made (C := C) I
  have r2 : Vals (V.ref (s.heap.objs.size + 1) :: (vs ++ dvs)) (Value.ref (s.heap.objs.size + 1) :: (us ++ ds)) := .cons rfl (r.append hd)
  have hl : (Value.ref (s.heap.objs.size + 1) :: us ++ ds).length = ps.length := by
    have e := r2.length
    rw [F.len _ _ _ _ hq] at e
    exact e.symm
  refine wpAny_call (make_map (f := f) I.kIn M.makes M.init (beq_iff_eq.mp M.fn) (codeAny_mono (F.run _ X.stack _ _ ⟨Value.ref (s.heap.objs.size + 1) :: us, []⟩ (Value.ref (s.heap.objs.size + 1) :: (us ++ ds)) _ _ E (hr.make C us [])
    (I2.env0.make C us []) (hb _ (Value.ref (s.heap.objs.size + 1) :: us) I2.kIn hl) r2 hq) fun r s' hq' => ?_))
  cases r with
  | error e => exact hx pins σ _ _ e s' I2 hq'
  | ok fl =>
    cases fl with
    | ret u =>
      obtain ⟨v, H', I3, rv, ev, q3⟩ := I2.after hq'
      subst ev
      exact ⟨rv, ⟨V.ref (s.heap.objs.size + 1), H', I3, rfl, q3⟩⟩
    | next => exact False.elim hq'
    | brk => exact False.elim hq'
    | cont => exact False.elim hq'
theorem pe_make (M : Mk X.K C f) (F : FnOk X.prog X.w X.K X.mg X.base CX k f fd ps sp) (hr : Room (k + 1) X.A) (hg : Gl X x) (hm : X.mg x = some (.ref C)) (hb : Binds X.K fd ps ds) (hd : Vals dvs ds) (hx : Passes CX X E)
    (ha : PA X (e :: es) t) (hdb : (x == ("__debug__" : Str)) = false := by decide) (he : starEach (e :: es) X.env = (false, eval e X.env) :: starEach es X.env := by rfl) (hpl : (backTo pos (starEach es X.env)).any (·.1) = false := by rfl) :
    PE X (.Call (.Name x p) (e :: es) [] pos) (tMake C sp dvs E t) := by
  intro pins s σ H Q I h
  refine wpAny_Call_Name_kw (ld_glob I hg hm ?_ hdb)
  refine PySem.W.callWith_K (h₀ := X.base) I.ok.mod.kin M.kp (thn (ha pos pins s σ H _ I h) fun us s1 ⟨vs, H1, I1, r, q⟩ => ⟨I1.kIn, ?_⟩) he hpl
  exact run_make M F hr hb hd hx I1 r q
end
section
variable {X : Cx} {CX : CXT} {k : Nat} {f C : Addr} {fd : FuncData} {ps ks : List Str} {sp : Sp} {E : XK} {x m : Str} {p pos apos kpos : Pos} {e o : Expr} {es : List Expr} {kws : List Keyword} {te ta : TE} {t tk : TA} {nm : Option Str}
variable {g : List Value → List Value → List Value} {gV : List V → List V → List V}
end
structure FnScope (N P : List Str) (sc : Scope) : Prop where
  kind : sc.kind = .function
  co : sc.isCoroutine = false
  gen : sc.isGenerator = false
  nd : N.Nodup
  pre : N.take P.length = P
  par : ∀ x ∈ P, sc.names.lookup x = some .local ∨ sc.names.lookup x = some .cell
  nofree : ∀ y ∈ sc.names, y.2 ≠ .free
theorem bindL_out {kindOf : Str → Option NameKind} {x : Str} : ∀ {binds : List (Str × Value)} {m : Str → Option Value}, (∀ v, (x, v) ∉ binds) → bindL kindOf binds m x = m x
  | [], _, _ => rfl
  | (n, v) :: r, m, h => by
    unfold bindL
    rw [bindL_out fun w hw => h w (List.mem_cons_of_mem _ hw)]
    split
    · have : x ≠ n := by rintro rfl; exact h v List.mem_cons_self
      simp [this]
    · rfl
theorem bindC_out {kindOf : Str → Option NameKind} {x : Str} : ∀ {binds : List (Str × Value)} {m : Str → Option Value}, (∀ v, (x, v) ∉ binds) → bindC kindOf binds m x = m x
  | [], _, _ => rfl
  | (n, v) :: r, m, h => by
    unfold bindC
    rw [bindC_out fun w hw => h w (List.mem_cons_of_mem _ hw)]
    split
    · rfl
    · have : x ≠ n := by rintro rfl; exact h v List.mem_cons_self
      simp [this]
theorem bindL_get {kindOf : Str → Option NameKind} {x : Str} {v : Value} : ∀ {P : List Str} {vs : List Value} {i : Nat} {m : Str → Option Value}, P.Nodup → P[i]? = some x → vs[i]? = some v → kindOf x = some .local →
    bindL kindOf (P.zip vs) m x = some v
  | [], _, _, _, _, h, _, _ => by simp at h
  | _ :: _, [], _, _, _, _, h, _ => by simp at h
  | p :: P, w :: vs, 0, m, nd, h1, h2, hk => by
    simp at h1 h2; subst h1; subst h2
    show bindL kindOf ((p, w) :: P.zip vs) m p = _
    unfold bindL
    rw [bindL_out fun v hv => (List.nodup_cons.mp nd).1 (List.of_mem_zip hv).1, if_pos hk]
    simp
  | p :: P, w :: vs, i + 1, m, nd, h1, h2, hk => by
    show bindL kindOf ((p, w) :: P.zip vs) m x = _
    unfold bindL
    exact bindL_get (i := i) (List.nodup_cons.mp nd).2 (by simpa using h1) (by simpa using h2) hk
theorem bindC_get {kindOf : Str → Option NameKind} {x : Str} {v : Value} : ∀ {P : List Str} {vs : List Value} {i : Nat} {m : Str → Option Value}, P.Nodup → P[i]? = some x → vs[i]? = some v → kindOf x ≠ some .local →
    bindC kindOf (P.zip vs) m x = some v
  | [], _, _, _, _, h, _, _ => by simp at h
  | _ :: _, [], _, _, _, _, h, _ => by simp at h
  | p :: P, w :: vs, 0, m, nd, h1, h2, hk => by
    simp at h1 h2; subst h1; subst h2
    show bindC kindOf ((p, w) :: P.zip vs) m p = _
    unfold bindC
    rw [bindC_out fun v hv => (List.nodup_cons.mp nd).1 (List.of_mem_zip hv).1, if_neg hk]
    simp
  | p :: P, w :: vs, i + 1, m, nd, h1, h2, hk => by
    show bindC kindOf ((p, w) :: P.zip vs) m x = _
    unfold bindC
    exact bindC_get (i := i) (List.nodup_cons.mp nd).2 (by simpa using h1) (by simpa using h2) hk
def start (N : List Str) (vs : List V) : St := vs.map some ++ List.replicate (N.length - vs.length) none
def cxOf (CX : CXT) (P : Program) (w : World) (K : PySem.W.Frag) (mg : Str → Option Value) (base : Heap) (N : List Str) (qual : Str) (scope : Scope) (f : Addr) (cd : Value) (A : Around) (outer : List Env) (s : Shared) (H : Hp) (E : XK) : Cx where
  prog := P
  w := w
  K := K
  mg := mg
  base := base
  A := A.deeper (envOfC qual scope s.heap.objs.size f cd)
  N := N
  s₀ := s
  H₀ := H
  env := envOfC qual scope s.heap.objs.size f cd
  outer := outer
  stack := envOfC qual scope s.heap.objs.size f cd :: outer
  ex := []
  calm := true
  fn := fun _ => true
  pn := []
  xe := fun e s' => wpAny (model P w) (A.deeper (envOfC qual scope s.heap.objs.size f cd)) (leaving (envOfC qual scope s.heap.objs.size f cd) e) (fun _ s'' => CX outer H s E e s'') (fun e' s'' => CX outer H s E e' s'') s'
theorem cell_has {sc : Scope} {n : Nat} {x : Str} (h : sc.names.lookup x = some .cell) : ∃ c, (cellsFrom n sc.names []).lookup x = some c := by
  have q := PySem.W.cellsFrom_some sc.names n [] (.inl h)
  exact Option.isSome_iff_exists.mp q
theorem inv_start {CX : CXT} {P : Program} {w : World} {K : PySem.W.Frag} {mg : Str → Option Value} {base : Heap} {N ps : List Str} {qual : Str} {scope : Scope} {f : Addr} {cd : Value} {A : Around} {outer : List Env} {s s1 : Shared} {H : Hp} {E : XK} {us : List Value} {vs : List V}
    (S : FnScope N ps scope) (hd : A.handled = none) (e0 : Env0 P w K mg base A outer s H) (hl : vs.length = ps.length) (r : Vals vs us)
    (x : InCallC s s.heap.objs.size (bindL (envOfC qual scope s.heap.objs.size f cd).kindOf (ps.zip us) fun _ => none) (cellsFrom (s.heap.objs.size + 1) scope.names []) (bindC (envOfC qual scope s.heap.objs.size f cd).kindOf (ps.zip us) fun _ => none) s1) :
    Inv (cxOf CX P w K mg base N qual scope f cd A outer s H E) [] (start N vs) H s1 := by
  have hpl : ps.length ≤ N.length := by have := congrArg List.length S.pre; rw [List.length_take] at this; omega
  obtain ⟨h1, tk, rfl, hk⟩ := x.done
  have noA : ∀ b : Addr, b ∉ (cxOf CX P w K mg base N qual scope f cd A outer s H E).ex := fun b z => absurd (show b ∈ ([] : List Addr) from z) (by simp)
  refine ⟨⟨e0.mod, S.kind, rfl, rfl, Nat.le_refl _, fun y z c h1 h2 => ?_, fun y hy => ?_, fun y c _ h => ?_, fun _ => hd, Around.frames_deeper e0.frames, .inr ⟨rfl, rfl⟩, fun b z => absurd z (noA b), e0.bs, e0.bsz, fun b _ _ => noA b, fun b z => absurd z (noA b), e0.funs, e0.frf⟩,
    rfl, e0.bare, Un.kept hk, ⟨_, x.toInCall.ns, fun i y v h1 h2 h3 => ?_⟩, fun y c h => ⟨_, x.cell y c h⟩, e0.hok.fresh (Nat.le_refl _), fun y c h => ?_, fun p hp => absurd (show p ∈ ([] : List (Addr × Obj)) from hp) (by simp), e0.hok.kept hk, ?_⟩
  · exact name_of_addr x.apart (PySem.mem_of_lookup h1) (PySem.mem_of_lookup h2)
  · have hy : scope.names.lookup y = some .cell ∨ scope.names.lookup y = some .free := hy
    rcases hy with hy | hy
    · exact cell_has hy
    · exact absurd rfl (S.nofree _ (PySem.mem_of_lookup hy))
  · exact Nat.le_of_lt (x.above y c (PySem.mem_of_lookup h))
  · have hi : i < vs.length := by
      unfold start at h2
      by_cases hi : i < vs.length
      · exact hi
      · rw [List.getElem?_append_right (by simpa using hi)] at h2
        rw [List.getElem?_replicate] at h2
        split at h2 <;> cases h2
    have ha : vs[i]? = some v := by
      unfold start at h2
      rw [List.getElem?_append_left (by simpa using hi), List.getElem?_map] at h2
      cases e : vs[i]? with
      | none => rw [e] at h2; cases h2
      | some a => rw [e] at h2; cases h2; rfl
    obtain ⟨u, hu, rv⟩ := r.get ha
    have hp : ps[i]? = some y := by
      rw [← S.pre, List.getElem?_take_of_lt (by omega)]; exact h1
    have ndP : ps.Nodup := by rw [← S.pre]; exact S.nd.sublist (List.take_sublist _ _)
    refine ⟨u, rv, ?_⟩
    rcases S.par y (List.mem_of_getElem? hp) with k | k
    · exact .inl ⟨k, bindL_get ndP hp hu k⟩
    · obtain ⟨c, e⟩ := cell_has (n := s.heap.objs.size + 1) k
      refine .inr ⟨.inl k, c, e, ?_⟩
      have q := x.cell y c e
      rw [bindC_get ndP hp hu (by show scope.names.lookup y ≠ _; rw [k]; decide)] at q
      exact q
  · exact .inl (e0.hok.fresh (Nat.le_of_lt (x.above y c (PySem.mem_of_lookup h))))
  · unfold start
    show _ = N.length
    rw [List.length_append, List.length_map, List.length_replicate]
    omega
theorem fn_of {CX : CXT} {P : Program} {w : World} {K : PySem.W.Frag} {mg : Str → Option Value} {base : Heap} {k : Nat} {f : Addr} {name qual : Str} {params : Arguments} {body : List Stmt} {scope : Scope} {dV kV doc pm cdv ct oc : Value} {an od : Option Addr}
    {osl : Array (Option Value)} {N ps : List Str} {sp : Sp} (lk : K.lookup f = some ⟨oc, od, .func (PySem.W.fnOf name qual params body scope dV kV doc pm an cdv ct), osl⟩) (hcd : PySem.W.codeIn K cdv qual = true) (S : FnScope N ps scope)
    (len : ∀ vs H Q E, sp vs H Q E → vs.length = ps.length)
    (hbody : ∀ (A : Around) (outer : List Env) (s : Shared) (H : Hp) (vs : List V) (Q : VK) (E : XK), Room k (A.deeper (envOfC qual scope s.heap.objs.size f cdv)) → sp vs H Q E →
      ∃ t, PSs (cxOf CX P w K mg base N qual scope f cdv A outer s H E) body t ∧ t { nx := fun _ H' => Q .non H', rt := Q } (start N vs) H) :
    FnOk P w K mg base CX (k + 1) f (PySem.W.fnOf name qual params body scope dV kV doc pm an cdv ct) ps sp := by
  refine ⟨len, fun A outer s H args us vs Q E hr e0 hb r hsp => ?_⟩
  have hl := len _ _ _ _ hsp
  have KX : K.In s.heap := e0.mod.kin.keeps fun b o e => (e0.bs b o e).1
  have lim : s.heap.NoLimit := e0.mod.nolimit.keeps fun b o e => (e0.bs b o e).1
  have hkind : ∀ y ∈ ps.zip us, scope.names.lookup y.1 = some .local ∨ (scope.names.lookup y.1 = some .cell ∧ ((cellsFrom (s.heap.objs.size + 1) scope.names []).lookup y.1).isSome = true) := fun ⟨n, v⟩ hy => by
    rcases S.par n (List.of_mem_zip hy).1 with q | q
    · exact .inl q
    · exact .inr ⟨q, PySem.W.cellsFrom_some _ _ _ (.inl q)⟩
  refine codeAny_call_function hr.depth (KX _ _ lk) rfl S.co S.gen rfl (PySem.W.codeRec_of KX hcd) (hb _ _ _ _ ?_)
  refine wpAny_newFunctionEnv_cells S.kind hkind fun env he s1 x => ?_
  subst he
  refine ⟨lim.keeps x.toInCall.keep, codeAny_func ?_⟩
  obtain ⟨t, ht, hq⟩ := hbody A outer s H vs Q E (hr.deeper _) hsp
  have I : Inv (cxOf CX P w K mg base N qual scope f cdv A outer s H E) [] (start N vs) H s1 := inv_start S hr.hd e0 hl r x
  refine wpAny_mono (ht [] s1 (start N vs) H _ I hq) (fun fl s' hs => ?_) fun e s' hs => hs
  have fin : ∀ {σ' : St} {H' : Hp} {v : V} {u : Value}, Inv (cxOf CX P w K mg base N qual scope f cdv A outer s H E) [] σ' H' s' → RelV v u → Q v H' → CE outer P w H s Q u s' :=
    fun {σ' H' v u} J rv q => ⟨v, H', J.os, J.bare, J.base, J.hok, rv, q⟩
  cases fl with
  | ret u =>
    obtain ⟨v, σ', H', J, rv, q⟩ := hs
    exact fin J rv q
  | next =>
    obtain ⟨σ', H', J, q⟩ := hs
    exact fin (v := V.non) (u := Value.none) J rfl q
  | brk =>
    obtain ⟨_, _, _, q⟩ := hs
    exact False.elim q
  | cont =>
    obtain ⟨_, _, _, q⟩ := hs
    exact False.elim q
end L2
namespace L2
open PySem PySem.Spec PyProof.Rows
section
variable {X : Cx} {x : Str} {p pos : Pos} {e : Expr} {es : List Expr} {t : TA} {id T : String} {r : List V → Hp → VK → Prop}
def tCB (r : List V → Hp → VK → Prop) (t : TA) : TE := fun σ H Q => t σ H fun vs H1 => r vs H1 Q
theorem pe_callB (hc : CallR X (.builtin id) r) (hg : Gl X x) (hm : X.mg x = none) (hv : bootBuiltins x = some (.builtin id)) (ha : PA X (e :: es) t) (hn : x ≠ "__name__" := by decide) (hdb : (x == ("__debug__" : Str)) = false := by decide)
    (he : starEach (e :: es) X.env = (false, eval e X.env) :: starEach es X.env := by rfl) (hpl : (backTo pos (starEach es X.env)).any (·.1) = false := by rfl) : PE X (.Call (.Name x p) (e :: es) [] pos) (tCB r t) := by
  intro pins s σ H Q I h
  refine wpAny_Call_Name_kw (ld_blt I hg hm hv ?_ hn hdb)
  exact PyProof.Rows.callWith_builtin1 (thn (ha pos pins s σ H _ I h) fun us s1 ⟨vs, H1, I1, r1, q1⟩ => hc pins s1 σ H1 vs us Q I1 r1 q1) he hpl
theorem pe_callTy (hc : CallR X (.type T) r) (hg : Gl X x) (hm : X.mg x = none) (hv : bootBuiltins x = some (.type T)) (ha : PA X (e :: es) t) (hn : x ≠ "__name__" := by decide) (hdb : (x == ("__debug__" : Str)) = false := by decide)
    (he : starEach (e :: es) X.env = (false, eval e X.env) :: starEach es X.env := by rfl) (hpl : (backTo pos (starEach es X.env)).any (·.1) = false := by rfl) : PE X (.Call (.Name x p) (e :: es) [] pos) (tCB r t) := by
  intro pins s σ H Q I h
  refine wpAny_Call_Name_kw (ld_blt I hg hm hv ?_ hn hdb)
  exact PyProof.Rows.callWith_type1 (thn (ha pos pins s σ H _ I h) fun us s1 ⟨vs, H1, I1, r1, q1⟩ => hc pins s1 σ H1 vs us Q I1 r1 q1) he hpl
end
end L2
namespace HT
open PySem PyProof.Rows
section
open PySem.SeqAt
open PySem.AutoSeq1 (wpAny_loadPart')
open PySem.MeetsSeq PySem.MeetsSeq2 PySem.MeetsSeq3
end
section
variable {prog : Program} {w : World} {A : Around} {E : Value → Shared → Prop} {s : Shared}
def sIx (n d : Nat) : Option Int → Nat
  | none => d
  | some v => if v < 0 then (v + (n : Int)).toNat else min v.toNat n
theorem sIx_none (n d : Nat) : sIx n d none = d := rfl
theorem sIx_nat (n d k : Nat) : sIx n d (some (k : Int)) = min k n := by
  show (if (k : Int) < 0 then ((k : Int) + (n : Int)).toNat else min (k : Int).toNat n) = min k n
  rw [if_neg (by omega), Int.toNat_natCast]
end
end HT
namespace L2
open PySem PySem.Spec PyProof.Rows
abbrev TO := St → Hp → (Option Int → Hp → Prop) → Prop
def PO (X : Cx) (e : Option Expr) (t : TO) : Prop :=
  ∀ (pins : List (Addr × Obj)) (s : Shared) (σ : St) (H : Hp) (Q : Option Int → Hp → Prop), Inv X pins σ H s → t σ H Q →
    wpAny (model X.prog X.w) X.A (evalPart e X.env) (fun u s' => ∃ o H', Inv X pins σ H' s' ∧ IsPart u o ∧ Q o H') X.xe s
def tNoPart : TO := fun _ H Q => Q none H
def tPart (t : TE) : TO := fun σ H Q => t σ H fun x H1 => ∃ i, x = .int i ∧ Q (some i) H1
section
variable {X : Cx} {e : Expr} {te : TE} {lo hi : Option Expr} {tl th : TO} {pos p2 : Pos}
theorem po_none : PO X none tNoPart := by
  intro pins s σ H Q I h
  rw [evalPart_none]
  exact wpAny_pure ⟨none, H, I, .none, h⟩
theorem po_some (h : PE X e te) : PO X (some e) (tPart te) := by
  intro pins s σ H Q I hw
  rw [evalPart_some]
  refine thn (h pins s σ H _ I hw) fun u s1 ⟨x, H1, I1, r1, q1⟩ => ?_
  obtain ⟨i, rfl, q⟩ := q1
  obtain ⟨t, rfl⟩ := r1
  exact ⟨some i, H1, I1, .int i t, q⟩
def SlR (X : Cx) (r : V → Option Int → Option Int → Hp → VK → Prop) : Prop :=
  ∀ (pins : List (Addr × Obj)) (s : Shared) (σ : St) (H : Hp) (x : V) (v vl vu : Value) (lo hi : Option Int) (sl : Addr) (Q : VK), Inv X pins σ H s → RelV x v → s.heap.IsSliceOf sl vl vu .none → IsPart vl lo → IsPart vu hi → r x lo hi H Q →
    ∃ T id, typeLookup (.type T) "__getitem__" = pure (some (.builtin id)) ∧ s.TypeIs v T ∧ wpAny (model X.prog X.w) X.A (getItem v (.ref sl)) (EP X pins σ Q) X.xe s
def tSl (r : V → Option Int → Option Int → Hp → VK → Prop) (te : TE) (tl th : TO) : TE := fun σ H Q => te σ H fun x H1 => tl σ H1 fun l H2 => th σ H2 fun u H3 => r x l u H3 Q
theorem pe_slice {r : V → Option Int → Option Int → Hp → VK → Prop} (hr : SlR X r) (he : PE X e te) (hl : PO X lo tl) (hu : PO X hi th) : PE X (.Subscript e (.Slice lo hi none p2) pos) (tSl r te tl th) := by
  intro pins s σ H Q I h
  refine Subscript_ (thn (he pins s σ H _ I h) fun v s1 ⟨x, H1, I1, r1, q1⟩ => ?_)
  refine wpAny_Slice (thn (hl pins s1 σ H1 _ I1 q1) fun vl s2 ⟨l, H2, I2, pl, q2⟩ => thn (hu pins s2 σ H2 _ I2 q2) fun vu s3 ⟨u, H3, I3, pu, q3⟩ => ?_)
  rw [evalPart_none]
  refine wpAny_pure ?_
  have I4 : Inv X pins σ H3 { s3 with heap := s3.heap.push { cls := .type "slice", data := .fields #[vl, vu, .none] } } := I3.kept (t' := s3.toks) fun b ob q => Heap.get?_push_of_some _ q
  obtain ⟨T, id, hT, ht, hg⟩ := hr pins { s3 with heap := s3.heap.push { cls := .type "slice", data := .fields #[vl, vu, .none] } } σ H3 x v vl vu l u s3.heap.objs.size Q I4 r1 (Heap.IsSliceOf.new ..) pl pu q3
  show wpAny (model X.prog X.w) X.A (subscriptTail e (.Slice lo hi none p2) v (.ref s3.heap.objs.size)) (EP X pins σ Q) X.xe { s3 with heap := s3.heap.push { cls := .type "slice", data := .fields #[vl, vu, .none] } }
  exact tail_any (ops := [.ref s3.heap.objs.size, v]) ht hT hg (by with_unfolding_all rfl)
def cutV (xs : List V) (lo hi : Option Int) : List V := (xs.drop (HT.sIx xs.length 0 lo)).take (HT.sIx xs.length xs.length hi - HT.sIx xs.length 0 lo)
theorem cutV_length (xs : List V) (lo hi : Option Int) : (cutV xs lo hi).length ≤ xs.length := by
  unfold cutV
  rw [List.length_take, List.length_drop]
  omega
end
end L2
namespace L2
open PySem PySem.Spec PyProof.Rows
def ixN (n : Nat) (i : Int) : Option Nat := if 0 ≤ i then (if i < n then some i.toNat else none) else if -(n : Int) ≤ i then some (i + n).toNat else none
def atI {α : Type} (xs : List α) (i : Int) : Option α := (ixN xs.length i).bind fun j => xs[j]?
theorem ixN_seq {n : Nat} {i : Int} {j : Nat} (h : ixN n i = some j) : seqIndex? i n = some j ∧ j < n ∧ -(n : Int) ≤ i ∧ i < n := by
  unfold ixN at h
  by_cases h0 : 0 ≤ i
  · rw [if_pos h0] at h
    by_cases h1 : i < n
    · rw [if_pos h1] at h
      have e : i.toNat = j := Option.some.inj h
      exact ⟨by rw [seqIndex_of h0 h1, e], by omega, by omega, h1⟩
    · rw [if_neg h1] at h; cases h
  · rw [if_neg h0] at h
    by_cases h1 : -(n : Int) ≤ i
    · rw [if_pos h1] at h
      have e : (i + n).toNat = j := Option.some.inj h
      exact ⟨by rw [seqIndex_neg (by omega) h1, e], by omega, h1, by omega⟩
    · rw [if_neg h1] at h; cases h
theorem atI_get {α : Type} {xs : List α} {i : Int} {v : α} (h : atI xs i = some v) : ∃ j, seqIndex? i xs.length = some j ∧ xs[j]? = some v ∧ j < xs.length ∧ -(xs.length : Int) ≤ i ∧ i < xs.length := by
  unfold atI at h
  cases e : ixN xs.length i with
  | none => rw [e] at h; cases h
  | some j =>
    rw [e] at h
    obtain ⟨h1, h2, h3, h4⟩ := ixN_seq e
    exact ⟨j, h1, h, h2, h3, h4⟩
theorem atI_nat {α : Type} {xs : List α} {j : Nat} {v : α} (h : xs[j]? = some v) : atI xs (j : Int) = some v := by
  have hj : j < xs.length := (List.getElem?_eq_some_iff.mp h).1
  have e : ixN xs.length (j : Int) = some j := by
    unfold ixN
    rw [if_pos (by omega), if_pos (by omega)]; simp
  unfold atI; rw [e]; exact h
def PlainIx (b : Expr) : Prop := ∀ o i, subscripted b false o i = operate [o, i] (getItem o i)
def IxR (X : Cx) (r : R2) : Prop :=
  ∀ (value slice : Expr) (pins : List (Addr × Obj)) (s : Shared) (σ : St) (H : Hp) (x y : V) (v u : Value) (Q : VK), Inv X pins σ H s → RelV x v → RelV y u → r x y H Q →
    subscripted slice false v u = operate [v, u] (getItem v u) → wpAny (model X.prog X.w) X.A (subscriptTail value slice v u) (EP X pins σ Q) X.xe s
def MtR (X : Cx) (id : String) (r : V → List V → Hp → VK → Prop) : Prop :=
  ∀ (pins : List (Addr × Obj)) (s : Shared) (σ : St) (H : Hp) (x : V) (xs : List V) (v : Value) (us : List Value) (Q : VK), Inv X pins σ H s → RelV x v → Vals xs us → r x xs H Q →
    wpAny (model X.prog X.w) X.A (call (.builtin id) (v :: us)) (EP X pins σ Q) X.xe s
section
variable {X : Cx} {a b : Expr} {ta tb : TE} {pos : Pos}
theorem pe_ix {r : R2} (hr : IxR X r) (ha : PE X a ta) (hb : PE X b tb) (hs : PlainIx b) : PE X (.Subscript a b pos) (tOp r ta tb) := by
  intro pins s σ H Q I h
  exact Subscript_ (binT ha hb I h fun v u s2 x y H2 I2 rx ry q => hr a b pins s2 σ H2 x y v u Q I2 rx ry q (hs _ _))
def rIxL (K : PySem.W.Frag) : R2 := fun x y H Q => ∃ p xs i v, x = .ref p ∧ y = .int i ∧ SqL K H p xs ∧ atI xs i = some v ∧ Q v H
def rIxT (K : PySem.W.Frag) : R2 := fun x y H Q => ∃ p xs i v, x = .ref p ∧ y = .int i ∧ SqT K H p xs ∧ atI xs i = some v ∧ Q v H
theorem ix_list : IxR X (rIxL X.K) := by
  intro value slice pins s σ H x y v u Q I rx ry h hs
  obtain ⟨p, xs, i, z, rfl, rfl, hq, he, q⟩ := h
  cases rx
  obtain ⟨t, rfl⟩ := ry
  obtain ⟨its, r, pl, hz⟩ := I.list hq
  obtain ⟨j, h1, h2, h3, h4, h5⟩ := atI_get he
  obtain ⟨w, ew, rw'⟩ := r.get h2
  have hl := r.length
  have hn := line63
  have fin : EP X pins σ Q w s := ⟨z, H, I, rw', q⟩
  by_cases h0 : 0 ≤ i
  · have hj : i.toNat = j := by
      rw [seqIndex_of h0 h5] at h1
      exact Option.some.inj h1
    exact item_listR pl.isList h0 (by omega) (by rw [hj]; simpa using ew) fin hs
  · have hj : (i + (its.toArray.size : Int)).toNat = j := by
      rw [seqIndex_neg (by omega) h4] at h1
      rw [List.size_toArray, ← hl]
      exact Option.some.inj h1
    exact subscriptTail_builtinR (x := w) pl.isList.typeIs slot_list_getitem.lookup
      (wpAny_getItem_list_neg (Q := fun r s' => r = w ∧ EP X pins σ Q r s') pl.isList (by omega) (by rw [List.size_toArray] <;> omega) (by omega) (by rw [hj]; simpa using ew) ⟨rfl, fin⟩) hs
theorem ix_tup : IxR X (rIxT X.K) := by
  intro value slice pins s σ H x y v u Q I rx ry h hs
  obtain ⟨p, xs, i, z, rfl, rfl, hq, he, q⟩ := h
  cases rx
  obtain ⟨t, rfl⟩ := ry
  obtain ⟨its, r, pl, hz⟩ := I.tuple hq
  obtain ⟨j, h1, h2, h3, h4, h5⟩ := atI_get he
  obtain ⟨w, ew, rw'⟩ := r.get h2
  have hl := r.length
  have hn := line63
  have fin : EP X pins σ Q w s := ⟨z, H, I, rw', q⟩
  exact subscriptTail_builtinR (x := w) pl.typeIs slot_tuple_getitem.lookup
    (getItem_tuple (j := j) (Q := fun r s' => r = w ∧ EP X pins σ Q r s') pl (by omega) (by omega) (by rw [List.size_toArray, ← hl]; exact h1) (by simpa using ew) ⟨rfl, fin⟩) hs
theorem slice_bounds (lo hi : Option Int) (n : Nat) : (sliceBounds lo hi none n).1 = ((HT.sIx n 0 lo : Nat) : Int) ∧ (sliceBounds lo hi none n).2.1 = ((HT.sIx n n hi : Nat) : Int) ∧ (sliceBounds lo hi none n).2.2 = 1 := by
  refine ⟨?_, ?_, rfl⟩
  · cases lo with
    | none => simp [sliceBounds, HT.sIx]
    | some i =>
      simp only [sliceBounds, HT.sIx, Option.getD_none, show (1 : Int) > 0 by decide, if_true]
      by_cases h : i < 0
      · simp only [h, if_true] <;> omega
      · simp only [h, if_false] <;> omega
  · cases hi with
    | none => simp [sliceBounds, HT.sIx]
    | some i =>
      simp only [sliceBounds, HT.sIx, Option.getD_none, show (1 : Int) > 0 by decide, if_true]
      by_cases h : i < 0
      · simp only [h, if_true] <;> omega
      · simp only [h, if_false] <;> omega
theorem slicePick_cut (its : List Value) (lo hi : Option Int) : slicePick its.toArray lo hi none = ((its.drop (HT.sIx its.length 0 lo)).take (HT.sIx its.length its.length hi - HT.sIx its.length 0 lo)).toArray := by
  obtain ⟨h1, h2, h3⟩ := slice_bounds lo hi its.toArray.size
  unfold slicePick
  rw [h1, h2, h3]
  simp only [sliceRange_one, pick_run, List.size_toArray] <;> rfl
def rSlL (K : PySem.W.Frag) : V → Option Int → Option Int → Hp → VK → Prop := fun x lo hi H Q => ∃ a xs, x = .ref a ∧ SqL K H a xs ∧ ∀ p, H p = none → Q (.ref p) (upd H p (.lst (cutV xs lo hi)))
theorem sl_list : SlR X (rSlL X.K) := by
  intro pins s σ H x v vl vu lo hi sl Q I rx hs pl pu h
  obtain ⟨a, xs, rfl, hx, q⟩ := h
  cases rx
  obtain ⟨its, r, ht, hz⟩ := I.list hx
  have hlen := r.length
  refine ⟨"list", _, slot_list_getitem.lookup, ht.isList.typeIs, ?_⟩
  refine wpAny_getItem_list_slice ht.isList hs pl pu .none (by simp) ?_ (by rw [List.size_toArray] <;> omega)
  rw [slicePick_cut, ← hlen]
  refine ⟨.ref s.heap.objs.size, _, I.laid (t' := s.toks) (o := .lst (cutV xs lo hi)) (fun b ob q => Heap.get?_push_of_some _ q) (Nat.le_refl _) ?_, rfl, q _ (I.hok.fresh (Nat.le_refl _))⟩
  exact ⟨Nat.le_trans (cutV_length xs lo hi) hz, _, 0, (r.drop (HT.sIx xs.length 0 lo)).take (HT.sIx xs.length xs.length hi - HT.sIx xs.length 0 lo), Heap.get?_push_size _ rfl⟩
def flatV : V → Bool
  | .non => true
  | .bl _ => true
  | .int _ => true
  | .str _ => true
  | _ => false
def eqV : V → V → Bool
  | .non, .non => true
  | .bl a, .bl b => a == b
  | .bl a, .int b => (if a then 1 else 0) == b
  | .int a, .bl b => a == (if b then 1 else 0)
  | .int a, .int b => a == b
  | .str a, .str b => a == b
  | _, _ => false
theorem eqAt_V {A : Around} {s : Shared} {y x : V} {u v : Value} (ry : RelV y u) (rx : RelV x v) (fy : flatV y = true) (fx : flatV x = true) : SeqAt.EqAt A s u v (eqV y x) := by
  cases y with
  | non =>
    cases ry
    cases x with
    | non => cases rx; exact SeqAt.EqAt.same _
    | bl b => cases rx; exact SeqAt.EqAt.none_bool b
    | int b => obtain ⟨t, rfl⟩ := rx; exact SeqAt.EqAt.none_int b t
    | str b => obtain ⟨t, rfl⟩ := rx; exact SeqAt.EqAt.none_str b t
    | _ => exact absurd (show false = true from fx) Bool.false_ne_true
  | bl a =>
    cases ry
    cases x with
    | non => cases rx; exact SeqAt.EqAt.bool_none a
    | bl b => cases rx; exact SeqAt.EqAt.bool_bool a b
    | int b => obtain ⟨t, rfl⟩ := rx; exact SeqAt.EqAt.bool_int a b t
    | str b => obtain ⟨t, rfl⟩ := rx; exact SeqAt.EqAt.bool_str a b t
    | _ => exact absurd (show false = true from fx) Bool.false_ne_true
  | int a =>
    obtain ⟨t', rfl⟩ := ry
    cases x with
    | non => cases rx; exact SeqAt.EqAt.int_none a t'
    | bl b => cases rx; exact SeqAt.EqAt.int_bool a t' b
    | int b => obtain ⟨t, rfl⟩ := rx; exact SeqAt.EqAt.int_int a t' b t
    | str b => obtain ⟨t, rfl⟩ := rx; exact SeqAt.EqAt.int_str a t' b t
    | _ => exact absurd (show false = true from fx) Bool.false_ne_true
  | str a =>
    obtain ⟨t', rfl⟩ := ry
    cases x with
    | non => cases rx; exact SeqAt.EqAt.str_none a t'
    | bl b => cases rx; exact SeqAt.EqAt.str_bool a t' b
    | int b => obtain ⟨t, rfl⟩ := rx; exact SeqAt.EqAt.str_int a t' b t
    | str b => obtain ⟨t, rfl⟩ := rx; exact SeqAt.EqAt.str_str a t' b t
    | _ => exact absurd (show false = true from fx) Bool.false_ne_true
  | _ => exact absurd (show false = true from fy) Bool.false_ne_true
def eqU (x : V) (u : Value) : Bool := match u with
  | .none => eqV .non x
  | .bool b => eqV (.bl b) x
  | .int i _ => eqV (.int i) x
  | .str z _ => eqV (.str z) x
  | _ => false
theorem eqU_of {x y : V} {u : Value} (r : RelV y u) (f : flatV y = true) : eqU x u = eqV y x := by
  cases y with
  | non => cases r; rfl
  | bl b => cases r; rfl
  | int i => obtain ⟨t, rfl⟩ := r; rfl
  | str z => obtain ⟨t, rfl⟩ := r; rfl
  | _ => exact absurd (show false = true from f) Bool.false_ne_true
theorem any_eqU {x : V} : ∀ {xs : List V} {us : List Value}, Vals xs us → xs.all flatV = true → us.any (eqU x) = xs.any fun y => eqV y x
  | _, _, .nil, _ => rfl
  | y :: xs, u :: us, .cons r t, f => by
    rw [List.all_cons, Bool.and_eq_true] at f
    rw [List.any_cons, List.any_cons, eqU_of r f.1, any_eqU t f.2]
theorem mem_eqAt {A : Around} {s : Shared} {x : V} {v : Value} (rx : RelV x v) (fx : flatV x = true) : ∀ {xs : List V} {us : List Value}, Vals xs us → xs.all flatV = true → ∀ u ∈ us, SeqAt.EqAt A s u v (eqU x u)
  | _, _, .nil, _ => fun u hu => by cases hu
  | y :: xs, u :: us, .cons r t, f => fun u' hu => by
    rw [List.all_cons, Bool.and_eq_true] at f
    rcases List.mem_cons.mp hu with rfl | hu
    · rw [eqU_of r f.1]; exact eqAt_V r rx f.1 fx
    · exact mem_eqAt rx fx t f.2 u' hu
def inV (x : V) (xs : List V) : Bool := xs.any fun y => eqV y x
def rIn (K : PySem.W.Frag) (neg : Bool) : R2 := fun x y H Q => ∃ p xs, y = .ref p ∧ (SqL K H p xs ∨ SqT K H p xs) ∧ flatV x = true ∧ xs.all flatV = true ∧ Q (.bl (if neg then !inV x xs else inV x xs)) H
theorem op_in_seq : OpR X (compareOp .In) (rIn X.K false) := by
  intro pins s σ H x y v u Q I rx ry h
  obtain ⟨p, xs, rfl, hq, fx, fs, q⟩ := h
  cases ry
  rcases hq with hq | hq
  · obtain ⟨its, r, pl, hz⟩ := I.list hq
    refine SeqAt.in_listAt (eqU x) pl.isList (fun w hw => mem_eqAt rx fx r fs w (by simpa using hw)) ⟨.bl _, H, I, rfl, ?_⟩
    rw [show its.toArray.any (eqU x) = its.any (eqU x) by simp, any_eqU r fs]
    exact q
  · obtain ⟨its, r, pl, hz⟩ := I.tuple hq
    refine SeqAt.in_tupleAt (eqU x) pl (fun w hw => mem_eqAt rx fx r fs w (by simpa using hw)) ⟨.bl _, H, I, rfl, ?_⟩
    rw [show its.toArray.any (eqU x) = its.any (eqU x) by simp, any_eqU r fs]
    exact q
theorem op_notIn_seq : OpR X (compareOp .NotIn) (rIn X.K true) := by
  intro pins s σ H x y v u Q I rx ry h
  obtain ⟨p, xs, rfl, hq, fx, fs, q⟩ := h
  cases ry
  rcases hq with hq | hq
  · obtain ⟨its, r, pl, hz⟩ := I.list hq
    refine SeqAt.notIn_listAt (eqU x) pl.isList (fun w hw => mem_eqAt rx fx r fs w (by simpa using hw)) ⟨.bl _, H, I, rfl, ?_⟩
    rw [show its.toArray.any (eqU x) = its.any (eqU x) by simp, any_eqU r fs]
    exact q
  · obtain ⟨its, r, pl, hz⟩ := I.tuple hq
    refine SeqAt.notIn_tupleAt (eqU x) pl (fun w hw => mem_eqAt rx fx r fs w (by simpa using hw)) ⟨.bl _, H, I, rfl, ?_⟩
    rw [show its.toArray.any (eqU x) = its.any (eqU x) by simp, any_eqU r fs]
    exact q
theorem call_len_seq : CallR X (.builtin "len") (fun xs H Q => ∃ p ys, xs = [.ref p] ∧ (SqL X.K H p ys ∨ SqT X.K H p ys) ∧ Q (.int ys.length) H) := by
  intro pins s σ H xs us Q I r h
  obtain ⟨p, ys, rfl, hq, q⟩ := h
  obtain ⟨u, rfl, rx⟩ := vals1 r
  cases rx
  have hn := line63
  rcases hq with hq | hq
  · obtain ⟨its, r', pl, hz⟩ := I.list hq
    have hlen := r'.length
    exact Calls.call_len_list pl.isList (by simp only [List.size_toArray] <;> omega) ⟨.int ys.length, H, I.tok _, ⟨s.toks + 1, by rw [List.size_toArray, hlen]⟩, q⟩
  · obtain ⟨its, r', pl, hz⟩ := I.tuple hq
    have hlen := r'.length
    exact len_tuple pl (by simp only [List.size_toArray] <;> omega) ⟨.int ys.length, H, I.tok _, ⟨s.toks + 1, by rw [List.size_toArray, hlen]⟩, q⟩
theorem call_list_of : CallR X (.type "list") (fun xs H Q => ∃ p ys, xs = [.ref p] ∧ (SqL X.K H p ys ∨ SqT X.K H p ys) ∧ ∀ l, H l = none → Q (.ref l) (upd H l (.lst ys))) := by
  intro pins s σ H xs us Q I r h
  obtain ⟨p, ys, rfl, hq, q⟩ := h
  obtain ⟨u, rfl, rx⟩ := vals1 r
  cases rx
  have fin : ∀ (its : List Value), Vals ys its → ys.length ≤ sizeLine → ∀ (h' : Heap) (c' : Nat), (∀ b o', s.heap.get? b = some o' → h'.get? b = some o') →
      h'.get? s.heap.objs.size = some { cls := .type "list", dict := none, data := .seq its.toArray c', slots := #[] } → EP X pins σ Q (.ref s.heap.objs.size) { s with heap := h' } := fun its r' hz h' c' kp e =>
    ⟨.ref s.heap.objs.size, _, I.laid (t' := s.toks) kp (Nat.le_refl _) (show ObjOk X.prog X.w _ h' _ (.lst ys) from ⟨hz, its, c', r', e⟩), rfl, q _ (I.hok.fresh (Nat.le_refl _))⟩
  rcases hq with hq | hq
  · obtain ⟨its, r', pl, hz⟩ := I.list hq
    have hlen := r'.length
    obtain ⟨o, ho, hc, n, hd⟩ := pl.isList
    exact call_list_seq p (.inl rfl) ho hc hd (fun h' c' kp e => fin its r' hz h' c' kp e) (by simp only [List.size_toArray] <;> omega)
  · obtain ⟨its, r', pl, hz⟩ := I.tuple hq
    have hlen := r'.length
    obtain ⟨o, ho, hc, n, hd⟩ := pl
    exact call_list_seq p (.inr rfl) ho hc hd (fun h' c' kp e => fin its r' hz h' c' kp e) (by simp only [List.size_toArray] <;> omega)
def tyV (K : PySem.W.Frag) (T : String) (x : V) (H : Hp) : Prop := match x with
  | .str _ => T = "str"
  | .int _ => T = "int"
  | .ref p => (T = "list" ∧ ∃ xs, SqL K H p xs) ∨ (T = "tuple" ∧ ∃ o, K.lookup p = some o ∧ o.cls = .type "tuple" ∧ o.dict = none) ∨
      (T = "dict" ∧ ((∃ kvs, H p = some (.dK kvs)) ∨ ∃ kvs, H p = some (.dT kvs))) ∨ (T = "set" ∧ ∃ S n, H p = some (.set S n))
  | _ => False
theorem tyV_is {pins : List (Addr × Obj)} {σ : St} {H : Hp} {s : Shared} {T : String} {x : V} {v : Value} (I : Inv X pins σ H s) (r : RelV x v) (ty : tyV X.K T x H) :
    s.TypeIs v T ∧ ∀ a, v = .ref a → ∃ ob, s.heap.get? a = some ob ∧ ob.dict = none := by
  cases x with
  | str z =>
    obtain ⟨t, rfl⟩ := r
    cases (show T = "str" from ty)
    exact ⟨typeIs_str s z t, fun _ e => nomatch e⟩
  | int i =>
    obtain ⟨t, rfl⟩ := r
    cases (show T = "int" from ty)
    exact ⟨typeIs_int s i t, fun _ e => nomatch e⟩
  | ref p =>
    cases r
    rcases ty with ⟨rfl, xs, hq⟩ | ⟨rfl, o, hk, hc, hd⟩ | ⟨rfl, hk⟩ | ⟨rfl, S, n, hk⟩
    · obtain ⟨its, _, pl, _⟩ := I.list hq
      refine ⟨pl.isList.typeIs, fun a e => ?_⟩
      cases e
      obtain ⟨o, n, e, c, hd, _⟩ := pl
      exact ⟨o, e, hd⟩
    · refine ⟨⟨o, I.kIn p o hk, hc⟩, fun a e => ?_⟩
      cases e
      exact ⟨o, I.kIn _ o hk, hd⟩
    · have z : ∃ o, s.heap.get? p = some o ∧ o.ExactDict := by
        rcases hk with ⟨kvs, hk⟩ | ⟨kvs, hk⟩
        · obtain ⟨_, _, _, _, o, _, _, e, ex, _⟩ := I.hok p _ hk
          exact ⟨o, e, ex⟩
        · obtain ⟨_, _, _, _, o, _, _, e, ex, _⟩ := I.hok p _ hk
          exact ⟨o, e, ex⟩
      obtain ⟨o, e, ex⟩ := z
      refine ⟨⟨o, e, ex.1⟩, fun a e2 => ?_⟩
      cases e2
      exact ⟨o, e, ex.2.1⟩
    · obtain ⟨o, _, _, _, e, ex, _⟩ := I.hok p _ hk
      refine ⟨⟨o, e, ex.1⟩, fun a e2 => ?_⟩
      cases e2
      exact ⟨o, e, ex.2.1⟩
  | _ => exact False.elim ty
def tBM0 (K : PySem.W.Frag) (T : String) (r : V → List V → Hp → VK → Prop) (to : TE) : TE := fun σ H Q => to σ H fun x H1 => tyV K T x H1 ∧ r x [] H1 Q
def tBM (K : PySem.W.Frag) (T : String) (r : V → List V → Hp → VK → Prop) (to : TE) (t : TA) : TE := fun σ H Q => to σ H fun x H1 => tyV K T x H1 ∧ t σ H1 fun xs H2 => r x xs H2 Q
variable {o e : Expr} {es : List Expr} {to : TE} {t : TA} {name : Str} {apos cpos : Pos} {T id : String} {r : V → List V → Hp → VK → Prop}
theorem pe_bm0 (pa : PlainAttrs T) (slot : Slot T name id) (hty : typeOf (.builtin id) = pure (.type "method_descriptor")) (hm : MtR X id r) (ho : PE X o to)
    (hbase : attributeBase o name X.env (eval o X.env) = eval o X.env := by rfl) (hline : (apos.endLine == cpos.line) = true := by rfl) : PE X (.Call (.Attribute o name apos) [] [] cpos) (tBM0 X.K T r to) := by
  intro pins s σ H Q I h
  refine wpAny_Call_method0_late hbase hline (thn (ho pins s σ H _ I h) fun v s1 ⟨x, H1, I1, r1, ty, q1⟩ => ?_)
  obtain ⟨h1, h2⟩ := tyV_is I1 r1 ty
  exact ⟨T, id, pa, slot, hty, h1, h2, Calls.callWith_builtin rfl (PySem.evalArgs_none (hm pins s1 σ H1 x [] v [] Q I1 r1 .nil q1))⟩
theorem pe_bm (pa : PlainAttrs T) (slot : Slot T name id) (hty : typeOf (.builtin id) = pure (.type "method_descriptor")) (hm : MtR X id r) (ho : PE X o to) (ha : PA X (e :: es) t)
    (hbase : attributeBase o name X.env (eval o X.env) = eval o X.env := by rfl)
    (hfew : ((backTo cpos (starEach (e :: es) X.env)).all (fun x => !x.1) && (backToKw cpos (keywordEach [] X.env)).all (fun x => x.1.isSome)
      && decide ((e :: es).length + ([] : List Keyword).length + (if ([] : List Keyword).isEmpty then 0 else 1) < 30)) = true := by rfl)
    (hline : (apos.endLine == cpos.line) = true := by rfl) (hs : starEach (e :: es) X.env = (false, eval e X.env) :: starEach es X.env := by rfl) (hplain : (backTo cpos (starEach es X.env)).any (·.1) = false := by rfl) :
    PE X (.Call (.Attribute o name apos) (e :: es) [] cpos) (tBM X.K T r to t) := by
  intro pins s σ H Q I h
  refine wpAny_Call_method_late hbase hfew hline rfl (thn (ho pins s σ H _ I h) fun v s1 ⟨x, H1, I1, r1, ty, q1⟩ => ?_)
  obtain ⟨h1, h2⟩ := tyV_is I1 r1 ty
  refine ⟨T, id, pa, slot, hty, h1, h2, ?_⟩
  have hA := ha cpos pins s1 σ H1 _ I1 q1
  rw [hs] at hA ⊢
  refine Calls.callWith_builtin (by show (false || (backTo cpos (starEach es X.env)).any (·.1)) = false; rw [hplain] <;> rfl) (Calls.evalArgs_plain ?_)
  exact thn hA fun us s2 ⟨vs, H2, I2, r2, q2⟩ => hm pins s2 σ H2 x vs v us Q I2 r1 r2 q2
/- xs.append(e), list.index on a module's tuple .. are MtR facts of 06m -/
end
end L2
namespace L2
open PySem PySem.Spec PyProof.Rows
def MtM (X : Cx) (id : String) (r : V → List V → Hp → VK → Prop) : Prop :=
  ∀ (pins : List (Addr × Obj)) (s : Shared) (σ : St) (H : Hp) (x : V) (xs : List V) (v : Value) (us : List Value) (Q : VK), Inv X pins σ H s → RelV x v → Vals xs us → r x xs H Q →
    wpAny (model X.prog X.w) X.A (call (.builtin id) (v :: us)) (EP X pins σ Q) X.xe s
theorem Vals.one : ∀ {x : V} {us : List Value}, Vals [x] us → ∃ u, us = [u] ∧ RelV x u
  | _, _, .cons r .nil => ⟨_, rfl, r⟩
theorem Vals.zero : ∀ {us : List Value}, Vals [] us → us = []
  | _, .nil => rfl
section
variable {X : Cx} {pins : List (Addr × Obj)} {σ : St} {H : Hp} {s : Shared} {l b : Addr} {xs ys zs : List V}
theorem Inv.lset {its its' : List Value} {n : Nat} {f : Array Value → Array Value} {t' : Nat} (I : Inv X pins σ H s) (hH : H l = some (.lst xs))
    (e : s.heap.get? l = some { cls := .type "list", data := .seq its.toArray n }) (hf : f its.toArray = its'.toArray) (hv : Vals ys its') (hz : ys.length ≤ sizeLine) :
    Inv X pins σ (upd H l (.lst ys)) { s with heap := s.heap.update l (Obj.mapSeq f), toks := t' } := by
  have q := PySem.IsL.update e f
  rw [hf] at q
  refine I.write (x := l) (e := l) (by rw [hH]; exact trivial) (.inl rfl) (fun b' u hb hu => (Heap.get?_update_other s.heap (Obj.mapSeq f) (Ne.symm hb)).trans hu) ⟨_, q⟩ ?_
  exact ⟨hz, its', _, hv, q⟩
theorem Inv.lnew {its : List Value} {t' : Nat} (I : Inv X pins σ H s) (hv : Vals ys its) (hz : ys.length ≤ sizeLine) :
    Inv X pins σ (upd H s.heap.objs.size (.lst ys)) { s with heap := s.heap.push { cls := .type "list", data := .seq its.toArray }, toks := t' } :=
  I.laid (fun _ _ q => Heap.get?_push_of_some _ q) (Nat.le_refl _) ⟨hz, its, 0, hv, Heap.get?_push_size _ rfl⟩
theorem Inv.fresh (I : Inv X pins σ H s) : H s.heap.objs.size = none := I.hok.fresh (Nat.le_refl _)
theorem Inv.lstM (I : Inv X pins σ H s) (hH : H l = some (.lst xs)) : xs.length ≤ sizeLine ∧ ∃ (its : List Value) (n : Nat), Vals xs its ∧ xs.length = its.length ∧ s.heap.get? l = some { cls := .type "list", data := .seq its.toArray n } := by
  obtain ⟨z, its, n, r, e⟩ := I.hok l _ hH
  exact ⟨z, its, n, r, r.length, e⟩
end
section
variable {X : Cx}
def rAppend : V → List V → Hp → VK → Prop := fun x vs H Q => ∃ l xs y, x = .ref l ∧ vs = [y] ∧ H l = some (.lst xs) ∧ xs.length < sizeLine ∧ Q .non (upd H l (.lst (xs ++ [y])))
theorem mt_append : MtM X "list.append" rAppend := by
  intro pins s σ H x vs v us Q I rx rv h
  obtain ⟨l, xs, y, rfl, rfl, hH, hz, q⟩ := h
  cases rx
  obtain ⟨u, rfl, ru⟩ := rv.one
  obtain ⟨z, its, n, r, hl, e⟩ := I.lstM hH
  refine call_meets F.slot_list_append ⟨_, e, rfl⟩ F.entry_list_append (F.args_list_append_2 _ _) (PySem.list_append l its.toArray n u (by rw [List.size_toArray]; omega)) ⟨e, ?_⟩
  refine ⟨.non, _, I.lset (its' := its ++ [u]) hH e (by simp) (r.append (.cons ru .nil)) ?_, rfl, q⟩
  rw [List.length_append, List.length_singleton]
  omega
def rCat : R2 := fun x y H Q => ∃ l b xs zs, x = .ref l ∧ y = .ref b ∧ H l = some (.lst xs) ∧ H b = some (.lst zs) ∧ xs.length + zs.length ≤ sizeLine ∧ ∀ p, H p = none → Q (.ref p) (upd H p (.lst (xs ++ zs)))
theorem op_cat : OpR X (binaryOp .Add) rCat := by
  intro pins s σ H x y v u Q I rx ry h
  obtain ⟨l, b, xs, zs, rfl, rfl, hH, hB, hz, q⟩ := h
  cases rx
  cases ry
  obtain ⟨z, its, n, r, hl, e⟩ := I.lstM hH
  obtain ⟨z2, its2, n2, r2, hl2, e2⟩ := I.lstM hB
  refine PySem.P.add_list e e2 ?_ (by rw [List.size_toArray, List.size_toArray]; omega)
  have ea : its.toArray ++ its2.toArray = (its ++ its2).toArray := by simp
  rw [ea]
  exact ⟨.ref _, _, I.lnew (t' := s.toks) (r.append r2) (by rw [List.length_append]; omega), rfl, q _ I.fresh⟩
end
section
variable {prog : Program} {w : World} {A : Around} {E : Value → Shared → Prop} {s : Shared}
end
section
variable {X : Cx}
end
end L2
namespace L2
open PySem PySem.Spec PyProof.Rows
section
variable {κ : Type} [DecidableEq κ]
def valV (kvs : List (κ × V)) (k : κ) : Option V := (kvs.find? fun kv => decide (kv.1 = k)).map (·.2)
theorem valV_pos {p : κ × V} {r : List (κ × V)} {k : κ} (e : p.1 = k) : valV (p :: r) k = some p.2 := by simp [valV, List.find?_cons, e]
theorem valV_neg {p : κ × V} {r : List (κ × V)} {k : κ} (e : ¬ p.1 = k) : valV (p :: r) k = valV r k := by simp [valV, List.find?_cons, e]
end
theorem kV_inj {a b : Key} (e : kV a = kV b) : a = b := by
  cases a with
  | inl i => cases b with
    | inl j => have e' : V.int i = V.int j := e; injection e' with e'; rw [e']
    | inr y => exact nomatch (show V.int i = V.str y from e)
  | inr x => cases b with
    | inl j => exact nomatch (show V.str x = V.int j from e)
    | inr y => have e' : V.str x = V.str y := e; injection e' with e'; rw [e']
section
variable {P : Program} {w : World} {H : Hp} {h : Heap} {a : Addr}
end
section
variable {X : Cx} {pins : List (Addr × Obj)} {σ : St} {H : Hp} {s : Shared} {a : Addr} {y v : V} {u r : Value} {o : Option V} {A : Around} {E : Value → Shared → Prop}
end
section
variable {X : Cx} {pins : List (Addr × Obj)} {σ : St} {H : Hp} {s : Shared} {a : Addr} {kvs : List (Key × V)} {k : Key} {u : Value} {A : Around} {E : Value → Shared → Prop}
end
section
variable {X : Cx} {o i e value : Expr} {pos pos' tpos : Pos} {td ty tv : TE}
end
section
variable {X : Cx} {pos : Pos}
end
section
variable {X : Cx} {pins : List (Addr × Obj)} {σ : St} {H : Hp} {s : Shared} {a : Addr} {y d : V} {u r : Value} {o : Option V} {A : Around} {E : Value → Shared → Prop}
end
section
variable {X : Cx} {o e f : Expr} {apos cpos : Pos} {td ty tx : TE}
end
section
variable {X : Cx} {pins : List (Addr × Obj)} {σ : St} {H : Hp} {s : Shared} {a : Addr} {kvs : List (Key × V)} {A : Around} {E : Value → Shared → Prop}
end
section
variable {X : Cx} {pins : List (Addr × Obj)} {σ : St} {H : Hp} {s : Shared} {a : Addr} {y : V} {u : Value} {A : Around} {E : Value → Shared → Prop}
end
end L2
namespace Att
open PySem PySem.W PySem.Calls PyProof.Rows
theorem ints_of_wellAll {P : Params} {h : Heap} : ∀ (ns : List Int) (vs : List Value), WellAll P h vs (ns.map WData.int) → IntsAre vs ns := by
  intro ns
  induction ns with
  | nil =>
    intro vs w
    rw [List.map_nil] at w
    cases w
    exact .nil
  | cons n ns ih =>
    intro vs w
    rw [List.map_cons] at w
    cases w with
    | cons a b =>
      cases a
      exact .cons _ _ (ih _ b)
theorem script_of {l : OpenLaw} {n : Nat} (hn : l.most = some n) {P : Params} {h : Heap} {args : List WData} {vals : List Value}
    (hpre : l.row.toRowW.claim.pre args = true) (hwl : WellAll P h vals args) :
    ∃ a vs ns, vals = [Value.ref a] ∧ args = [WData.list (ns.map WData.int)] ∧ h.get? a = some { cls := .type "list", data := .seq vs.toArray } ∧ IntsAre vs ns ∧ ns.length ≤ n := by
  have hsh : WShape.hasAll [] args [.list .int] = true := (pre_splitW hpre).1
  have hc : l.pre.holds [] { args := args } = true := (pre_splitW hpre).2
  obtain ⟨d, r, rfl, h1, h2⟩ := hasAllW_cons hsh
  obtain rfl := hasAllW_nil h2
  obtain ⟨xs, rfl, h3⟩ := hasW_list h1
  obtain ⟨ns, rfl⟩ := items_int h3
  have hlen : ns.length ≤ n := by
    unfold OpenLaw.pre at hc
    have h4 : (WTm.not (.lt (.lit (.int (n : Int))) (.len (.arg 0)))).holds [] { args := [.list (ns.map .int)] } = true := by
      have h4 := (holds_andW hc).1
      rw [hn] at h4
      exact h4
    have h5 := condW_of h4 (w_not (w_lt w_lit (w_len_list (w_arg rfl))))
    rw [List.length_map] at h5
    refine Nat.le_of_not_lt fun q => ?_
    have q' : (n : Int) < ((ns.length : Nat) : Int) := by omega
    first
      | (rw [decide_eq_true q'] at h5; exact absurd h5 (by decide))
      | (simp at h5; omega)
  cases hwl with
  | cons w1 w2 =>
    cases w2
    cases w1 with
    | list ho hall => exact ⟨_, _, ns, rfl, rfl, ho, ints_of_wellAll ns _ hall, hlen⟩
theorem post_true (l : OpenLaw) (args : List WData) : l.row.toRowW.claim.post args (.bool true) args = true :=
  postW_of (r := l.row.toRowW) (X := (true == true))
    (show WShape.has [] (.bool true) .bool = true by first | rfl | decide | simp [WShape.has, WShape.arms, WShape.armsAll])
    (show (WTm.eq .res (.lit (.bool true))).value [] { args := args, res := some (.bool true), after := args } = some (.bool (true == true)) from w_eq_bool (w_res rfl) w_lit) rfl
theorem attach_call {l : OpenLaw} {n : Nat} {q : Program} {loose : List Str} {XP : (Str → Option Value) → Heap → Prop} {YP : World → Heap → Prop} {d : DefRec}
    (hn : l.most = some n) (hdf : d.params.defaults = [])
    (call : ∀ (w : World) (s₀ s₁ : Shared) (mg mb : Str → Option Value) (fa : Addr) (o : Obj) (pm cd doc : Value) (a : Addr) (vs : List Value) (ns : List Int),
      Ground q loose [] XP w s₀ mg mb s₁.heap → YP w s₁.heap →
      s₁.heap.get? fa = some o → o.data = .func (docDef d.name d.params d.body d.scope pm cd doc) → s₁.heap.CodeRec cd d.name → mg d.name = some (.ref fa) →
      s₁.heap.get? a = some { cls := .type "list", data := .seq vs.toArray } → IntsAre vs ns → ns.length ≤ n → s₁.gens = #[] →
      codeAny (model l.prog w) callerA (.call (.ref fa) ⟨[.ref a], []⟩) (fun r s' => r = .ok (.ret (.bool true)) ∧ OldK s₁.heap s'.heap ∧ s'.os = s₁.os ∧ AllBare s'.gens) s₁) :
    WalkO q loose XP YP l.row.toRowW d [] (fun f vs => PySem.call f vs) := by
  intro w s₀ s₁ mg mb G Y fa o pm cd doc dV kV ho hd hcd hD hmg hg args vals as hpre hlay hrd hwl hlo
  obtain rfl : dV = .none := Dflts.none hD hdf
  obtain rfl : kV = .none := Dflts.noKw hD
  obtain ⟨a, vs, ns, rfl, rfl, hobj, hints, hlen⟩ := script_of hn hpre hwl
  refine enter_call (codeAny_mono (call w s₀ s₁ mg mb fa o pm cd doc a vs ns G Y ho (fd_plain hd) hcd hmg hobj hints hlen hg) fun r s' hq => ?_)
  obtain ⟨rfl, h2, h3, h4⟩ := hq
  exact ⟨.inl ⟨.bool true, .bool true, [], rfl, fun _ => rfl, .bool true, post_true l _, fun _ => ⟨List.Pairwise.nil, fun _ hm => (nomatch hm)⟩⟩, h2, h3, h4⟩
section
variable {prog : Program} {w : World} {A : Around} {E : Value → Shared → Prop} {s : Shared} {K : Frag}
def ledger (h : Heap) (L d : Addr) : List (Addr × Obj) := (List.range h.objs.size).filterMap fun a => if a = L ∨ a = d then none else (h.get? a).map fun o => (a, o)
end
end Att
namespace L2
open PySem PySem.Spec PyProof.Rows
theorem vals_ints : ∀ {vs : List Value} {ns : List Int}, IntsAre vs ns → Vals (ns.map V.int) vs
  | _, _, .nil => .nil
  | _, _, .cons n t h => .cons ⟨t, rfl⟩ (vals_ints h)
end L2
namespace L2
open PySem PySem.Spec PyProof.Rows
abbrev KOf {K : PySem.W.Frag} {h : Heap} (_ : K.In h) : PySem.W.Frag := K
end L2
/- THE LAST THEOREM (shape; LID, My.* are yours):
   My.Adr: a structure of the addresses that your layer names (classes, functions); My.Txt K t: a structure (Prop) of the equations over K;
   My.txt_mk : {K} {implicit addresses ..} (e1 : nsIn K mainGlobals "law" = some (some (.ref f))) (e2 : K.lookup f = some ⟨oc, od, .func (fnOf "law" "law" params body scope dV kV doc pm an cdv ct), sl⟩) (e3 : codeIn K cdv "law" = true) .. : ∃ t, My.Txt K t
set_option maxRecDepth 100000 in
set_option maxHeartbeats 0 in
theorem PySem.Challenge.cw_LID_holds : PySem.Challenge.rw_LID.Holds := by
  w_on; o_law; k_head; (case hw => w_witness2)
  k_fill
  refine L2.walk_of (l := PySem.Challenge.rw_LID) (n := 63) (k := 40) (x := "script") (CX := fun w => ..) (sp := fun _ => My.sp_law) rfl (by decide) rfl ⟨rfl, by decide, by decide⟩ (fun w h Y => PySem.W.kIn_of Y) ?F ?S ?C
  case F =>
    intro w mg fa h KX G hmg
    have T : ∃ t, My.Txt (L2.KOf KX) t := by
      dsimp only [L2.KOf]                          -- K must stand as «<heap const> w.params» for k_is
      refine' My.txt_mk ?e1 ?e2 ?e3 ..
      (case e1 => PySem.W.k_is)                    -- in the order: a name -> its address -> its object -> its parts
      (case e2 => PySem.W.k_is)
      ..
    obtain ⟨t, T⟩ := T
    have e0 := hmg.symm.trans (PySem.W.mg_of KX G T.law)
    cases e0                                       -- fa is the law's own address
    exact ⟨_, fun s u => .of_eq rfl, fun base kb nb => My.law_fn T kb nb⟩     -- if «.of_eq rfl» comes too early: refine' ⟨_, ?b, fun base kb nb => My.law_fn T kb nb⟩; exact fun s u => .of_eq rfl
  case S => exact fun w H a ns hl hO hS => ..
  case C => exact ..
(the tactic k_is has no namespace: write k_is) -/
namespace L2
open PySem PySem.Spec PyProof.Rows
def inClass (s : Stmt) (j : Nat) : Stmt := match s with
  | .ClassDef _ _ _ body _ _ _ _ _ _ _ => body.getD j (.Pass ⟨0, 0, 0, 0⟩)
  | _ => .Pass ⟨0, 0, 0, 0⟩
def defArgs (s : Stmt) : Arguments := match s with
  | .FunctionDef _ a _ _ _ _ _ _ _ _ => a
  | _ => { posonlyargs := [], args := [], vararg := none, kwonlyargs := [], kw_defaults := [], kwarg := none, defaults := [] }
def defBody (s : Stmt) : List Stmt := match s with
  | .FunctionDef _ _ b _ _ _ _ _ _ _ => b
  | _ => []
def defScope (s : Stmt) : Scope := match s with
  | .FunctionDef _ _ _ _ _ _ sc _ _ _ => sc
  | _ => { kind := .function, names := [], isGenerator := false, isCoroutine := false }
abbrev CX0 : CXT := fun _ _ _ _ _ _ => False
abbrev E0 : XK := fun _ _ _ => False
theorem pass0 {X : Cx} : Passes CX0 X E0 := fun _ _ _ _ _ _ _ h => h.elim
structure Fun (K : PySem.W.Frag) (x qual : Str) (st : Stmt) (f : Addr) (fd : FuncData) : Prop where
  ex : ∃ (oc : Value) (od : Option Addr) (kV doc pm : Value) (an : Option Addr) (cdv ct : Value) (osl : Array (Option Value)),
    fd = PySem.W.fnOf x qual (defArgs st) (defBody st) (defScope st) .none kV doc pm an cdv ct ∧ K.lookup f = some ⟨oc, od, .func fd, osl⟩ ∧ PySem.W.codeIn K cdv qual = true
  kp : PySem.W.keepIn K (.ref f) = true
section
variable {P : Program} {w : World} {K : PySem.W.Frag} {mg : Str → Option Value} {base : Heap}
theorem Fun.ok {x qual : Str} {st : Stmt} {f : Addr} {fd : FuncData} {N ps : List Str} {k : Nat} {sp : Sp} (F : Fun K x qual st f fd) (S : FnScope N ps (defScope st)) (len : ∀ vs H Q E, sp vs H Q E → vs.length = ps.length)
    (hbody : ∀ (cdv : Value) (A : Around) (outer : List Env) (s : Shared) (H : Hp) (vs : List V) (Q : VK) (E : XK), Room k (A.deeper (envOfC qual (defScope st) s.heap.objs.size f cdv)) → sp vs H Q E →
      ∃ t, PSs (cxOf CX0 P w K mg base N qual (defScope st) f cdv A outer s H E).nox (defBody st) t ∧ t { nx := fun _ H' => Q .non H', rt := Q } (start N vs) H) : FnOk P w K mg base CX0 (k + 1) f fd ps sp := by
  obtain ⟨oc, od, kV, doc, pm, an, cdv, ct, osl, rfl, lk, hcd⟩ := F.ex
  refine fn_of lk hcd S len fun A outer s H vs Q E hr hsp => ?_
  obtain ⟨t, h, q⟩ := hbody cdv A outer s H vs Q E hr hsp
  exact ⟨t, h.nox, q⟩
theorem Fun.binds {x qual : Str} {st : Stmt} {f : Addr} {fd : FuncData} {ps : List Str} (F : Fun K x qual st f fd)
    (h : ∀ (kV doc pm : Value) (an : Option Addr) (cdv ct : Value) (us : List Value), us.length = ps.length → bindArgs (PySem.W.fnOf x qual (defArgs st) (defBody st) (defScope st) .none kV doc pm an cdv ct) ⟨us, []⟩ = pure (ps.zip us)) : Binds K fd ps [] := by
  obtain ⟨oc, od, kV, doc, pm, an, cdv, ct, osl, rfl, lk, hcd⟩ := F.ex
  exact .all (h kV doc pm an cdv ct)
theorem fun_mk {x qual : Str} {st : Stmt} {f : Addr} {oc : Value} {od an : Option Addr} {osl : Array (Option Value)} {kV doc pm cdv ct : Value} (l : K.lookup f = some ⟨oc, od, .func (PySem.W.fnOf x qual (defArgs st) (defBody st) (defScope st) .none kV doc pm an cdv ct), osl⟩)
    (c : PySem.W.codeIn K cdv qual = true) (k : PySem.W.keepIn K (.ref f) = true) : Fun K x qual st f (PySem.W.fnOf x qual (defArgs st) (defBody st) (defScope st) .none kV doc pm an cdv ct) := ⟨⟨oc, od, kV, doc, pm, an, cdv, ct, osl, rfl, l, c⟩, k⟩
end
section
variable {X : Cx}
theorem pv (i : Nat) {x : Str} {pos : Pos} (hN : X.N[i]? = some x := by rfl) (hv : Vis X.env.scope x := by first | exact Or.inl rfl | exact Or.inr (Or.inl rfl) | exact Or.inr (Or.inr rfl)) (hd : (x == ("__debug__" : Str)) = false := by decide)
    (hcd : (x == ("__classdict__" : Str)) = false := by decide) : PE X (.Name x pos) (tVar i) := pe_var hN hv hd hcd
end
theorem iteF {A B : Prop} (h : B) : if false = true then A else B := by
  rw [if_neg Bool.false_ne_true]
  exact h
theorem iteT {A B : Prop} (h : A) : if true = true then A else B := by
  rw [if_pos rfl]
  exact h
theorem ite2 {c A B : Prop} [Decidable c] (h1 : c → A) (h2 : ¬ c → B) : if c then A else B := by
  by_cases h : c
  · rw [if_pos h]
    exact h1 h
  · rw [if_neg h]
    exact h2 h
section
variable {κ : Type} [DecidableEq κ]
end
end L2
namespace Gb
def spl (n : Nat) : Nat := 2 ^ Nat.log2 (n - 1)
theorem spl_pos (n : Nat) : 1 ≤ spl n := Nat.one_le_two_pow
theorem spl_lt {n : Nat} (h : 2 ≤ n) : spl n < n := by
  have := Nat.log2_self_le (n := n - 1) (by omega)
  unfold spl; omega
theorem spl_ge {n : Nat} (h : 2 ≤ n) : n ≤ 2 * spl n := by
  have := Nat.lt_log2_self (n := n - 1)
  unfold spl
  rw [Nat.pow_succ] at this
  omega
theorem spl_unique {n j : Nat} (h1 : 2 ^ j < n) (h2 : n ≤ 2 * 2 ^ j) : 2 ^ j = spl n := by
  unfold spl
  have hp : 1 ≤ 2 ^ j := Nat.one_le_two_pow
  have e : Nat.log2 (n - 1) = j := (Nat.log2_eq_iff (by omega)).mpr ⟨by omega, by rw [Nat.pow_succ]; omega⟩
  rw [e]
section
variable {α : Type} (nl : α) (pr : α → α → α)
end
end Gb
namespace Gb
section
variable {α : Type} (nl : α) (pr : α → α → α)
def hp (n : Nat) : Nat := 2 ^ Nat.log2 n
def fr : List α → α
  | [] => nl
  | [x] => x
  | x :: y :: r => pr x (fr (y :: r))
end
end Gb
namespace L2
open PySem PySem.Spec PyProof.Rows
def CallOk (P : Program) (w : World) (K : PySem.W.Frag) (mg : Str → Option Value) (base : Heap) (CX : CXT) (k : Nat) (sp : Addr → Sp) : Prop :=
  ∀ (f : Addr) (A : Around) (outer : List Env) (s : Shared) (H : Hp) (us : List Value) (vs : List V) (Q : VK) (E : XK), Room k A → Env0 P w K mg base A outer s H → Vals vs us → sp f vs H Q E →
    codeAny (model P w) A (.call (.ref f) ⟨us, []⟩) (CR CX outer P w H s Q E) s
theorem FnOk.called {P : Program} {w : World} {K : PySem.W.Frag} {mg : Str → Option Value} {base : Heap} {CX : CXT} {k : Nat} {f : Addr} {fd : FuncData} {ps : List Str} {sp : Sp} (F : FnOk P w K mg base CX k f fd ps sp) (hb : Binds K fd ps [])
    {A : Around} {outer : List Env} {s : Shared} {H : Hp} {us : List Value} {vs : List V} {Q : VK} {E : XK} (hr : Room k A) (e0 : Env0 P w K mg base A outer s H) (r : Vals vs us) (h : sp vs H Q E) :
    codeAny (model P w) A (.call (.ref f) ⟨us, []⟩) (CR CX outer P w H s Q E) s := by
  have KX : K.In s.heap := e0.mod.kin.keeps fun b o e => (e0.bs b o e).1
  have hl : (us ++ []).length = ps.length := by rw [List.append_nil, ← r.length]; exact F.len _ _ _ _ h
  have b := hb s us KX hl
  rw [List.append_nil] at b
  exact F.run A outer s H ⟨us, []⟩ us vs Q E hr e0 b r h
def Fny (K : PySem.W.Frag) (H : Hp) (f : Addr) : Prop :=
  (∃ oc od fd sl, K.lookup f = some ⟨oc, od, .func fd, sl⟩) ∨ ∃ oc od fd sl u, H f = some (.frz ⟨oc, od, .func fd, sl⟩ u)
section
variable {X : Cx} {CX : CXT} {k : Nat} {f : Addr} {sp : Addr → Sp} {E : XK} {x : Str} {p pos : Pos} {e : Expr} {es : List Expr} {t : TA} {i : Nat}
theorem Inv.fnAt {pins : List (Addr × Obj)} {σ : St} {H : Hp} {s : Shared} (I : Inv X pins σ H s) (h : Fny X.K H f) : PySem.W.FnAt f s.heap := by
  rcases h with ⟨oc, od, fd, sl, e⟩ | ⟨oc, od, fd, sl, u, e⟩
  · exact ⟨oc, od, fd, sl, I.kIn _ _ e⟩
  · exact ⟨oc, od, fd, sl, (I.hok _ _ e).1⟩
theorem run_fnV {pins : List (Addr × Obj)} {σ : St} {H : Hp} {s : Shared} {Q : VK} {us : List Value} {vs : List V} (F : CallOk X.prog X.w X.K X.mg X.base CX k sp) (hr : Room k X.A) (hx : Passes CX X E)
    (I : Inv X pins σ H s) (r : Vals vs us) (h : sp f vs H Q E) : wpAny (model X.prog X.w) X.A (call (.ref f) us) (EP X pins σ Q) X.xe s := by
  refine wpAny_call (codeAny_mono (F f X.A X.stack s H us vs Q E hr I.env0 r h) fun r s' hq => ?_)
  cases r with
  | error e => exact hx pins σ H s e s' I hq
  | ok fl =>
    cases fl with
    | ret u => exact I.after hq
    | next => exact False.elim hq
    | brk => exact False.elim hq
    | cont => exact False.elim hq
def tCallV (K : PySem.W.Frag) (i : Nat) (sp : Addr → Sp) (E : XK) (t : TA) : TE := fun σ H Q => ∃ f, σ[i]? = some (some (.ref f)) ∧ Fny K H f ∧ t σ H fun vs H1 => Fny K H1 f ∧ sp f vs H1 Q E
theorem pe_callV (F : CallOk X.prog X.w X.K X.mg X.base CX k sp) (hr : Room k X.A) (hx : Passes CX X E) (hN : X.N[i]? = some x) (hv : Vis X.env.scope x) (ha : PA X (e :: es) t)
    (hdb : (x == ("__debug__" : Str)) = false := by decide) (hcd : (x == ("__classdict__" : Str)) = false := by decide)
    (he : starEach (e :: es) X.env = (false, eval e X.env) :: starEach es X.env := by rfl) (hpl : (backTo pos (starEach es X.env)).any (·.1) = false := by rfl) :
    PE X (.Call (.Name x p) (e :: es) [] pos) (tCallV X.K i sp E t) := by
  intro pins s σ H Q I h
  obtain ⟨f, ef, hf, h⟩ := h
  refine wpAny_Call_Name_kw (thn (pe_var (i := i) hN hv hdb hcd pins s σ H (fun v H' => v = .ref f ∧ H' = H) I ⟨_, ef, rfl, rfl⟩) fun u s1 ⟨v, H1, I1, r1, e1, e2⟩ => ?_)
  subst e1 e2
  obtain rfl : u = Value.ref f := r1
  refine PySem.W.callWith_F (first := []) (I1.fnAt hf) (thn (ha pos pins s1 σ H1 _ I1 h) fun us s2 ⟨vs, H2, I2, r, hf2, q⟩ => ⟨I2.fnAt hf2, ?_⟩) he hpl
  exact run_fnV F hr hx I2 r q
end
section
variable {X : Cx}
theorem mt_bitlen : MtR X "int.bit_length" (fun x vs H Q => ∃ i, x = .int i ∧ vs = [] ∧ Q (.int (Builtin.Int.intBits i : Nat)) H) := by
  intro pins s σ H x vs v us Q I rx rv h
  obtain ⟨i, rfl, rfl, q⟩ := h
  obtain ⟨t, rfl⟩ := rx
  cases rv.zero
  exact call_int_bit_length ⟨.int _, H, I.tok _, ⟨_, rfl⟩, q⟩
theorem call_isinst : CallR X (.builtin "isinstance") (fun xs H Q => ∃ x t c b, xs = [x, .ty c] ∧ TyOf X.K H x t ∧ PySem.W.kitOne X.K t (.type c) = some b ∧ Q (.bl b) H) := by
  intro pins s σ H xs us Q I r h
  obtain ⟨x, t, c, b, rfl, ty, e, q⟩ := h
  obtain ⟨u, w', rfl, rx, rc⟩ := vals2 r
  obtain rfl : w' = Value.type c := rc
  exact isinst_ok I rx ty e fun tk => ⟨.bl b, H, I.tok tk, rfl, q⟩
def Scr (K : PySem.W.Frag) (H : Hp) (a : Addr) (xs : List V) : Prop :=
  ∃ (its : List Value) (n : Nat), Vals xs its ∧ xs.length ≤ sizeLine ∧ ((∃ u, H a = some (.frz { cls := .type "list", data := .seq its.toArray n } u)) ∨ K.lookup a = some { cls := .type "list", data := .seq its.toArray n })
end
end L2
namespace L2
open PySem PySem.Spec PyProof.Rows
theorem eqV_self {x : V} (h : flatV x = true) : eqV x x = true := by
  cases x <;> first | rfl | exact beq_self_eq_true _ | cases h
theorem all_true (n : Nat) : (List.range n).all (fun _ => true) = true := by simp
theorem Vals.at {xs : List V} {its : List Value} (r : Vals xs its) {j : Nat} (h : j < its.toArray.size) : ∃ x, xs[j]? = some x ∧ RelV x its.toArray[j] := by
  have hl := r.length
  have hj : j < xs.length := by simp at h; omega
  obtain ⟨u, hu, ru⟩ := r.get (i := j) (x := xs[j]) (by simp [hj])
  refine ⟨xs[j], by simp [hj], ?_⟩
  have : its.toArray[j] = u := by
    have h2 : j < its.length := by simpa using h
    rw [List.getElem_toArray]
    rw [List.getElem?_eq_getElem h2] at hu
    exact Option.some.inj hu
  rw [this]; exact ru
section
variable {X : Cx}
end
end L2
namespace L2
open PySem PySem.Spec PyProof.Rows
section
variable {P : Program} {w : World} {K : PySem.W.Frag} {mg : Str → Option Value} {base : Heap}
end
theorem HOk.track {P : Program} {w : World} {H : Hp} {h : Heap} {a : Addr} {o : Obj} (x : HOk P w H h) (ho : h.get? a = some o) (hn : H a = none) : HOk P w (upd H a (.frz o (.own 0))) h := fun b u e => by
  by_cases hb : b = a
  · subst hb; rw [upd_same] at e; cases e; exact ⟨ho, o, ho⟩
  · rw [upd_ne hb] at e
    exact (x b u e).stay (fun c v _ q => q) (fun c q => by rw [upd_ne (ne_of_none q hn)]; exact q) fun c xs q => by rw [upd_ne (ne_of_none q hn)]; exact q
section
variable {X : Cx} {name : Str} {params : Arguments} {body : List Stmt} {scope : Scope} {pos : Pos} {i : Nat} {Pt c0 : Addr} {clos : List (Str × Addr)}
end
end L2
namespace L2
open PySem PySem.Spec PyProof.Rows
def cxComp (X : Cx) (s₂ : Shared) (H₂ : Hp) (fp : List Addr) (sc : Scope) (cl : List (Str × Addr)) (N' : List Str) : Cx :=
  { X with N := N', s₀ := s₂, H₀ := H₂, env := compEnvC sc cl s₂.heap.objs.size X.env, outer := X.stack, stack := X.stack, ex := fp, fn := fun _ => false, pn := [], xe := fun _ _ => False }
def PTs (X : Cx) (ifs : List Expr) (tt : TT) : Prop :=
  ∀ (pins : List (Addr × Obj)) (s : Shared) (σ : St) (H : Hp) (Q : Bool → Hp → Prop) (E : Value → Shared → Prop), X.xe = (fun _ _ => False) → Inv X pins σ H s → tt σ H Q →
    wpAny (model X.prog X.w) X.A (forIn ifs true fun c r => if r = true then do let ok ← isTrue c X.env (eval c X.env); pure (ForInStep.yield ok) else pure (ForInStep.yield r)) (TP X pins σ Q) E s
theorem pts_nil {X : Cx} : PTs X [] (fun _ H Q => Q true H) := fun pins s σ H Q E _ I h => wpAny_tests_nil ⟨H, I, h⟩
theorem pts_one {X : Cx} {c : Expr} {t : TT} (h : PT X c t) : PTs X [c] t := fun pins s σ H Q E hx I q => wpAny_tests_one (wpAny_mono (h pins s σ H Q I q) (fun _ _ x => x) fun e s' x => by rw [hx] at x; exact x.elim)
def capt (js : List Nat) (σ : St) : St := js.map fun j => (σ[j]?).join
def tComp (wi : TI) (js : List Nat) (tt : TT) (te : TE) : TE := fun σ H Q => wi σ H fun J H1 => ∀ D, H1 D = none → ∃ W : Nat → Nat → List V → Hp → Prop, (∃ m, W 0 m [] (upd H1 D (.lst []))) ∧ ∀ i m ys H, W i m ys H →
  (J.stop i H ∧ Q (.ref D) H) ∨ (J.go i H ∧ ∀ x H', J.yld i H x H' → tt (some x :: capt js σ) H' fun b H2 => if b = true then te (some x :: capt js σ) H2 fun y H3 => H3 D = some (.lst ys) ∧ ys.length < sizeLine ∧ ∃ m', m' < m ∧ W (i + 1) m' (ys ++ [y]) (upd H3 D (.lst (ys ++ [y])))
    else ∃ m', m' < m ∧ W (i + 1) m' ys H2)
structure CompOk (X : Cx) (x : Str) (ys : List Str) (js : List Nat) (sc : Scope) (cl : List (Str × Addr)) : Prop where
  calm : X.calm = true
  clos : closureFor sc X.env = pure cl
  kind : sc.kind = .function
  names : ∀ z ∈ sc.names, z.2 = .local → sc.names.lookup z.1 = some .local
  nocell : ∀ z ∈ sc.names, z.2 ≠ .cell
  own : sc.names.lookup x = some .local
  nd : (x :: ys).Nodup
  same : ∀ z c, cl.lookup z = some c → X.env.cells.lookup z = some c
  has : (relabel sc X.env).names.all (fun p => !(p.2 == .cell || p.2 == .free) || (cl.lookup p.1).isSome) = true
  cap : ∀ (i : Nat) y, ys[i]? = some y → ∃ j, js[i]? = some j ∧ X.N[j]? = some y ∧ X.env.scope.names.lookup y = some .cell ∧ (relabel sc X.env).names.lookup y = some .cell
  len : ys.length = js.length
theorem comp_core {X : Cx} {x : Str} {px : Pos} {ys : List Str} {js : List Nat} {sc : Scope} {cl : List (Str × Addr)} {elt iter : Expr} {ifs : List Expr} {pos : Pos} {wi : TI} {tt : TT} {te : TE} {use : Option (Value → Sem Unit)} {QQ : Value → Shared → Prop}
    (ok : CompOk X x ys js sc cl) (hi : PI X (.Name x px) iter wi)
    (ht : ∀ s₂ H₂ fp, PTs (cxComp X s₂ H₂ fp sc cl (x :: ys)) ifs tt) (he : ∀ s₂ H₂ fp, PE (cxComp X s₂ H₂ fp sc cl (x :: ys)) elt te)
    {pins : List (Addr × Obj)} {s : Shared} {σ : St} {H : Hp} {Q : VK} (I : Inv X pins σ H s) (h : tComp wi js tt te σ H Q)
    (fin : ∀ (D C : Addr) (H' : Hp) (s' : Shared), Inv X pins σ H' s' → Q (.ref D) H' → FpOk X pins H' C → (∃ m, s'.heap.Ns C m) → compPost (model X.prog X.w) X.A X.xe use QQ (.ref D) C (.ok .next) s')
    (hs : ∀ x, foldedSetIterable iter X.env x = pure x) {p2 : Pos} :
    wpAny (model X.prog X.w) X.A (comprehension (.ListComp elt [⟨.Name x px, iter, ifs, 0⟩] sc pos) sc X.env p2 (newList []) false (eval iter X.env) use) QQ X.xe s := by
  refine wpAny_comprehension_free (use := use) rfl hs ok.clos ok.kind ok.names (thn (hi pins s σ H _ I h) fun v s0 h0 => thn h0 fun itv s1 h1 => ?_)
  obtain ⟨it, fp, tn, J, H1, e, I1, T, st1, f1, h1⟩ := h1
  subst e
  -- the new list
  refine wpAny_newObj_type ?_
  have I2 := I1.lnew (ys := []) (its := []) (t' := s1.toks) .nil (by simp)
  obtain ⟨W, ⟨m0, w0⟩, turn⟩ := h1 s1.heap.objs.size I1.fresh
  generalize hs2 : ({ s1 with heap := s1.heap.push { cls := .type "list", data := .seq ([] : List Value).toArray }, toks := s1.toks } : Shared) = s2 at I2
  have es2 : s2.heap = s1.heap.push { cls := .type "list", data := .seq ([] : List Value).toArray } := by rw [← hs2]
  have hD : s1.heap.objs.size < s2.heap.objs.size := by rw [es2, Heap.size_push]; exact Nat.lt_succ_self _
  generalize hH2 : upd H1 s1.heap.objs.size (.lst []) = H2 at I2 w0
  have k12 : ∀ b o, s1.heap.get? b = some o → s2.heap.get? b = some o := fun b o e => by rw [es2]; exact Heap.get?_push_of_some _ e
  have st2 : tn 0 s2.heap := T.keep _ _ _ st1 fun b hb o e => k12 b o e
  have fplt : ∀ b ∈ fp, b < s1.heap.objs.size := fun b hb => by obtain ⟨o, e, _⟩ := T.obj _ _ st1 b hb; exact Heap.lt_size e
  have f2 : ∀ b ∈ fp, FpOk X pins H2 b := fun b hb => ⟨by rw [← hH2, upd_ne (Nat.ne_of_lt (fplt b hb))]; exact (f1 b hb).1, (f1 b hb).2⟩
  -- the block's frame
  refine wpAny_newFunctionEnv ok.nocell (by intro z hz; simp at hz) (fun h3 hns hsb => ?_) ok.kind
  have k23 : ∀ b o, s2.heap.get? b = some o → h3.get? b = some o := fun b o e => hsb.extBut b o (Nat.ne_of_lt (Heap.lt_size e)) (Heap.get?_push_of_some _ e)
  generalize hs3 : ({ s2 with heap := h3, toks := s2.toks + ([] : List (Str × Value)).length } : Shared) = s3
  have es3 : s3.heap = h3 := by rw [← hs3]
  have os3 : s3.os = s2.os := by rw [← hs3]
  have gs3 : s3.gens = s2.gens := by rw [← hs3]
  have hX : (cxComp X s2 H2 fp sc cl (x :: ys)).Ok := by
    refine ⟨I2.mod, ok.kind, I2.ok.glob, I2.ok.blt, Nat.le_refl _, fun a b c e1 e2 => I2.ok.inj a b c (ok.same a c e1) (ok.same b c e2), fun z hz => ?_, fun z c q _ => absurd (show false = true from q) (by simp), I2.ok.hd, I2.ok.frames, .inl rfl,
      fun b hb => ?_, I2.bs, ?_, fun b o e hb => ?_, fun b hb hf => ?_, I2.stack, I2.stkFree⟩
    · have hz : (relabel sc X.env).names.lookup z = some .cell ∨ (relabel sc X.env).names.lookup z = some .free := hz
      have go : ∀ k, (relabel sc X.env).names.lookup z = some k → (k == .cell || k == .free) = true → ∃ c, cl.lookup z = some c := fun k hk hb => by
        have q := List.all_eq_true.mp ok.has (z, k) (PySem.mem_of_lookup hk)
        rw [hb] at q
        exact Option.isSome_iff_exists.mp q
      rcases hz with hz | hz
      · exact go _ hz rfl
      · exact go _ hz rfl
    · refine ⟨?_, fun z c e => (f2 b hb).2.2.2.2.1 z c (ok.same z c e)⟩
      show b ≠ s2.heap.objs.size
      exact Nat.ne_of_lt (Nat.lt_trans (fplt b hb) hD)
    · show X.base.objs.size ≤ s2.heap.objs.size
      exact Nat.le_trans I2.ok.bsz I2.sz
    · rcases (f2 b hb).2.2.2.1 with z | z
      · exact I2.ok.noex b o e z
      · exact absurd (Nat.lt_of_lt_of_le (Heap.lt_size e) (Nat.le_trans I2.ok.bsz z)) (Nat.lt_irrefl _)
    · rcases List.mem_cons.mp (I2.stkSub b hf) with z | z
      · exact (f2 b hb).2.1 z
      · exact (f2 b hb).2.2.1 z
  have hlt2 : ∀ z c, X.env.cells.lookup z = some c → c < s2.heap.objs.size := fun z c e => by obtain ⟨v, q⟩ := I2.cell z c e; exact q.lt
  have I3 : ∀ o : Option V, Inv (cxComp X s2 H2 fp sc cl (x :: ys)) [] (none :: capt js σ) H2 s3 := fun _ => by
    refine ⟨hX, os3, by rw [gs3]; exact I2.bare, Un.kept (by rw [es3]; exact k23), ⟨_, by rw [es3]; exact hns, fun i y v e1 e2 e3 => ?_⟩, fun z c e => ?_, I2.hok.fresh (Nat.le_refl _), fun z c e => ?_, fun p hp => absurd (show p ∈ ([] : List (Addr × Obj)) from hp) (by simp), by rw [es3]; exact I2.hok.kept k23, ?_⟩
    · cases i with
      | zero => simp at e2
      | succ i =>
        have e1 : ys[i]? = some y := by simpa [cxComp] using e1
        obtain ⟨j, hj, hN, hk, hk2⟩ := ok.cap i y e1
        have e2 : (capt js σ)[i]? = some (some v) := by simpa using e2
        unfold capt at e2
        rw [List.getElem?_map, hj] at e2
        have e2' : (σ[j]?).join = some v := by simpa using e2
        have e4 : σ[j]? = some (some v) := by
          cases q : σ[j]? with
          | none => rw [q] at e2'; cases e2'
          | some w => rw [q] at e2'; simp at e2'; rw [e2']
        obtain ⟨m, hn, hl⟩ := I2.loc
        obtain ⟨u, r, l⟩ := hl j y v hN e4 (.inr (.inl hk))
        refine ⟨u, r, ?_⟩
        rcases l with ⟨k, _⟩ | ⟨_, c, hc, z⟩
        · exact absurd ((show X.env.scope.names.lookup y = some .local from k).symm.trans hk) (by simp)
        · have q := List.all_eq_true.mp ok.has (y, .cell) (PySem.mem_of_lookup hk2)
          obtain ⟨c', hc'⟩ : ∃ c', cl.lookup y = some c' := Option.isSome_iff_exists.mp (by simpa using q)
          have e5 := ok.same y c' hc'
          rw [hc] at e5
          cases e5
          refine .inr ⟨.inl hk2, c, hc', ?_⟩
          rw [es3]
          exact z.keeps k23
    · obtain ⟨v, q⟩ := I2.cell z c (ok.same z c e)
      exact ⟨v, by rw [es3]; exact q.keeps k23⟩
    · rcases I2.freeC z c (ok.same z c e) with q | ⟨_, ob, q⟩
      · exact .inl q
      · exact .inr ⟨rfl, ob, q⟩
    · show _ = (x :: ys).length
      unfold capt
      simp; exact ok.len.symm
  -- the loop
  have stat : ∀ {H' : Hp}, (∀ b ∈ fp, H' b = none) → ∀ b ∈ fp, FpOk (cxComp X s2 H2 fp sc cl (x :: ys)) [] H' b := fun {H'} hn b hb => by
    refine ⟨hn b hb, Nat.ne_of_lt (Nat.lt_trans (fplt b hb) hD), fun hf => ?_, .inl hb, fun z c e => (f2 b hb).2.2.2.2.1 z c (ok.same z c e), fun p hp => absurd (show p ∈ ([] : List (Addr × Obj)) from hp) (by simp)⟩
    rcases List.mem_cons.mp (I2.stkSub b hf) with z | z
    · exact (f2 b hb).2.1 z
    · exact (f2 b hb).2.2.1 z
  have loop : codeAny (model X.prog X.w) X.A (.compLoop (.ListComp elt [⟨.Name x px, iter, ifs, 0⟩] sc pos) 0 (.ref it) (.ref s1.heap.objs.size) (compEnvC sc cl s2.heap.objs.size X.env)) (compPost (model X.prog X.w) X.A X.xe use QQ (.ref s1.heap.objs.size) s2.heap.objs.size) s3 := by
    refine codeAny_compLoop_tests (fun n s' => ∃ i o zs H', Inv (cxComp X s2 H2 fp sc cl (x :: ys)) [] (o :: capt js σ) H' s' ∧ tn i s'.heap ∧ (∀ b ∈ fp, H' b = none) ∧ W i n zs H') ?_ m0 ⟨0, none, [], H2, I3 none, T.keep _ _ _ st2 fun b hb o e => by rw [es3]; exact k23 b o e, fun b hb => (f2 b hb).1, w0⟩
    rintro n s4 ⟨i, o, zs, H4, I4, st4, fr4, w4⟩
    rcases turn i n zs H4 w4 with ⟨stop, qn⟩ | ⟨go, step⟩
    · refine wpAny_mono (T.done (cxComp X s2 H2 fp sc cl (x :: ys)) rfl rfl rfl ok.calm i [] s4 _ H4 (fun _ _ => False) I4 (stat fr4) st4 stop) (fun r s5 ⟨hr, I5⟩ => ?_) fun _ _ e => e.elim
      subst hr
      have I6 : Inv X pins σ H4 s5 := I2.call' (ch := fp) I5.os I5.base I5.hok I5.bare fun b hb => ⟨(f2 b hb).2.2.2.1, (f2 b hb).2.1, (f2 b hb).2.2.2.2.1, (f2 b hb).2.2.2.2.2⟩
      obtain ⟨m, hn, _⟩ := I5.loc
      exact fin _ _ H4 s5 I6 qn (I2.fpOk (Nat.le_refl _) I5.free) ⟨m, hn⟩
    · refine wpAny_mono (T.item (cxComp X s2 H2 fp sc cl (x :: ys)) rfl rfl rfl ok.calm i [] s4 _ H4 (fun _ _ => False) I4 (stat fr4) st4 go) (fun r s5 ⟨u, hr, h5⟩ => ?_) fun _ _ e => e.elim
      subst hr
      -- the store
      have asg : ∀ (Q2 : Unit → Shared → Prop), (∀ s6 v H6, Inv (cxComp X s2 H2 fp sc cl (x :: ys)) ([] ++ pinsAt fp s6.heap) (some v :: capt js σ) H6 s6 → J.yld i H4 v H6 → tn (i + 1) s6.heap → (∀ b ∈ fp, H6 b = none) → Q2 () s6) →
          wpAny (model X.prog X.w) X.A (assign (.Name x px) (compEnvC sc cl s2.heap.objs.size X.env) u) Q2 (fun _ _ => False) s5 := fun Q2 hQ2 => by
        have z : wpAny (model X.prog X.w) X.A (letOwnedTupleGo (.Name x px) (.ref it) u >>= fun _ => assign (.Name x px) (compEnvC sc cl s2.heap.objs.size X.env) u) Q2 (fun _ _ => False) s5 := by
          refine wpAny_bind (wpAny_mono h5 (fun _ s6 ⟨v, H6, I6, r6, y6, st6, fr6⟩ => ?_) fun _ _ e => e)
          have I6' := I6.pinned (stat fr6) (T.obj _ _ st6)
          refine wpAny_assign_Name (store_ok (X := cxComp X s2 H2 fp sc cl (x :: ys)) (i := 0) I6' ok.nd rfl (.inl (lookup_relabel_local ok.own)) r6 (fun s7 I7 => ?_) (.inr (lookup_relabel_local ok.own)))
          have e7 : ∀ b ∈ fp, ∀ o, s6.heap.get? b = some o → s7.heap.get? b = some o := fun b hb o e => (I7.pin (b, o) (List.mem_append_right _ (List.mem_append_right _ (mem_pinsAt hb e)))).1
          have st7 : tn (i + 1) s7.heap := T.keep _ _ _ st6 e7
          refine hQ2 s7 v H6 ?_ y6 st7 fr6
          have I8 := I7.unpinned
          exact I8.pinned (stat fr6) (T.obj _ _ st7)
        have e : letOwnedTupleGo (.Name x px) (.ref it) u = pure () := rfl
        rw [e, pure_bind] at z
        exact z
      refine wpAny_mono (asg _ fun s6 v H6 I6 y6 st6 fr6 => ?_) (fun _ _ q => q) fun _ _ e => e.elim
      have keepI : ∀ {H7 : Hp} {s7 : Shared} {σ7 : St}, Inv (cxComp X s2 H2 fp sc cl (x :: ys)) ([] ++ pinsAt fp s6.heap) σ7 H7 s7 → tn (i + 1) s7.heap ∧ ∀ b ∈ fp, H7 b = none := fun {H7 s7 σ7} I7 =>
        ⟨T.keep _ _ _ st6 fun b hb o e => (I7.pin (b, o) (List.mem_append_right _ (List.mem_append_right _ (mem_pinsAt hb e)))).1, fun b hb => by
          obtain ⟨o, e, d⟩ := T.obj _ _ st6 b hb
          exact (I7.pin (b, o) (List.mem_append_right _ (List.mem_append_right _ (mem_pinsAt hb e)))).2.1⟩
      refine wpAny_mono (ht s2 H2 fp _ s6 _ H6 _ (fun _ _ => False) rfl I6 (step v H6 y6)) (fun b s7 ⟨H7, I7, q7⟩ => ?_) fun _ _ e => e.elim
      cases b with
      | false =>
        rw [if_neg Bool.false_ne_true] at q7 ⊢
        obtain ⟨m', hm, w7⟩ := q7
        obtain ⟨st7, fr7⟩ := keepI I7
        exact ⟨m', hm, i + 1, some v, zs, H7, I7.unpinned, st7, fr7, w7⟩
      | true =>
        rw [if_pos rfl] at q7 ⊢
        refine wpAny_mono (he s2 H2 fp _ s7 _ H7 _ I7 q7) (fun y s8 ⟨yv, H8, I8, r8, hD8, hz8, m', hm, w8⟩ => ?_) fun _ _ (e : False) => e.elim
        refine wpAny_mono (mt_append (X := cxComp X s2 H2 fp sc cl (x :: ys)) _ s8 _ H8 (.ref s1.heap.objs.size) [yv] (.ref s1.heap.objs.size) [y] (fun v H9 => H9 = upd H8 s1.heap.objs.size (.lst (zs ++ [yv]))) I8 rfl (.cons r8 .nil) ⟨_, zs, yv, rfl, rfl, hD8, hz8, rfl⟩)
          (fun _ s9 ⟨_, H9, I9, _, e9⟩ => ?_) fun _ _ (e : False) => e.elim
        subst e9
        obtain ⟨st9, fr9⟩ := keepI I9
        exact ⟨m', hm, i + 1, some v, zs ++ [yv], _, I9.unpinned, st9, fr9, w8⟩
  have self3 : tn 0 s3.heap := T.keep _ _ _ st2 fun b hb o e => by rw [es3]; exact k23 b o e
  exact codeAny_compStart_list loop (T.self X.A 0 _ _ _ self3 loop)
theorem pe_comp {X : Cx} {x : Str} {px : Pos} {ys : List Str} {js : List Nat} {sc : Scope} {cl : List (Str × Addr)} {elt iter : Expr} {ifs : List Expr} {pos : Pos} {wi : TI} {tt : TT} {te : TE} (ok : CompOk X x ys js sc cl) (hi : PI X (.Name x px) iter wi)
    (ht : ∀ s₂ H₂ fp, PTs (cxComp X s₂ H₂ fp sc cl (x :: ys)) ifs tt) (he : ∀ s₂ H₂ fp, PE (cxComp X s₂ H₂ fp sc cl (x :: ys)) elt te) (hs : ∀ x, foldedSetIterable iter X.env x = pure x := by intro _; rfl) :
    PE X (.ListComp elt [⟨.Name x px, iter, ifs, 0⟩] sc pos) (tComp wi js tt te) := by
  intro pins s σ H Q I h
  rw [eval_ListComp]
  refine comp_core (use := none) ok hi ht he I h (fun D C H' s' I' q fc ⟨m, hn⟩ => ⟨m, hn, fun h' hs' => ?_⟩) hs
  obtain ⟨f0, f1, f2, f3, f4, f5⟩ := fc
  exact ⟨.ref D, H', I'.turned (t' := s'.toks) (fun b o hb e => (hs'.2 b hb).trans e) f0 f1 f3 f4 f5, rfl, q⟩
theorem ps_setComp {X : Cx} {x z : Str} {px pz : Pos} {iz : Nat} {ys : List Str} {js : List Nat} {sc : Scope} {cl : List (Str × Addr)} {elt iter : Expr} {ifs : List Expr} {pos spos : Pos} {wi : TI} {tt : TT} {te : TE} (ok : CompOk X x ys js sc cl) (hi : PI X (.Name x px) iter wi)
    (ht : ∀ s₂ H₂ fp, PTs (cxComp X s₂ H₂ fp sc cl (x :: ys)) ifs tt) (he : ∀ s₂ H₂ fp, PE (cxComp X s₂ H₂ fp sc cl (x :: ys)) elt te)
    (hN : X.N.Nodup) (hiz : X.N[iz]? = some z) (hz : Loc X.env.scope z) (hf : X.fn z = true ∨ X.env.scope.names.lookup z = some .local)
    (hsw : swapsWith (.ListComp elt [⟨.Name x px, iter, ifs, 0⟩] sc pos) (some (.Name z pz)) spos.line X.env = pure true) (hs : ∀ x, foldedSetIterable iter X.env x = pure x := by intro _; rfl) :
    PS X (.Assign [.Name z pz] (.ListComp elt [⟨.Name x px, iter, ifs, 0⟩] sc pos) spos) (tAsg (tComp wi js tt te) (gName iz)) := by
  intro pins s σ H D I h
  rw [exec_Assign_Name_used _ _ _ _ hsw]
  refine wpAny_bind (wpAny_standAt (wpAny_bind ?_))
  show wpAny _ X.A (do let _ ← comprehension (.ListComp elt [⟨.Name x px, iter, ifs, 0⟩] sc pos) sc X.env _ (newList []) false (eval iter X.env) (some (assign (.Name z pz) X.env))) _ _ s
  refine wpAny_bind (wpAny_mono (comp_core (use := some (assign (.Name z pz) X.env)) (QQ := fun _ s' => SP X pins D .next s') ok hi ht he I h (fun d C H' s' I' q fc ⟨m, hn⟩ => ?_) hs) (fun _ s' hq => wpAny_pure (wpAny_pure hq)) fun _ _ e => e)
  obtain ⟨f0, f1, f2, f3, f4, f5⟩ := fc
  show wpAny _ _ (assign (.Name z pz) X.env (.ref d)) _ _ s'
  refine wpAny_assign_Name (store_ok2 I' hN hiz hz (v := .ref d) rfl (fun s2 I2 ⟨a, hsb, ha⟩ => ?_) hf)
  have hCa : C ≠ a := by
    rcases ha with rfl | ha
    · exact f1
    · exact fun e => f4 z a ha e.symm
  refine ⟨m, hn.sameBut hsb hCa, fun h' hs' => ⟨_, H', I2.turned (t' := s2.toks) (fun b o hb e => (hs'.2 b hb).trans e) f0 f1 f3 f4 f5, q⟩⟩
end L2
namespace L2
open PySem PySem.Spec PyProof.Rows
inductive Tm where
  | int (i : Int) | str (x : Str) | nd (m : Str) (a b : Tm)
def Tm.dep : Tm → Nat
  | .nd _ a b => max a.dep b.dep + 1
  | _ => 0
inductive Sl where
  | plain | turned | num (d : Addr)
def Sl.d : Sl → Option Addr
  | .num d => some d
  | _ => none
def isT (S : Sl) (H : Hp) : Tm → V → Prop
  | .int i, v => v = .int i
  | .str x, v => v = .str x
  | .nd m a b, v => match S with
    | .plain => ∃ p va vb, v = .ref p ∧ H p = some (.tup [.str m, va, vb]) ∧ isT S H a va ∧ isT S H b vb
    | .turned => ∃ p va vb, v = .ref p ∧ H p = some (.tup [.str "seal of", vb, va, .str m]) ∧ isT S H a va ∧ isT S H b vb
    | .num d => ∃ kvs ka kb n, H d = some (.dT kvs) ∧ isT S H a (kV ka) ∧ isT S H b (kV kb) ∧ valV kvs [.inr m, ka, kb] = some (.int n) ∧ v = .int n
abbrev isTs (S : Sl) (H : Hp) : List Tm → List V → Prop := Paired (isT S H)
def imm : HO → Bool
  | .tup _ => true
  | .frz _ _ => true
  | .rng _ _ => true
  | _ => false
def Ints (l : List (List Key × V)) : Prop := ∀ (j : Nat) p, l[j]? = some p → p.2 = V.int (j : Nat)
theorem valV_place {l : List (List Key × V)} {k : List Key} {v : V} (h : valV l k = some v) : ∃ (j : Nat) (p : List Key × V), l[j]? = some p ∧ p.1 = k ∧ p.2 = v := by
  induction l with
  | nil => cases h
  | cons p r ih =>
    by_cases e : p.1 = k
    · rw [valV_pos e] at h; exact ⟨0, p, rfl, e, Option.some.inj h⟩
    · rw [valV_neg e] at h
      obtain ⟨j, q, e1, e2, e3⟩ := ih h
      exact ⟨j + 1, q, by simpa using e1, e2, e3⟩
theorem Ints.inj {l : List (List Key × V)} (x : Ints l) {k k' : List Key} {v : V} (h : valV l k = some v) (h' : valV l k' = some v) : k = k' := by
  obtain ⟨j, p, e1, e2, e3⟩ := valV_place h
  obtain ⟨j', p', e1', e2', e3'⟩ := valV_place h'
  have a := x j p e1
  have a' := x j' p' e1'
  rw [e3] at a; rw [e3', a] at a'
  have e : j = j' := by injection a' with a'; omega
  subst e
  rw [e1] at e1'; cases e1'
  rw [← e2, ← e2']
structure Gn (S : Sl) (n : Nat) (H H' : Hp) : Prop where
  keep : ∀ b o, H b = some o → imm o = true → H' b = some o
  told : ∀ d, S.d = some d → ∃ kvs more, H d = some (.dT kvs) ∧ H' d = some (.dT (kvs ++ more)) ∧ more.length ≤ n ∧ (Ints kvs → Ints (kvs ++ more))
structure Gr (S : Sl) (n : Nat) (H H' : Hp) : Prop where
  gn : Gn S n H H'
  all : ∀ b o, H b = some o → S.d ≠ some b → H' b = some o
def Told (S : Sl) (H : Hp) : Prop := ∀ d, S.d = some d → ∃ kvs, H d = some (.dT kvs)
theorem Gn.told2 {S : Sl} {n : Nat} {H H' : Hp} (g : Gn S n H H') : Told S H' := fun d e => by obtain ⟨kvs, more, _, h, _, _⟩ := g.told d e; exact ⟨_, h⟩
theorem Gn.refl {S : Sl} {H : Hp} (t : Told S H) : Gn S 0 H H := ⟨fun _ _ h _ => h, fun d e => by obtain ⟨kvs, h⟩ := t d e; exact ⟨kvs, [], h, by simpa using h, Nat.le_refl _, fun z => by simpa using z⟩⟩
theorem Gr.refl {S : Sl} {H : Hp} (t : Told S H) : Gr S 0 H H := ⟨.refl t, fun _ _ h _ => h⟩
theorem Gn.trans {S : Sl} {a b : Nat} {H H1 H2 : Hp} (g : Gn S a H H1) (g2 : Gn S b H1 H2) : Gn S (a + b) H H2 :=
  ⟨fun c o h i => g2.keep c o (g.keep c o h i) i, fun d e => by
    obtain ⟨kvs, more, h1, h2, h3, h4⟩ := g.told d e
    obtain ⟨kvs', more', h1', h2', h3', h4'⟩ := g2.told d e
    rw [h2] at h1'; cases h1'
    exact ⟨kvs, more ++ more', h1, by rw [h2', List.append_assoc], by rw [List.length_append]; omega, fun z => by rw [← List.append_assoc]; exact h4' (h4 z)⟩⟩
theorem Gr.trans {S : Sl} {a b : Nat} {H H1 H2 : Hp} (g : Gr S a H H1) (g2 : Gr S b H1 H2) : Gr S (a + b) H H2 := ⟨g.gn.trans g2.gn, fun c o h n => g2.all c o (g.all c o h n) n⟩
theorem Gn.up {S : Sl} {a b : Nat} {H H1 : Hp} (g : Gn S a H H1) (h : a ≤ b) : Gn S b H H1 := ⟨g.keep, fun d e => by obtain ⟨k, m, h1, h2, h3, h4⟩ := g.told d e; exact ⟨k, m, h1, h2, Nat.le_trans h3 h, h4⟩⟩
theorem Gr.up {S : Sl} {a b : Nat} {H H1 : Hp} (g : Gr S a H H1) (h : a ≤ b) : Gr S b H H1 := ⟨g.gn.up h, g.all⟩
theorem Gr.new {S : Sl} {H : Hp} {p : Addr} {o : HO} (t : Told S H) (h : H p = none) : Gr S 0 H (upd H p o) :=
  ⟨⟨fun b u q _ => by rw [upd_ne (ne_of_none q h)]; exact q, fun d e => by
    obtain ⟨kvs, q⟩ := t d e
    exact ⟨kvs, [], q, by rw [upd_ne (ne_of_none q h)]; simpa using q, Nat.le_refl _, fun z => by simpa using z⟩⟩, fun b u q _ => by rw [upd_ne (ne_of_none q h)]; exact q⟩
theorem Gn.chg {S : Sl} {H : Hp} {p : Addr} {o o' : HO} (t : Told S H) (h : H p = some o) (hi : imm o = false) (hd : ∀ kvs, o ≠ .dT kvs) : Gn S 0 H (upd H p o') :=
  ⟨fun b u q i => by
    rw [upd_ne (by rintro rfl; rw [h] at q; cases q; rw [hi] at i; cases i)]; exact q, fun d e => by
    obtain ⟨kvs, q⟩ := t d e
    exact ⟨kvs, [], q, by rw [upd_ne (by rintro rfl; rw [h] at q; exact hd _ (Option.some.inj q))]; simpa using q, Nat.le_refl _, fun z => by simpa using z⟩⟩
theorem Gr.lst {S : Sl} {n : Nat} {H H' : Hp} (g : Gr S n H H') {p : Addr} {xs : List V} (h : H p = some (.lst xs)) : H' p = some (.lst xs) := g.all p _ h fun e => by
  obtain ⟨kvs, more, h1, _, _, _⟩ := g.gn.told p e
  rw [h] at h1; cases h1
theorem Gr.same {S : Sl} {n : Nat} {H H' : Hp} (g : Gr S n H H') {p : Addr} {o : HO} (h : H p = some o) (hd : ∀ kvs, o ≠ .dT kvs) : H' p = some o := g.all p _ h fun e => by
  obtain ⟨kvs, more, h1, _, _, _⟩ := g.gn.told p e
  rw [h] at h1; exact hd _ (Option.some.inj h1)
theorem valV_app {κ : Type} [DecidableEq κ] {kvs more : List (κ × V)} {k : κ} {v : V} (h : valV kvs k = some v) : valV (kvs ++ more) k = some v := by
  induction kvs with
  | nil => cases h
  | cons p r ih =>
    rw [List.cons_append]
    by_cases e : p.1 = k
    · rw [valV_pos e] at h ⊢; exact h
    · rw [valV_neg e] at h ⊢; exact ih h
theorem isT_up {S : Sl} {n : Nat} {H H' : Hp} (g : Gn S n H H') : ∀ {t : Tm} {v : V}, isT S H t v → isT S H' t v
  | .int _, _, h => h
  | .str _, _, h => h
  | .nd m a b, v, h => by
    cases S with
    | plain => obtain ⟨p, va, vb, e, hp, ha, hb⟩ := h; exact ⟨p, va, vb, e, g.keep _ _ hp rfl, isT_up g ha, isT_up g hb⟩
    | turned => obtain ⟨p, va, vb, e, hp, ha, hb⟩ := h; exact ⟨p, va, vb, e, g.keep _ _ hp rfl, isT_up g ha, isT_up g hb⟩
    | num d =>
      obtain ⟨kvs, ka, kb, n, hd, ha, hb, hv, e⟩ := h
      obtain ⟨kvs', more, h1, h2, _, _⟩ := g.told d rfl
      rw [hd] at h1; cases h1
      exact ⟨_, ka, kb, n, h2, isT_up g ha, isT_up g hb, valV_app hv, e⟩
theorem Paired.imp2 {α β : Type} {F G : α → β → Prop} (f : ∀ a b, F a b → G a b) : ∀ {l₁ : List α} {l₂ : List β}, Paired F l₁ l₂ → Paired G l₁ l₂
  | _, _, .nil => .nil
  | _, _, .cons r t => .cons (f _ _ r) (Paired.imp2 f t)
theorem isTs_up {S : Sl} {n : Nat} {H H' : Hp} (g : Gn S n H H') {ts : List Tm} {vs : List V} (h : isTs S H ts vs) : isTs S H' ts vs := Paired.imp2 (fun _ _ q => isT_up g q) h
theorem pr_len {α β : Type} {F : α → β → Prop} : ∀ {l₁ : List α} {l₂ : List β}, Paired F l₁ l₂ → l₁.length = l₂.length
  | _, _, .nil => rfl
  | _, _, .cons _ t => by simp [pr_len t]
theorem pr_app {α β : Type} {F : α → β → Prop} : ∀ {l₁ l₂ : List α} {m₁ m₂ : List β}, Paired F l₁ m₁ → Paired F l₂ m₂ → Paired F (l₁ ++ l₂) (m₁ ++ m₂)
  | _, _, _, _, .nil, s => s
  | _, _, _, _, .cons r t, s => .cons r (pr_app t s)
theorem pr_get {α β : Type} {F : α → β → Prop} : ∀ {l₁ : List α} {l₂ : List β} {i : Nat} {a : α} {b : β}, Paired F l₁ l₂ → l₁[i]? = some a → l₂[i]? = some b → F a b
  | _, _, 0, _, _, .cons r _, h1, h2 => by simp at h1 h2; subst h1 h2; exact r
  | _, _, i + 1, _, _, .cons _ t, h1, h2 => pr_get (i := i) t (by simpa using h1) (by simpa using h2)
theorem pr_get2 {α β : Type} {F : α → β → Prop} : ∀ {l₁ : List α} {l₂ : List β} {i : Nat} {b : β}, Paired F l₁ l₂ → l₂[i]? = some b → ∃ a, l₁[i]? = some a ∧ F a b
  | _, _, 0, _, .cons r _, h2 => by simp at h2; subst h2; exact ⟨_, rfl, r⟩
  | _, _, i + 1, _, .cons _ t, h2 => by
    obtain ⟨a, h1, h3⟩ := pr_get2 (i := i) t (by simpa using h2)
    exact ⟨a, by simpa using h1, h3⟩
theorem isT_fun {d : Addr} {H : Hp} : ∀ {t : Tm} {v v' : V}, isT (.num d) H t v → isT (.num d) H t v' → v = v'
  | .int _, _, _, h, h' => (show _ = _ from h).trans (show _ = _ from h').symm
  | .str _, _, _, h, h' => (show _ = _ from h).trans (show _ = _ from h').symm
  | .nd m a b, v, v', h, h' => by
    obtain ⟨kvs, ka, kb, n, hd, ha, hb, hv, e⟩ := h
    obtain ⟨kvs', ka', kb', n', hd', ha', hb', hv', e'⟩ := h'
    rw [hd] at hd'; cases hd'
    have e1 := kV_inj (isT_fun ha ha')
    have e2 := kV_inj (isT_fun hb hb')
    subst e1 e2
    rw [hv] at hv'; cases hv'
    rw [e, e']
theorem isT_key {d : Addr} {H : Hp} : ∀ {t : Tm} {v : V}, isT (.num d) H t v → ∃ k, v = kV k
  | .int i, _, h => ⟨.inl i, h⟩
  | .str x, _, h => ⟨.inr x, h⟩
  | .nd m a b, v, h => by
    obtain ⟨kvs, ka, kb, n, hd, ha, hb, hv, e⟩ := h
    exact ⟨.inl n, e⟩
theorem flat_key (k : Key) : flatV (kV k) = true := by cases k <;> rfl
def Cap (S : Sl) (H : Hp) (n : Nat) : Prop := ∀ d kvs, S.d = some d → H d = some (.dT kvs) → kvs.length + n ≤ 10000000
theorem Cap.dn {S : Sl} {H : Hp} {a b : Nat} (c : Cap S H a) (h : b ≤ a) : Cap S H b := fun d kvs e q => Nat.le_trans (Nat.add_le_add_left h _) (c d kvs e q)
theorem Cap.go {S : Sl} {H H' : Hp} {a b n : Nat} (c : Cap S H n) (g : Gn S a H H') (h : a + b ≤ n) : Cap S H' b := fun d kvs e q => by
  obtain ⟨k, m, h1, h2, h3, _⟩ := g.told d e
  rw [h2] at q; cases q
  have := c d k e h1
  rw [List.length_append]; omega
abbrev nlT : Tm := .nd "none" (.int 0) (.int 0)
abbrev prT : Tm → Tm → Tm := .nd "pair"
end L2
namespace L2
open PySem PySem.Spec PyProof.Rows
def FunAt (K : PySem.W.Frag) (mg : Str → Option Value) (x : Str) (st : Stmt) : Prop := ∃ f fd, mg x = some (.ref f) ∧ Fun K x x st f fd
theorem funAt_mk {K : PySem.W.Frag} {mg : Str → Option Value} {h : Heap} {x : Str} {st : Stmt} (X : K.In h) (G : h.Ns mainGlobals mg) {f : Addr} {oc : Value} {od an : Option Addr} {osl : Array (Option Value)} {kV doc pm cdv ct : Value}
    (a : PySem.W.nsIn K mainGlobals x = some (some (.ref f))) (l : K.lookup f = some ⟨oc, od, .func (PySem.W.fnOf x x (defArgs st) (defBody st) (defScope st) .none kV doc pm an cdv ct), osl⟩)
    (c : PySem.W.codeIn K cdv x = true) (k : PySem.W.keepIn K (.ref f) = true) : FunAt K mg x st := ⟨f, _, PySem.W.mg_of X G a, fun_mk l c k⟩
def FnP (P : Program) (w : World) (K : PySem.W.Frag) (mg : Str → Option Value) (base : Heap) (k : Nat) (x : Str) (ps : List Str) (sp : Sp) : Prop :=
  ∃ f fd, mg x = some (.ref f) ∧ PySem.W.keepIn K (.ref f) = true ∧ Binds K fd ps [] ∧ FnOk P w K mg base CX0 k f fd ps sp ∧ ∃ oc od sl, K.lookup f = some ⟨oc, od, .func fd, sl⟩
section
variable {P : Program} {w : World} {K : PySem.W.Frag} {mg : Str → Option Value} {base : Heap}
theorem FnP.mono {j k : Nat} {x : Str} {ps : List Str} {sp : Sp} (F : FnP P w K mg base j x ps sp) (h : j ≤ k) : FnP P w K mg base k x ps sp := by
  obtain ⟨f, fd, h1, h2, h3, h4, h5⟩ := F
  exact ⟨f, fd, h1, h2, h3, h4.mono h, h5⟩
theorem FunAt.ok {x : Str} {st : Stmt} {N ps : List Str} {k : Nat} {sp : Sp} (F : FunAt K mg x st) (S : FnScope N ps (defScope st))
    (hb : ∀ (kV doc pm : Value) (an : Option Addr) (cdv ct : Value) (us : List Value), us.length = ps.length → bindArgs (PySem.W.fnOf x x (defArgs st) (defBody st) (defScope st) .none kV doc pm an cdv ct) ⟨us, []⟩ = pure (ps.zip us))
    (len : ∀ vs H Q E, sp vs H Q E → vs.length = ps.length)
    (hbody : ∀ (f : Addr) (cdv : Value) (A : Around) (outer : List Env) (s : Shared) (H : Hp) (vs : List V) (Q : VK) (E : XK), Room k (A.deeper (envOfC x (defScope st) s.heap.objs.size f cdv)) → sp vs H Q E →
      ∃ t, PSs (cxOf CX0 P w K mg base N x (defScope st) f cdv A outer s H E).nox (defBody st) t ∧ t { nx := fun _ H' => Q .non H', rt := Q } (start N vs) H) : FnP P w K mg base (k + 1) x ps sp := by
  obtain ⟨f, fd, h1, F⟩ := F
  refine ⟨f, fd, h1, F.kp, F.binds hb, F.ok S len fun cdv A outer s H vs Q E => hbody f cdv A outer s H vs Q E, ?_⟩
  obtain ⟨oc, od, kV, doc, pm, an, cdv, ct, osl, rfl, lk, hcd⟩ := F.ex
  exact ⟨_, _, _, lk⟩
end
section
variable {X : Cx} {k : Nat} {ps : List Str} {sp : Sp} {x : Str} {p pos : Pos} {e : Expr} {es : List Expr} {t : TA}
theorem pe_callN (F : FnP X.prog X.w X.K X.mg X.base k x ps sp) (hr : Room k X.A) (hg : Gl X x) (ha : PA X (e :: es) t) (hdb : (x == ("__debug__" : Str)) = false := by decide)
    (he : starEach (e :: es) X.env = (false, eval e X.env) :: starEach es X.env := by rfl) (hpl : (backTo pos (starEach es X.env)).any (·.1) = false := by rfl) : PE X (.Call (.Name x p) (e :: es) [] pos) (tCall sp [] E0 t) := by
  obtain ⟨f, fd, h1, h2, h3, h4, _⟩ := F
  exact pe_call h4 hr hg h1 h2 h3 .nil pass0 ha hdb he hpl
end
theorem pe_ty {X : Cx} {x : Str} {T : String} {pos : Pos} (hg : Gl X x) (hm : X.mg x = none) (hv : bootBuiltins x = some (.type T)) (hn : x ≠ "__name__" := by decide) (hd : (x == ("__debug__" : Str)) = false := by decide) : PE X (.Name x pos) (tC (.ty T)) :=
  pe_bltn (v := .ty T) hg hm hv rfl hn hd
def SealAt (K : PySem.W.Frag) (mg : Str → Option Value) (st : Stmt) (S : Sl) (H : Hp) (f : Addr) : Prop := match S with
  | .plain => mg "_law_plain" = some (.ref f) ∧ ∃ oc od fd sl, K.lookup f = some ⟨oc, od, .func fd, sl⟩
  | .turned => mg "_law_turned" = some (.ref f) ∧ ∃ oc od fd sl, K.lookup f = some ⟨oc, od, .func fd, sl⟩
  | .num d => ∃ (c c' : Addr) (doc pm ct : Value) (ob co : Obj) (cvs : Array Value) (tk : Tok) (kvs : List (List Key × V)),
      H f = some (.frz (PySem.W.fnMade "_law_numbered" "_law_numbering.<locals>._law_numbered" (defArgs st) (defBody st) (defScope st) [("_law_told", c)] doc pm c' ct) (.own 0)) ∧
      H c' = some (.frz ob (.own 0)) ∧ ob.data = .fields cvs ∧ cvs[1]? = some (.str "_law_numbering.<locals>._law_numbered" tk) ∧ H c = some (.frz co (.own 0)) ∧ co.data = .cell (some (.ref d)) ∧ H d = some (.dT kvs) ∧ Ints kvs
section
variable {K : PySem.W.Frag} {mg : Str → Option Value} {st : Stmt} {S : Sl} {H H' : Hp} {f : Addr}
end
def spSeal (K : PySem.W.Frag) (mg : Str → Option Value) (st : Stmt) : Addr → Sp := fun f vs H Q _ => ∃ S m t1 t2 v1 v2, SealAt K mg st S H f ∧ Cap S H 1 ∧ vs = [.str m, v1, v2] ∧ isT S H t1 v1 ∧ isT S H t2 v2 ∧
  ∀ v H', Gr S 1 H H' → isT S H' (.nd m t1 t2) v → Q v H'
def spPlain : Sp := fun vs H Q _ => ∃ m v1 v2, vs = [.str m, v1, v2] ∧ ∀ p, H p = none → Q (.ref p) (upd H p (.tup [.str m, v1, v2]))
abbrev mot : List Str := ["_law_mark", "_law_one", "_law_two"]
end L2
namespace L2
open PySem PySem.Spec PyProof.Rows
def BmAt (mg : Str → Option Value) (h : Heap) : Prop := ∃ bm ob, mg "__builtins__" = some (.ref bm) ∧ bm ≠ builtinsNs ∧ h.get? bm = some ob ∧ ob.cls = .type "module" ∧ ob.dict = some builtinsNs ∧ ob.data = .plain
theorem law_callT {P : Program} {w : World} {K : PySem.W.Frag} {mg mb : Str → Option Value} {k : Nat} {fa a c0 Pt : Addr} {fd : FuncData} {x : Str} {sp : Sp} {s₁ : Shared} {vs : List Value} {ns : List Int}
    (KX : K.In s₁.heap) (hns : s₁.heap.Ns mainGlobals mg) (hb : s₁.heap.Ns builtinsNs mb) (hbb : ∀ x : Str, x ≠ "__name__" → mb x = bootBuiltins x) (hlim : s₁.heap.NoLimit) (hg : s₁.gens = #[])
    (ha : s₁.heap.get? a = some { cls := .type "list", data := .seq vs.toArray }) (hi : IntsAre vs ns) (hl : ns.length ≤ sizeLine) (hr : Room k callerA)
    (hC : PySem.W.CodeHd s₁.heap c0 Pt) (hT : s₁.heap.get? Pt = some (PySem.W.tabObj #[])) (hnt : PySem.W.noTabs K = true) (hbm : BmAt mg s₁.heap)
    (F : ∀ base : Heap, K.In base → base.Ns mainGlobals mg → PySem.W.CodeHd base c0 Pt → BmAt mg base → FnOk P w K mg base CX0 k fa fd [x] sp) (hbind : ∀ (s : Shared) (u : Value), BindsTo s fd ⟨[u], []⟩ [(x, u)])
    (hsp : ∀ H : Hp, SqL K H a (ns.map V.int) → Scr K H a (ns.map V.int) → H Pt = some (.tbl #[]) → sp [.ref a] H (fun v _ => v = .bl true) fun _ _ _ => False) :
    codeAny (model P w) callerA (.call (.ref fa) ⟨[.ref a], []⟩) (fun r s' => r = .ok (.ret (.bool true)) ∧ OldK s₁.heap s'.heap ∧ s'.os = s₁.os ∧ AllBare s'.gens) s₁ := by
  have rv := vals_ints hi
  have lenV := hi.length
  have hKP : K.lookup Pt = none := by
    cases q : K.lookup Pt with
    | none => rfl
    | some o =>
      have e := KX _ _ q
      rw [hT] at e; cases e
      have h2 := List.all_eq_true.mp hnt (Pt, PySem.W.tabObj #[]) (PySem.W.mem_of_lookupK q)
      exact absurd (show false = true from h2) Bool.false_ne_true
  have haP : a ≠ Pt := by rintro rfl; rw [hT] at ha; cases ha
  have core : ∀ H : Hp, SqL K H a (ns.map V.int) → Scr K H a (ns.map V.int) → H Pt = some (.tbl #[]) → HOk P w H s₁.heap → (∀ b, H b ≠ none → b = Pt ∨ (b = a ∧ K.lookup a = none ∧ ∃ o xs, H b = some (.frz o (.lst xs)))) →
      codeAny (model P w) callerA (.call (.ref fa) ⟨[.ref a], []⟩) (fun r s' => r = .ok (.ret (.bool true)) ∧ OldK s₁.heap s'.heap ∧ s'.os = s₁.os ∧ AllBare s'.gens) s₁ := by
    intro H hS hScr hP hok hA
    have base_of : ∀ {b : Addr} {o : Obj}, s₁.heap.get? b = some o → H b = none → (hidT s₁.heap H).get? b = some o := fun e n => hidT_get e n
    have noT : ∀ {b : Addr} {o : Obj}, s₁.heap.get? b = some o → o.cls ≠ .none → o.cls ≠ .type "list" → H b = none := fun {b o} e d1 d2 => by
      cases q : H b with
      | none => rfl
      | some u =>
        rcases hA b (by rw [q]; simp) with z | ⟨z, _⟩
        · subst z; rw [hT] at e; cases e; exact absurd rfl d1
        · subst z; rw [ha] at e; cases e; exact absurd rfl d2
    have noA : ∀ {b : Addr} {o : Obj} {es : Array DictEntry} {ep : Nat}, s₁.heap.get? b = some o → o.data = .dict es ep → H b = none := fun {b o es ep} e d => by
      cases q : H b with
      | none => rfl
      | some u =>
        rcases hA b (by rw [q]; simp) with z | ⟨z, _⟩
        · subst z; rw [hT] at e; cases e; cases d
        · subst z; rw [ha] at e; cases e
          have d' : Data.seq vs.toArray _ = Data.dict es ep := d
          cases d'
    have nsK : ∀ {b : Addr} {m : Str → Option Value}, s₁.heap.Ns b m → (hidT s₁.heap H).Ns b m := fun {b m} ⟨o, es, ep, e, d, r⟩ => ⟨o, es, ep, base_of e (noA e d), d, r⟩
    have hKb : K.In (hidT s₁.heap H) := fun b o e => base_of (KX b o e) (by
      cases q : H b with
      | none => rfl
      | some u =>
        rcases hA b (by rw [q]; simp) with z | ⟨z, z2, _⟩
        · subst z; rw [hKP] at e; cases e
        · subst z; rw [z2] at e; cases e)
    have hCb : PySem.W.CodeHd (hidT s₁.heap H) c0 Pt := by
      obtain ⟨o, vs', file, tf, flags, tg, inF, text, tt, e1, r1, r⟩ := hC
      exact ⟨o, vs', file, tf, flags, tg, inF, text, tt, base_of e1 (noT e1 (by rw [r1]; nofun) (by rw [r1]; decide)), r1, r⟩
    have hBb : BmAt mg (hidT s₁.heap H) := by
      obtain ⟨bm, ob, b1, b2, b3, b4, r⟩ := hbm
      exact ⟨bm, ob, b1, b2, base_of b3 (noT b3 (by rw [b4]; nofun) (by rw [b4]; decide)), b4, r⟩
    have hM : Mod K mg (hidT s₁.heap H) := ⟨hKb, nsK hns, ⟨mb, nsK hb, hbb⟩, let ⟨mc, h1, h2⟩ := hlim; ⟨mc, nsK h1, h2⟩⟩
    have e0 : Env0 P w K mg (hidT s₁.heap H) callerA [] s₁ H := ⟨rfl, hM, fun b o e => of_hidT e, Nat.le_of_eq (hidT_size _ _), trivial, fun b hb => absurd (show b ∈ ([] : List Addr) from hb) (by simp), hok, .of_eq hg⟩
    refine codeAny_mono ((F _ hKb (nsK hns) hCb hBb).run callerA [] s₁ H ⟨[.ref a], []⟩ [.ref a] [.ref a] _ _ hr e0 (hbind s₁ (.ref a)) (.cons rfl .nil) (hsp H hS hScr hP)) fun r s' h => ?_
    cases r with
    | error e => exact (show False from h).elim
    | ok fl =>
      cases fl with
      | next => exact False.elim h
      | brk => exact False.elim h
      | cont => exact False.elim h
      | ret u =>
        obtain ⟨v, H', os, bare, un, hok', r', q⟩ := h
        have q' : v = .bl true := q
        subst q'
        obtain rfl : u = Value.bool true := r'
        have kp : ∀ b o, s₁.heap.get? b = some o → b ≠ Pt → s'.heap.get? b = some o := fun b o e hbP => by
          cases q : H b with
          | none => exact un.keep b o e q (by intro z; exact absurd (show b ∈ ([] : List Addr) from z) (by simp)) (by simp)
          | some u =>
            rcases hA b (by rw [q]; simp) with z | ⟨z, _, ob, xs, z2⟩
            · exact absurd z hbP
            · have z3 := un.frzs b ob _ z2
              obtain ⟨e1, _⟩ := hok b _ z2
              obtain ⟨e2, _⟩ := hok' b _ z3
              rw [e] at e1; cases e1
              exact e2
        obtain ⟨more, hm⟩ := un.tbls Pt #[] hP
        have hP' : s'.heap.get? Pt = some (PySem.W.tabObj (#[] ++ more)) := hok' _ _ hm
        refine ⟨rfl, ⟨fun b o e => ?_, fun b o e => ?_⟩, os, bare⟩
        · by_cases hbP : b = Pt
          · subst hbP
            rw [hT] at e; cases e
            exact .inr (.inl ⟨(hC.tab hT).isCodeTable, rfl, #[], more, rfl, hP'⟩)
          · exact .inl (kp b o e hbP)
        · by_cases hbP : b = Pt
          · subst hbP; exact ⟨_, hP'⟩
          · exact ⟨o, kp b o e hbP⟩
  cases hk : K.lookup a with
  | some o =>
    have e := KX a o hk
    rw [ha] at e
    cases e
    refine core (fun b => if b = Pt then some (.tbl #[]) else none) (.inr ⟨_, vs.toArray, _, hk, rfl, rfl, rfl, by rw [List.size_toArray, lenV]; exact hl, by simpa using rv⟩)
      ⟨vs, _, rv, by rw [List.length_map]; exact hl, .inr hk⟩ (if_pos rfl) (fun b u z => ?_) (fun b z => ?_)
    · by_cases hb : b = Pt
      · have z' := (if_pos hb).symm.trans z
        cases z'; subst hb; exact hT
      · have z' := (if_neg hb).symm.trans z
        cases z'
    · by_cases hb : b = Pt
      · exact .inl hb
      · exact absurd (if_neg hb) z
  | none =>
    have eH : (fun b => if b = Pt then some (.tbl #[]) else if b = a then some (.frz { cls := .type "list", data := .seq vs.toArray } (.lst (ns.map V.int))) else none : Hp) a = some (.frz { cls := .type "list", data := .seq vs.toArray } (.lst (ns.map V.int))) := by
      show (if a = Pt then _ else if a = a then _ else _) = _
      rw [if_neg haP, if_pos rfl]
    refine core (fun b => if b = Pt then some (.tbl #[]) else if b = a then some (.frz { cls := .type "list", data := .seq vs.toArray } (.lst (ns.map V.int))) else none) (.inl (.inr ⟨{ cls := .type "list", data := .seq vs.toArray }, eH⟩))
      ⟨vs, _, rv, by rw [List.length_map]; exact hl, .inl ⟨_, eH⟩⟩ (if_pos rfl) (fun b u z => ?_) (fun b z => ?_)
    · by_cases hb : b = Pt
      · have z' := (if_pos hb).symm.trans z
        cases z'; subst hb; exact hT
      · have z1 := (if_neg hb).symm.trans z
        by_cases hb2 : b = a
        · have z2 := (if_pos hb2).symm.trans z1
          cases z2
          subst hb2
          exact ⟨ha, by rw [List.length_map]; exact hl, vs, _, rv, ha⟩
        · have z2 := (if_neg hb2).symm.trans z1
          cases z2
    · by_cases hb : b = Pt
      · exact .inl hb
      · by_cases hb2 : b = a
        · exact .inr ⟨hb2, hk, _, _, by rw [if_neg hb, if_pos hb2]⟩
        · exact absurd (by rw [if_neg hb, if_neg hb2]) z
theorem walk_ofT {l : PySem.W.OpenLaw} {n k : Nat} {q : Program} {loose : List Str} {XP : (Str → Option Value) → Heap → Prop} {YP : World → Heap → Prop} {d dt : DefRec} {K : Params → PySem.W.Frag} {sp : PySem.W.Frag → (Str → Option Value) → Addr → Sp} {x xn : Str} {c0 Pt : Addr}
    (hn : l.most = some n) (hn2 : n ≤ sizeLine) (hdf : d.params.defaults = []) (hr : Room k callerA)
    (hY : ∀ (w : World) (h : Heap), YP w h → (K w.params).In h) (hrec : (recsOf q).find? (fun e => e.name == xn) = some dt)
    (ht : ∀ w : World, PySem.W.tabIn (K w.params) xn = some (c0, Pt)) (hnt : ∀ w : World, PySem.W.noTabs (K w.params) = true)
    (F : ∀ (w : World) (mg : Str → Option Value) (fa : Addr) (h : Heap), (K w.params).In h → h.Ns mainGlobals mg → mg d.name = some (.ref fa) → PySem.W.tabIn (K w.params) xn = some (c0, Pt) →
      ∃ fd : FuncData, (∀ (s : Shared) (u : Value), BindsTo s fd ⟨[u], []⟩ [(x, u)]) ∧
        ∀ base : Heap, (K w.params).In base → base.Ns mainGlobals mg → PySem.W.CodeHd base c0 Pt → BmAt mg base → FnOk l.prog w (K w.params) mg base CX0 k fa fd [x] (sp (K w.params) mg Pt))
    (hsp : ∀ (K : PySem.W.Frag) (mg : Str → Option Value) (Pt : Addr) (H : Hp) (a : Addr) (ns : List Int), ns.length ≤ n → SqL K H a (ns.map V.int) → Scr K H a (ns.map V.int) → H Pt = some (.tbl #[]) → sp K mg Pt [.ref a] H (fun v _ => v = .bl true) fun _ _ _ => False) :
    PySem.W.WalkO q loose XP YP l.row.toRowW d [] (fun f vs => PySem.call f vs) := by
  refine Att.attach_call hn hdf fun w s₀ s₁ mg mb fa o pm cd doc a vs ns G Y ho hd hcd hmg hobj hints hlen hg => ?_
  have KX := hY w _ Y
  obtain ⟨fd, hb, hF⟩ := F w mg fa _ KX G.T.g hmg (ht w)
  obtain ⟨hC, hT⟩ := PySem.W.tab_of G.T KX hrec (ht w)
  exact law_callT KX G.T.g G.T.b G.T.builtins G.T.nolimit hg hobj hints (Nat.le_trans hlen hn2) hr hC hT (hnt w) G.T.bmain hF hb fun H hS hScr hP => hsp _ mg _ H a ns hlen hS hScr hP
end L2
namespace L2
open PySem PySem.Spec PyProof.Rows
theorem law_fn {P : Program} {w : World} {K : PySem.W.Frag} {mg : Str → Option Value} {c0 Pt : Addr} {k : Nat} {sp : Sp} {x name : Str} {ps : List Str} {st : Stmt} {fa : Addr} (hmg : mg name = some (.ref fa)) (F : FunAt K mg name st)
    (h : ∀ base : Heap, K.In base → base.Ns mainGlobals mg → PySem.W.CodeHd base c0 Pt → BmAt mg base → FnP P w K mg base k name ps sp)
    (hps : ps = [x] := by rfl) (hbind : ∀ (kV doc pm : Value) (an : Option Addr) (cdv ct u : Value), bindArgs (PySem.W.fnOf name name (defArgs st) (defBody st) (defScope st) .none kV doc pm an cdv ct) ⟨[u], []⟩ = pure [(x, u)] := by intros; rfl) :
    ∃ fd : FuncData, (∀ (s : Shared) (u : Value), BindsTo s fd ⟨[u], []⟩ [(x, u)]) ∧ ∀ base : Heap, K.In base → base.Ns mainGlobals mg → PySem.W.CodeHd base c0 Pt → BmAt mg base → FnOk P w K mg base CX0 k fa fd [x] sp := by
  subst hps
  obtain ⟨f, fd, h1, F⟩ := F
  have e := hmg.symm.trans h1
  cases e
  obtain ⟨oc, od, kV, doc, pm, an, cdv, ct, osl, rfl, lk, hcd⟩ := F.ex
  refine ⟨_, fun s u => .of_eq (hbind kV doc pm an cdv ct u), fun base kb nb hC hB => ?_⟩
  obtain ⟨f', fd', h1', h2', h3', h4', oc2, od2, sl2, lk2⟩ := h base kb nb hC hB
  have e := h1.symm.trans h1'
  cases e
  rw [lk] at lk2
  cases lk2
  exact h4'
end L2
namespace L2
open PySem PySem.Spec PyProof.Rows
theorem tabIn_mk {K : PySem.W.Frag} {x : Str} {f c P : Addr} {oc o1 : Value} {od o2 : Option Addr} {fd : FuncData} {sl s2 : Array (Option Value)} {vs : Array Value} (a : PySem.W.nsIn K mainGlobals x = some (some (.ref f))) (l : K.lookup f = some ⟨oc, od, .func fd, sl⟩) (hc : fd.code = .ref c)
    (lc : K.lookup c = some ⟨o1, o2, .fields vs, s2⟩) (v : vs[11]? = some (.ref P)) : PySem.W.tabIn K x = some (c, P) := by
  unfold PySem.W.tabIn
  rw [a]
  dsimp only
  rw [l]
  dsimp only
  rw [hc]
  dsimp only
  rw [lc]
  dsimp only
  rw [v]
end L2
namespace L2
open PySem PySem.Spec PyProof.Rows
theorem ix_listK {X : Cx} (K : PySem.W.Frag) (hK : X.K = K) : IxR X (rIxL K) := by subst hK; exact ix_list
theorem ix_tupK {X : Cx} (K : PySem.W.Frag) (hK : X.K = K) : IxR X (rIxT K) := by subst hK; exact ix_tup
end L2
namespace L2
open PySem PySem.Spec PyProof.Rows
def Itv (K : PySem.W.Frag) (a : Addr) (n : Nat) : It :=
  ⟨fun i H => i < n ∧ ∃ xs, SqL K H a xs ∧ xs.length = n, fun i H x H' => H' = H ∧ ∀ xs, SqL K H a xs → xs[n - 1 - i]? = some x, fun i _ => i = n⟩
theorem turn_rev {P : Program} {w : World} {K : PySem.W.Frag} {tg : Expr} (a it : Addr) (n : Nat) : Turn P w K tg (Itv K a n) [it] it (fun i h => h.IsRevIter it a ((n : Int) - 1 - (i : Nat))) where
  mem := by simp
  obj := fun i h st b hb => by
    have e : b = it := by simpa using hb
    subst e
    obtain ⟨o, e, c, d⟩ := st
    exact ⟨o, e, fun v z => by rw [d] at z; cases z⟩
  keep := fun i h h' st k => st.at fun o e => k it (by simp) o e
  item := by
    intro X hP hw hK hc i pins s σ H E I hf st hg
    subst hP hw hK
    obtain ⟨hi, xs, hq, hn⟩ := hg
    obtain ⟨its, rv, p, hz⟩ := I.list hq
    have hl := rv.length
    have hx : xs[n - 1 - i]? = some (xs[n - 1 - i]'(by omega)) := List.getElem?_eq_getElem (by omega)
    obtain ⟨u, hu, ru⟩ := rv.get hx
    obtain ⟨f0, f1, f2, f3, f4, f5⟩ := hf it (by simp)
    have st : s.heap.IsRevIter it a ((n : Int) - 1 - (i : Nat)) := st
    rw [show (n : Int) - 1 - (i : Nat) = ((n - 1 - i : Nat) : Int) by omega] at st
    refine wpAny_pyNext_rev_item st p.isList (x := u) (by simpa using hu) fun h' st' sb => ?_
    have I1 : Inv X pins σ H { s with heap := h' } := I.turned (t' := s.toks) (fun b o hb e => (sb.2 b hb).trans e) f0 f1 f3 f4 f5
    obtain ⟨o, e, c, d⟩ := id st'
    rw [show ((n - 1 - i : Nat) : Int) - 1 = (n : Int) - 1 - ((i + 1 : Nat) : Int) by omega] at st'
    exact ⟨u, rfl, go_of (s := { s with heap := h' }) e c d (by decide) ⟨_, H, I1, ru, ⟨rfl, fun ys hy => by rw [I.list_inj hy hq]; exact hx⟩, st', fun b hb => (hf b hb).1⟩⟩
  done := by
    intro X hP hw hK hc i pins s σ H E I hf st hg
    subst hP hw hK
    obtain ⟨f0, f1, f2, f3, f4, f5⟩ := hf it (by simp)
    have hg : i = n := hg
    have st : s.heap.IsRevIter it a ((n : Int) - 1 - (i : Nat)) := st
    rw [show (n : Int) - 1 - (i : Nat) = -1 by omega] at st
    exact wpAny_pyNext_rev_end (I.ok.hd hc) st fun h' eb => ⟨rfl, I.turned (t' := s.toks) (fun b o hb e => eb b o hb e) f0 f1 f3 f4 f5⟩
  self := fun _ _ _ _ _ st h => wpAny_pyIter_revIter st h
def iRev (K : PySem.W.Frag) (ta : TA) : TI := fun σ H R => ta σ H fun vs H1 => ∃ a xs, vs = [.ref a] ∧ SqL K H1 a xs ∧ R (Itv K a xs.length) H1
theorem pi_rev {X : Cx} {tg a : Expr} {ta : TA} {p pos : Pos} (hg : Gl X "reversed") (hm : X.mg "reversed" = none) (ha : PA X [a] ta) (hs : starEach [a] X.env = [(false, eval a X.env)] := by rfl) : PI X tg (.Call (.Name "reversed" p) [a] [] pos) (iRev X.K ta) := by
  intro pins s σ H R I h
  refine Call_ (ld_blt I hg hm boot_reversed (PyProof.Rows.callWith_type1 (thn (ha pos pins s σ H _ I h) fun us s1 ⟨vs, H1, I1, r1, q1⟩ => ?_) hs rfl))
  obtain ⟨l, xs, e, hq, q⟩ := q1
  subst e
  cases r1 with
  | cons r rr =>
    cases rr
    cases r
    obtain ⟨its, rv, pl, hz⟩ := I1.list hq
    have hl := rv.length
    refine call_reversed_list pl.isList ?_
    have e1 : ((its.toArray.size : Nat) : Int) - 1 = (xs.length : Int) - 1 - ((0 : Nat) : Int) := by simp; omega
    have I2 : Inv X pins σ H1 { s1 with heap := s1.heap.push (revObj l ((its.toArray.size : Int) - 1)) } := I1.kept (t' := s1.toks) fun b o e => Heap.get?_push_of_some _ e
    have st : (s1.heap.push (revObj l ((its.toArray.size : Int) - 1))).IsRevIter s1.heap.objs.size l ((xs.length : Int) - 1 - ((0 : Nat) : Int)) := by
      rw [← e1]; exact ⟨_, Heap.get?_push_size _ rfl, rfl, rfl⟩
    refine wpAny_pyIter_revIter (s := { s1 with heap := s1.heap.push (revObj l ((its.toArray.size : Int) - 1)) }) st ?_
    refine ⟨s1.heap.objs.size, [s1.heap.objs.size], _, _, H1, rfl, I2, turn_rev l s1.heap.objs.size xs.length, st, fun b hb => ?_, q⟩
    have e : b = s1.heap.objs.size := by simpa using hb
    subst e
    exact I1.fpOk (Nat.le_refl _) (I1.hok.fresh (Nat.le_refl _))
theorem for_rev {K : PySem.W.Frag} {a : Addr} {xs : List V} {g : TG} {tb : TS} {D : Ends} {σ : St} {H : Hp} (Pv : Nat → St → Hp → Prop) (h0 : Pv 0 σ H) (hl : ∀ i σ H, i ≤ xs.length → Pv i σ H → SqL K H a xs)
    (hs : ∀ i x σ H, i < xs.length → xs[xs.length - 1 - i]? = some x → Pv i σ H → g x σ H fun σ2 H2 => tb { D with nx := Pv (i + 1), ct := Pv (i + 1), bk := D.nx } σ2 H2) (hd : ∀ σ H, Pv xs.length σ H → D.nx σ H) :
    ∃ W : Nat → Nat → St → Hp → Prop, (∃ m, W 0 m σ H) ∧ ∀ i m σ H, W i m σ H →
      ((Itv K a xs.length).stop i H ∧ D.nx σ H) ∨ ((Itv K a xs.length).go i H ∧ ∃ N : St → Hp → Prop, (∀ σ' H', N σ' H' → ∃ m', m' < m ∧ W (i + 1) m' σ' H') ∧ ∀ x H', (Itv K a xs.length).yld i H x H' → g x σ H' fun σ2 H2 => tb { D with nx := N, ct := N, bk := D.nx } σ2 H2) := by
  refine ⟨fun i m σ H => m = xs.length - i ∧ i ≤ xs.length ∧ Pv i σ H, ⟨xs.length, by simp, Nat.zero_le _, h0⟩, ?_⟩
  rintro i m σ H ⟨rfl, hi, p⟩
  have q := hl i σ H hi p
  by_cases hlt : i < xs.length
  · refine .inr ⟨⟨hlt, xs, q, rfl⟩, Pv (i + 1), fun σ' H' p' => ⟨xs.length - (i + 1), by omega, rfl, hlt, p'⟩, fun x H' y => ?_⟩
    obtain ⟨e, y⟩ := y
    subst e
    exact hs i x σ _ hlt (y xs q) p
  · have e : i = xs.length := by omega
    subst e
    exact .inl ⟨rfl, hd σ H p⟩
def MethAt (K : PySem.W.Frag) (C : Addr) (m qual : Str) (st : Stmt) : Prop := ∃ f fd, Meth K C m f ∧ Fun K m qual st f fd
theorem methAt_mk {K : PySem.W.Frag} {C : Addr} {m qual : Str} {st : Stmt} {f : Addr} {oc : Value} {od an : Option Addr} {osl : Array (Option Value)} {kV doc pm cdv ct : Value} (a : PySem.W.findIn K (.ref C) m = some (some (.ref f))) (i : PySem.W.isFn K (.ref f) = true)
    (l : K.lookup f = some ⟨oc, od, .func (PySem.W.fnOf m qual (defArgs st) (defBody st) (defScope st) .none kV doc pm an cdv ct), osl⟩) (c : PySem.W.codeIn K cdv qual = true) (k : PySem.W.keepIn K (.ref f) = true) : MethAt K C m qual st := ⟨f, _, ⟨a, i, k⟩, fun_mk l c k⟩
def MtP (P : Program) (w : World) (K : PySem.W.Frag) (mg : Str → Option Value) (base : Heap) (C : Addr) (k : Nat) (m : Str) (ps : List Str) (sp : Sp) : Prop := ∃ f fd, Meth K C m f ∧ Binds K fd ps [] ∧ FnOk P w K mg base CX0 k f fd ps sp
section
variable {P : Program} {w : World} {K : PySem.W.Frag} {mg : Str → Option Value} {base : Heap} {C : Addr}
theorem MethAt.ok {m qual : Str} {st : Stmt} {N ps : List Str} {k : Nat} {sp : Sp} (F : MethAt K C m qual st) (S : FnScope N ps (defScope st))
    (hb : ∀ (kV doc pm : Value) (an : Option Addr) (cdv ct : Value) (us : List Value), us.length = ps.length → bindArgs (PySem.W.fnOf m qual (defArgs st) (defBody st) (defScope st) .none kV doc pm an cdv ct) ⟨us, []⟩ = pure (ps.zip us))
    (len : ∀ vs H Q E, sp vs H Q E → vs.length = ps.length)
    (hbody : ∀ (f : Addr) (cdv : Value) (A : Around) (outer : List Env) (s : Shared) (H : Hp) (vs : List V) (Q : VK) (E : XK), Room k (A.deeper (envOfC qual (defScope st) s.heap.objs.size f cdv)) → sp vs H Q E →
      ∃ t, PSs (cxOf CX0 P w K mg base N qual (defScope st) f cdv A outer s H E).nox (defBody st) t ∧ t { nx := fun _ H' => Q .non H', rt := Q } (start N vs) H) : MtP P w K mg base C (k + 1) m ps sp := by
  obtain ⟨f, fd, h1, F⟩ := F
  exact ⟨f, fd, h1, F.binds hb, F.ok S len fun cdv A outer s H vs Q E => hbody f cdv A outer s H vs Q E⟩
end
section
variable {X : Cx} {C : Addr} {k : Nat} {ps : List Str} {sp : Sp} {m : Str} {o e : Expr} {es : List Expr} {ta : TE} {t : TA} {apos pos : Pos}
theorem pe_methN {pl : Sem Bool} (F : MtP X.prog X.w X.K X.mg X.base C k m ps sp) (he : PE X o ta) (c : Cls X.K C) (hr : Room k X.A) (ha : PA X (e :: es) t)
    (hst : starEach (e :: es) X.env = (false, eval e X.env) :: starEach es X.env := by rfl) (hpl : (backTo pos (starEach es X.env)).any (·.1) = false := by rfl)
    (ht : eval (.Call (.Attribute o m apos) (e :: es) [] pos) X.env = (do
      let ov ← eval o X.env
      standAt apos.atName
      let (f, first) ← holding [ov] (getMethod ov m pl)
      callWith pos f first (backTo pos (starEach (e :: es) X.env)) (backToKw pos (keywordEach [] X.env))) := by rfl) :
    PE X (.Call (.Attribute o m apos) (e :: es) [] pos) (tMeth C m sp [] E0 ta t) := by
  obtain ⟨f, fd, h1, h3, h4⟩ := F
  exact pe_meth he c h1 h4 hr h3 .nil pass0 ha hst hpl ht
end
end L2
namespace Gb
section
variable {α : Type} (nl : α) (pr : α → α → α)
def turnsT (n p : Nat) : List Bool :=
  if h : n < 2 then [] else if p < spl n then true :: turnsT (spl n) p else false :: turnsT (n - spl n) (p - spl n)
termination_by n
decreasing_by
  · exact spl_lt (by omega)
  · have := spl_pos n; omega
theorem turnsT_few {n p : Nat} (h : n < 2) : turnsT n p = [] := by rw [turnsT, dif_pos h]
theorem turnsT_low {n p : Nat} (h : 2 ≤ n) (h2 : p < spl n) : turnsT n p = true :: turnsT (spl n) p := by rw [turnsT, dif_neg (by omega), if_pos h2]
theorem turnsT_high {n p : Nat} (h : 2 ≤ n) (h2 : ¬ p < spl n) : turnsT n p = false :: turnsT (n - spl n) (p - spl n) := by rw [turnsT, dif_neg (by omega), if_neg h2]
def rise : List Bool → List α → α → α
  | u :: us, o :: os, x => rise us os (if u then pr x o else pr o x)
  | _, _, x => x
theorem rise_snoc : ∀ {us : List Bool} {os : List α} {u : Bool} {o x : α}, us.length = os.length → rise pr (us ++ [u]) (os ++ [o]) x = if u then pr (rise pr us os x) o else pr o (rise pr us os x)
  | [], [], u, o, x, _ => rfl
  | v :: us, p :: os, u, o, x, h => by
    show rise pr (us ++ [u]) (os ++ [o]) _ = _
    rw [rise_snoc (by simpa using h)]
    rfl
theorem turns_len : ∀ (j n p : Nat), n ≤ 2 ^ j → (turnsT n p).length ≤ j
  | j, n, p, h => by
    by_cases h2 : n < 2
    · rw [turnsT_few h2]; simp
    match j, h with
    | 0, h => simp at h; omega
    | j + 1, h =>
      have a1 := spl_lt (n := n) (by omega)
      have a2 := spl_ge (n := n) (by omega)
      have c : spl n ≤ 2 ^ j := by
        unfold spl
        refine Nat.pow_le_pow_right (by omega) ?_
        have : 2 ^ Nat.log2 (n - 1) < 2 ^ (j + 1) := Nat.lt_of_lt_of_le (spl_lt (by omega)) h
        have := (Nat.pow_lt_pow_iff_right (by omega : 1 < 2)).mp this
        omega
      by_cases h3 : p < spl n
      · rw [turnsT_low (by omega) h3]
        have := turns_len j (spl n) p c
        simp; omega
      · rw [turnsT_high (by omega) h3]
        have := turns_len j (n - spl n) (p - spl n) (by omega)
        simp; omega
theorem rise_take {us : List Bool} {os : List α} {i : Nat} {u : Bool} {o x : α} (hl : us.length = os.length) (hu : us[i]? = some u) (ho : os[i]? = some o) :
    rise pr (us.take (i + 1)) (os.take (i + 1)) x = if u then pr (rise pr (us.take i) (os.take i) x) o else pr o (rise pr (us.take i) (os.take i) x) := by
  have e1 : us.take (i + 1) = us.take i ++ [u] := by rw [List.take_add_one, hu]; rfl
  have e2 : os.take (i + 1) = os.take i ++ [o] := by rw [List.take_add_one, ho]; rfl
  rw [e1, e2, rise_snoc pr (by simp [hl])]
end
end Gb
namespace L2
open PySem PySem.Spec PyProof.Rows
theorem ObjOk.there {P : Program} {w : World} {H : Hp} {h : Heap} {a : Addr} {o : HO} (x : ObjOk P w H h a o) : ∃ ob, h.get? a = some ob := by
  cases o with
  | lst xs => obtain ⟨_, _, _, _, e⟩ := x; exact ⟨_, e⟩
  | tup xs => obtain ⟨_, _, _, o, e, _⟩ := x; exact ⟨_, e⟩
  | dK kvs => obtain ⟨_, _, _, _, o, _, _, e, _⟩ := x; exact ⟨_, e⟩
  | dT kvs => obtain ⟨_, _, _, _, o, _, _, e, _⟩ := x; exact ⟨_, e⟩
  | set S n => obtain ⟨o, _, _, _, e, _⟩ := x; exact ⟨_, e⟩
  | ins C dx fs => obtain ⟨_, _, _, e, _⟩ := x; exact ⟨_, e⟩
  | own y => exact x
  | xd fs => obtain ⟨_, ⟨_, _, _, e, _⟩, _⟩ := x; exact ⟨_, e⟩
  | rng lo hi => obtain ⟨_, _, _, e⟩ := x; exact ⟨_, e⟩
  | frz ob u => obtain ⟨e, _⟩ := x; exact ⟨_, e⟩
  | tbl ps => exact ⟨_, (show h.get? a = some _ from x)⟩
  | met f y => exact ⟨_, (show h.get? a = some _ from x)⟩
  | ext φ => obtain ⟨_, e, _⟩ := x; exact e
def quietIn (K : PySem.W.Frag) (N : Addr) : Bool := PySem.W.nsOkIn K N && quietNames.all fun n => PySem.W.nsIn K N n == some none
def tailQ (K : PySem.W.Frag) (bmB : List Value) : List Value → Bool
  | [] => bmB == []
  | v :: r => (v :: r == bmB) || match v with
    | .ref A => (match List.lookup A K with
      | some ⟨_, _, .cls cd, _⟩ => quietIn K cd.ns && tailQ K bmB r
      | _ => false)
    | _ => false
theorem quietIn.ns {K : PySem.W.Frag} {N : Addr} {h : Heap} (X : K.In h) (q : quietIn K N = true) : ∃ mN, h.Ns N mN ∧ ∀ n ∈ quietNames, mN n = none := by
  have q := Bool.and_eq_true_iff.mp q
  have nsI := Heap.Ns.of_isNs (PySem.W.isNs_of_in X q.1)
  refine ⟨_, nsI, fun n hn => ?_⟩
  have z := List.all_eq_true.mp q.2 n hn
  exact PySem.W.nsMap_none_of_in X q.1 (eq_of_beq z)
theorem tailQ.ok {K : PySem.W.Frag} {bmB : List Value} {h : Heap} (X : K.In h) : ∀ {l : List Value}, tailQ K bmB l = true → OwnTailQ h bmB l
  | [], q => by
    have e : bmB = [] := eq_of_beq (show (bmB == []) = true from q)
    subst e; exact .base
  | v :: r, q => by
    unfold tailQ at q
    rcases Bool.or_eq_true_iff.mp q with q | q
    · have e : v :: r = bmB := eq_of_beq q
      subst e; exact .base
    · split at q
      · split at q
        · next A _ c0 dd cd sl lk =>
          have q := Bool.and_eq_true_iff.mp q
          obtain ⟨mA, h1, h2⟩ := quietIn.ns X q.1
          exact .own (X _ _ lk) h1 h2 (tailQ.ok X q.2)
        · cases q
      · cases q
structure XCls (K : PySem.W.Frag) (C : Addr) : Prop where
  ex : ∃ (nm q : Str) (N : Addr) (bs bm bmB : List Value) (hdct : Bool) (sn : List Str) (sub : List Value) (ab : Bool) (col : Option Bool) (dd : Option Addr) (k0 k1 k2 k3 k5 : Option Value) (newId B nid initId Bn inN : String) (bmN : List Value),
    K.lookup C = some (excClassObj nm q C N bs bm hdct sn sub ab col dd k0 k1 k2 k3 k5 newId) ∧ quietIn K N = true ∧ tailQ K bmB bm = true ∧ bm.contains (Value.type "BaseException") = true ∧
    ExcBaseFacts Bn newId inN bmN ∧ bmB.contains (Value.type Bn) = true ∧ ExcBaseFacts B nid initId bmB ∧ ExcAttrBase B bmB
  ga : PySem.W.findIn K (.ref C) "__getattribute__" = some (some (.builtin "BaseException.__getattribute__"))
  gn : PySem.W.findIn K (.ref C) "__getattr__" = some none
  fo : PySem.W.findIn K (.ref C) "__class__" = some (some (.builtin "object.__class__"))
  sp : PySem.W.specialIn K (.builtin "object.__class__") "__get__" = some (some (.builtin "getset_descriptor.__get__"))
  tk : PySem.W.takesIn K (.builtin "object.__class__") = some true
  mo : PySem.W.mroIn K C (.type "object") = some true
theorem xcls_mk {K : PySem.W.Frag} {C : Addr} {nm q : Str} {N : Addr} {bs bm : List Value} {hdct : Bool} {sn : List Str} {sub : List Value} {ab : Bool} {col : Option Bool} {dd : Option Addr} {k0 k1 k2 k3 k5 : Option Value}
    (a : K.lookup C = some (excClassObj nm q C N bs bm hdct sn sub ab col dd k0 k1 k2 k3 k5 "ValueError.__new__")) (b : quietIn K N = true) (c : tailQ K [Value.type "ValueError", Value.type "Exception", Value.type "BaseException", Value.type "object"] bm = true)
    (d : bm.contains (Value.type "BaseException") = true) (ga : PySem.W.findIn K (.ref C) "__getattribute__" = some (some (.builtin "BaseException.__getattribute__"))) (gn : PySem.W.findIn K (.ref C) "__getattr__" = some none)
    (fo : PySem.W.findIn K (.ref C) "__class__" = some (some (.builtin "object.__class__"))) (sp : PySem.W.specialIn K (.builtin "object.__class__") "__get__" = some (some (.builtin "getset_descriptor.__get__")))
    (tk : PySem.W.takesIn K (.builtin "object.__class__") = some true) (mo : PySem.W.mroIn K C (.type "object") = some true) : XCls K C :=
  ⟨⟨nm, q, N, bs, bm, _, hdct, sn, sub, ab, col, dd, k0, k1, k2, k3, k5, _, _, _, _, _, _, _, a, b, c, d, F.excBase_ValueError, by decide, F.excBase_ValueError, F.attrBase_ValueError⟩, ga, gn, fo, sp, tk, mo⟩
structure IsExc (K : PySem.W.Frag) (C : Addr) (oe : Obj) : Prop where
  x : XCls K C
  cls : oe.cls = .ref C
structure Fly (P : Program) (w : World) (outer : List Env) (H H' : Hp) (s : Shared) (C ea t : Addr) (B : Heap) (s' : Shared) : Prop where
  os : s'.os = s.os
  bare : AllBare s'.gens
  fly : B.FlyingW outer ea (.ref C) (.ref t) s'.heap
  un : Un (frs outer) [] H H' s.heap s'.heap
  hok : HOk P w H' s'.heap
  old : ∀ b o, s.heap.get? b = some o → H b = none → b ∉ frs outer → B.get? b = some o
  trk : ∀ b u, H' b = some u → b ∉ frs outer ∧ ∀ o, s'.heap.get? b = some o → B.get? b = some o
  all : ∀ b o, s.heap.get? b = some o → b ∈ frs outer ∨ ∃ o', B.get? b = some o'
def CXB (P : Program) (w : World) : CXT := fun outer H s E e s' => ∃ ea t C B H', e = .ref ea ∧ Fly P w outer H H' s C ea t B s' ∧ E (.ref C) none H'
theorem funFrames_base {h b1 b2 : Heap} : ∀ {l : List Env}, h.FunFrames b1 l → (∀ a ∈ frs l, b2.get? a = none) → h.FunFrames b2 l
  | [], _, _ => trivial
  | env :: r, x, k => by
    obtain ⟨hk, ⟨L, o, hf, hn, ho, hd⟩, hr⟩ := x
    refine ⟨hk, ⟨L, o, hf, k L (by unfold frs; rw [List.filterMap_cons, hf]; exact List.mem_cons_self), ho, hd⟩, funFrames_base hr fun a ha => k a ?_⟩
    unfold frs; rw [List.filterMap_cons, hf]; exact List.mem_cons_of_mem _ ha
def Raises (X : Cx) (E : XK) : Prop := ∀ (pins : List (Addr × Obj)) (σ : St) (H : Hp) (s : Shared) (h' : Heap) (e C : Addr) (vs : List Value), Inv X pins σ H s → s.heap.MadeExcOf h' e (.ref C) vs → E (.ref C) none H → X.xe (.ref e) { s with heap := h' }
theorem raises_cx {P : Program} {w : World} {K : PySem.W.Frag} {mg : Str → Option Value} {base : Heap} {N : List Str} {qual : Str} {scope : Scope} {f : Addr} {cd : Value} {A : Around} {outer : List Env} {s : Shared} {H : Hp} {E : XK} :
    Raises (cxOf (CXB P w) P w K mg base N qual scope f cd A outer s H E) E := by
  intro pins σ H1 s1 h' e C vs I M q
  have hfr : ∀ b ∈ frs (envOfC qual scope s.heap.objs.size f cd :: outer), H1 b = none := I.stkFree
  have hB : ∀ {b o}, s1.heap.get? b = some o → b ∉ frs (envOfC qual scope s.heap.objs.size f cd :: outer) → (PySem.W.hideAll s1.heap (frs (envOfC qual scope s.heap.objs.size f cd :: outer))).get? b = some o := fun e n => PySem.W.hideAll_get _ e n
  have hsub : ∀ b ∈ frs outer, b ∈ frs (envOfC qual scope s.heap.objs.size f cd :: outer) := fun b hb => List.mem_cons_of_mem _ hb
  have hnew : ∀ b o, s.heap.get? b = some o → b ∉ frs outer → b ∉ frs (envOfC qual scope s.heap.objs.size f cd :: outer) := fun b o e n z => by
    rcases List.mem_cons.mp (show b ∈ s.heap.objs.size :: frs outer from z) with z | z
    · exact absurd (Heap.lt_size e) (by rw [z]; exact Nat.lt_irrefl _)
    · exact n z
  obtain ⟨t0, me, mt⟩ := M.there
  refine wpAny_leaves_madeW (base := PySem.W.hideAll s1.heap (frs (envOfC qual scope s.heap.objs.size f cd :: outer))) (h := s1.heap) (outer := outer) (L := s.heap.objs.size) I.ok.frames rfl (fun b o z => PySem.W.of_hideAll _ z)
    (funFrames_base I.stack fun a ha => PySem.W.hideAll_none _ ha) M fun h2 t fly tup tn up => ?_
  have keepT : ∀ b u, H1 b = some u → b ∉ frs (envOfC qual scope s.heap.objs.size f cd :: outer) := fun b u e z => by rw [hfr b z] at e; cases e
  have old : ∀ b o, s.heap.get? b = some o → H b = none → b ∉ frs outer → (PySem.W.hideAll s1.heap (frs (envOfC qual scope s.heap.objs.size f cd :: outer))).get? b = some o := fun b o e n nf =>
    hB (I.base.keep b o e n nf (fun z => absurd (show b ∈ ([] : List Addr) from z) (by simp))) (hnew b o e nf)
  have slot : ∀ b o, s.heap.get? b = some o → b ∈ frs outer → ∃ sl, h2.get? b = some { o with slots := sl } := fun b o e hb => by
    have hn : H b = none := I.ok.frf b hb
    obtain ⟨sl, e1⟩ := I.base.slot b o e hn hb (fun z => absurd (show b ∈ ([] : List Addr) from z) (by simp))
    obtain ⟨_, o2, e2, d2⟩ := I.ok.funs.mem hb
    have e2' : s.heap.get? b = some o2 := e2
    rw [e] at e2'; cases e2'
    obtain ⟨sl2, e3⟩ := up b _ (M.keeps _ _ e1) d2
    exact ⟨sl2, e3⟩
  have all : ∀ b o, s.heap.get? b = some o → b ∈ frs outer ∨ ∃ o', (PySem.W.hideAll s1.heap (frs (envOfC qual scope s.heap.objs.size f cd :: outer))).get? b = some o' := fun b o e => by
    by_cases hb : b ∈ frs outer
    · exact .inl hb
    · obtain ⟨o', e1⟩ := I.base.there b o e (fun z => absurd (show b ∈ ([] : List Addr) from z) (by simp))
      exact .inr ⟨o', hB e1 (hnew b o e hb)⟩
  refine ⟨e, t, C, _, H1, rfl, ⟨I.os, I.bare, fly, ⟨fun b o e n nf _ => fly.1 _ _ (old b o e n nf), fun b o e n hb _ => slot b o e hb, I.base.free, fun b o e _ => ?_, I.base.tups, I.base.frzs, I.base.tbls⟩, fun a u z => ?_, old, fun b u z => ⟨fun y => keepT b u z (hsub b y), fun o zo => ?_⟩, all⟩, q⟩
  · rcases all b o e with hb | ⟨o', z⟩
    · obtain ⟨sl, z⟩ := slot b o e hb
      exact ⟨_, z⟩
    · exact ⟨o', fly.1 _ _ z⟩
  · refine (I.hok a u z).stay (fun b v hb hv => fly.1 _ _ (hB hv ?_)) (fun _ y => y) fun _ _ y => y
    rcases hb with rfl | hb
    · exact keepT _ _ z
    · exact keepT _ _ hb
  · obtain ⟨o', e1⟩ := (I.hok b u z).there
    have e2 := hB e1 (keepT b u z)
    have e3 := fly.1 _ _ e2
    rw [zo] at e3; cases e3
    exact e2
end L2
namespace L2
open PySem PySem.Spec PyProof.Rows
def tRaise (C : Addr) (E : XK) (t : TA) : TS := fun D σ H => t σ H fun vs H1 => vs.length ≤ sizeLine ∧ E (.ref C) none H1
section
variable {X : Cx}
theorem ps_raise {x : Str} {C : Addr} {E : XK} {e : Expr} {es : List Expr} {t : TA} {np cpos pos : Pos} (hx : Raises X E) (hr : X.A.handled = none) (xc : XCls X.K C) (hg : Gl X x) (hm : X.mg x = some (.ref C)) (ha : PA X (e :: es) t)
    (hdb : (x == ("__debug__" : Str)) = false := by decide) (he : starEach (e :: es) X.env = (false, eval e X.env) :: starEach es X.env := by rfl) (hpl : (backTo cpos (starEach es X.env)).any (·.1) = false := by rfl) :
    PS X (.Raise (some (.Call (.Name x np) (e :: es) [] cpos)) none pos) (tRaise C E t) := by
  intro pins s σ H D I h
  obtain ⟨nm, q, N, bs, bm, bmB, hdct, sn, sub, ab, col, dd, k0, k1, k2, k3, k5, newId, B, nid, initId, Bn, inN, bmN, lk, qn, tl, has, F1, F2, F3, F4⟩ := xc.ex
  obtain ⟨mN, hN, hq⟩ := quietIn.ns I.ok.mod.kin qn
  refine wpAny_Raise_call_subU (nm := nm) (q := q) (N := N) (bs := bs) (hdct := hdct) (sn := sn) (sub := sub) (ab := ab) (col := col) (dd := dd) (k0 := k0) (k1 := k1) (k2 := k2) (k3 := k3) (k5 := k5) F1 F2 F3 (mN := mN) has hr ?_ (hq _ (by decide)) (ld_glob I hg hm ⟨rfl, ?_⟩ hdb)
  · rw [he]; simpa [backTo] using hpl
  obtain ⟨x0, hb⟩ : ∃ x0, backTo cpos (starEach (e :: es) X.env) = (false, x0) :: backTo cpos (starEach es X.env) := by rw [he]; exact ⟨_, rfl⟩
  rw [hb]
  refine Calls.evalArgs_plain ?_
  rw [← hb]
  refine thn (ha cpos pins s σ H _ I h) fun us s1 ⟨vs, H1, I1, r, hl, q1⟩ => ?_
  have X1 := I1.kIn
  exact ⟨rfl, by show us.length ≤ _; rw [← r.length]; exact hl, X1 _ _ lk, hN.keeps I1.bk, (tailQ.ok X1 tl).tail, fun h' e' M => hx pins σ H1 s1 h' e' C us I1 M q1⟩
end
section
variable {X : Cx} {pins : List (Addr × Obj)} {σ : St} {H H' : Hp} {s s' : Shared} {C ea t : Addr} {B h2 : Heap}
theorem Inv.fly (I : Inv X pins σ H s) (F : Fly X.prog X.w X.stack H H' s C ea t B s') (f2 : B.StaysIn h2) (up : s'.heap.UpToSlots h2) : Inv X pins σ H' { s' with heap := h2 } := by
  have slot : ∀ b o, s.heap.get? b = some o → H b = none → b ∈ frs X.stack → ∃ sl, h2.get? b = some { o with slots := sl } := fun b o e hn hb => by
    obtain ⟨sl, e1⟩ := F.un.slot b o e hn hb (by simp)
    obtain ⟨_, o2, e2, d2⟩ := I.stack.mem hb
    rw [e] at e2; cases e2
    obtain ⟨sl2, e3⟩ := up b _ e1 d2
    exact ⟨sl2, e3⟩
  refine I.call' (s' := { s' with heap := h2 }) (ch := []) F.os ⟨fun b o e n nf _ => f2 _ _ (F.old b o e n nf), fun b o e n hb _ => slot b o e n hb, F.un.free, fun b o e _ => ?_, F.un.tups, F.un.frzs, F.un.tbls⟩ (fun a u z => ?_) F.bare (fun b z => absurd z (by simp))
  · rcases F.all b o e with hb | ⟨o', z⟩
    · obtain ⟨sl, z⟩ := slot b o e (I.stkFree b hb) hb
      exact ⟨_, z⟩
    · exact ⟨o', f2 _ _ z⟩
  · refine (F.hok a u z).stay (fun b v hb hv => f2 _ _ ?_) (fun _ y => y) fun _ _ y => y
    rcases hb with rfl | hb
    · exact (F.trk _ _ z).2 _ hv
    · exact (F.trk _ _ hb).2 _ hv
end
abbrev XR := St → Addr → Hp → Prop
def XQ (X : Cx) (pins : List (Addr × Obj)) (R : XR) (e : Value) (s' : Shared) : Prop :=
  ∃ ea t C B H H' σ s, e = .ref ea ∧ Inv X pins σ H s ∧ Fly X.prog X.w X.stack H H' s C ea t B s' ∧ R σ C H'
abbrev TEx := St → Hp → VK → (Addr → Hp → Prop) → Prop
abbrev TSx := Ends → XR → St → Hp → Prop
def PEx (X : Cx) (e : Expr) (t : TEx) : Prop :=
  ∀ (pins : List (Addr × Obj)) (s : Shared) (σ : St) (H : Hp) (Q : VK) (R : Addr → Hp → Prop), Inv X pins σ H s → t σ H Q R → wpAny (model X.prog X.w) X.A (eval e X.env) (EP X pins σ Q) (XQ X pins fun σ' C H' => σ' = σ ∧ R C H') s
def PSx (X : Cx) (st : Stmt) (t : TSx) : Prop :=
  ∀ (pins : List (Addr × Obj)) (s : Shared) (σ : St) (H : Hp) (D : Ends) (R : XR), Inv X pins σ H s → t D R σ H → wpAny (model X.prog X.w) X.A (exec st X.env) (SP X pins D) (XQ X pins R) s
def PSsx (X : Cx) (st : List Stmt) (t : TSx) : Prop :=
  ∀ (pins : List (Addr × Obj)) (s : Shared) (σ : St) (H : Hp) (D : Ends) (R : XR), Inv X pins σ H s → t D R σ H → wpAny (model X.prog X.w) X.A (execs st X.env) (SP X pins D) (XQ X pins R) s
section
variable {X : Cx} {e : Expr} {es : List Expr} {st : Stmt} {rest : List Stmt} {pos : Pos}
theorem pssx_nil : PSsx X [] (fun D _ σ H => D.nx σ H) := fun _ _ σ H _ _ I h => wpAny_execs_nil ⟨σ, H, I, h⟩
def txSeq (t u : TSx) : TSx := fun D R σ H => t { D with nx := u D R } R σ H
theorem pssx_cons {t u : TSx} (h1 : PSx X st t) (h2 : PSsx X rest u) : PSsx X (st :: rest) (txSeq t u) := by
  intro pins s σ H D R I h
  refine wpAny_execs_cons (thn (h1 pins s σ H { D with nx := u D R } R I h) fun f s1 q => ?_)
  cases f with
  | next =>
    obtain ⟨σ', H', I', q⟩ := q
    exact h2 pins s1 σ' H' D R I' q
  | brk => exact q
  | cont => exact q
  | ret v => exact q
def txCall (sp : Sp) (t : TA) : TEx := fun σ H Q R => t σ H fun vs H1 => sp vs H1 Q (fun c _ H2 => ∃ C, c = .ref C ∧ R C H2)
theorem run_fnX {pins : List (Addr × Obj)} {σ : St} {H : Hp} {s : Shared} {Q : VK} {R : Addr → Hp → Prop} {us : List Value} {vs : List V} {k : Nat} {f : Addr} {fd : FuncData} {ps : List Str} {sp : Sp} (F : FnOk X.prog X.w X.K X.mg X.base (CXB X.prog X.w) k f fd ps sp) (hr : Room k X.A) (hb : Binds X.K fd ps [])
    (I : Inv X pins σ H s) (r : Vals vs us) (h : sp vs H Q (fun c _ H2 => ∃ C, c = .ref C ∧ R C H2)) : wpAny (model X.prog X.w) X.A (call (.ref f) us) (EP X pins σ Q) (XQ X pins fun σ' C H' => σ' = σ ∧ R C H') s := by
  have hl : us.length = ps.length := by rw [← r.length]; exact F.len _ _ _ _ h
  have hb' : BindsTo s fd ⟨us, []⟩ (ps.zip us) := by
    have z := hb s us I.kIn (by simpa using hl)
    rwa [List.append_nil] at z
  refine wpAny_call (codeAny_mono (F.run X.A X.stack s H ⟨us, []⟩ us vs Q _ hr I.env0 hb' r h) fun r s' hq => ?_)
  cases r with
  | error e =>
    obtain ⟨ea, t, C, B, H', e1, F, C', e2, q⟩ := hq
    cases e2
    exact ⟨ea, t, C, B, H, H', σ, s, e1, I, F, rfl, q⟩
  | ok fl =>
    cases fl with
    | ret u => exact I.after hq
    | next => exact False.elim hq
    | brk => exact False.elim hq
    | cont => exact False.elim hq
def FnX (P : Program) (w : World) (K : PySem.W.Frag) (mg : Str → Option Value) (base : Heap) (k : Nat) (x : Str) (ps : List Str) (sp : Sp) : Prop :=
  ∃ f fd, mg x = some (.ref f) ∧ PySem.W.keepIn K (.ref f) = true ∧ Binds K fd ps [] ∧ FnOk P w K mg base (CXB P w) k f fd ps sp ∧ ∃ oc od sl, K.lookup f = some ⟨oc, od, .func fd, sl⟩
theorem FunAt.okX {P : Program} {w : World} {K : PySem.W.Frag} {mg : Str → Option Value} {base : Heap} {x : Str} {st : Stmt} {N ps : List Str} {k : Nat} {sp : Sp} (F : FunAt K mg x st) (S : FnScope N ps (defScope st))
    (hb : ∀ (kV doc pm : Value) (an : Option Addr) (cdv ct : Value) (us : List Value), us.length = ps.length → bindArgs (PySem.W.fnOf x x (defArgs st) (defBody st) (defScope st) .none kV doc pm an cdv ct) ⟨us, []⟩ = pure (ps.zip us))
    (len : ∀ vs H Q E, sp vs H Q E → vs.length = ps.length)
    (hbody : ∀ (f : Addr) (cdv : Value) (A : Around) (outer : List Env) (s : Shared) (H : Hp) (vs : List V) (Q : VK) (E : XK), Room k (A.deeper (envOfC x (defScope st) s.heap.objs.size f cdv)) → sp vs H Q E →
      ∃ t, PSs (cxOf (CXB P w) P w K mg base N x (defScope st) f cdv A outer s H E) (defBody st) t ∧ t { nx := fun _ H' => Q .non H', rt := Q } (start N vs) H) : FnX P w K mg base (k + 1) x ps sp := by
  obtain ⟨f, fd, h1, F⟩ := F
  refine ⟨f, fd, h1, F.kp, F.binds hb, ?_, ?_⟩
  · obtain ⟨oc, od, kV, doc, pm, an, cdv, ct, osl, rfl, lk, hcd⟩ := F.ex
    exact fn_of lk hcd S len fun A outer s H vs Q E hr hsp => hbody f cdv A outer s H vs Q E hr hsp
  · obtain ⟨oc, od, kV, doc, pm, an, cdv, ct, osl, rfl, lk, hcd⟩ := F.ex
    exact ⟨_, _, _, lk⟩
theorem pex_callN {k : Nat} {x : Str} {ps : List Str} {sp : Sp} {t : TA} {p : Pos} (F : FnX X.prog X.w X.K X.mg X.base k x ps sp) (hr : Room k X.A) (hg : Gl X x) (ha : PA X.nox (e :: es) t) (hdb : (x == ("__debug__" : Str)) = false := by decide)
    (he : starEach (e :: es) X.env = (false, eval e X.env) :: starEach es X.env := by rfl) (hpl : (backTo pos (starEach es X.env)).any (·.1) = false := by rfl) : PEx X (.Call (.Name x p) (e :: es) [] pos) (txCall sp t) := by
  obtain ⟨f, fd, h1, h2, h3, h4, _⟩ := F
  intro pins s σ H Q R I h
  refine wpAny_Call_Name_kw (ld_glob I hg h1 ?_ hdb)
  refine PySem.W.callWith_K (h₀ := X.base) I.ok.mod.kin h2 (wpAny_mono (ha pos pins s σ H _ (I.wish _) h) (fun us s1 ⟨vs, H1, I1, r, q⟩ => ⟨I1.unwish.kIn, ?_⟩) fun _ _ z => False.elim z) he hpl
  exact run_fnX h4 hr h3 I1.unwish r q
end
end L2
namespace L2
open PySem PySem.Spec PyProof.Rows
abbrev Cx.hand (X : Cx) (e : Addr) : Cx := { X with A := X.A.mark (some (.ref e)), calm := false }
section
variable {X : Cx} {pins : List (Addr × Obj)} {σ : St} {H : Hp} {s : Shared} {ea : Addr}
theorem Cx.Ok.hand (ok : X.Ok) (e : Addr) : (X.hand e).Ok :=
  ⟨ok.mod, ok.kind, ok.glob, ok.blt, ok.above, ok.inj, ok.has, ok.cab, (fun z => by cases z), ok.frames, ok.stk, ok.exf, ok.bs, ok.bsz, ok.noex, ok.exfs, ok.funs, ok.frf⟩
theorem Inv.hand (I : Inv X pins σ H s) (e : Addr) : Inv (X.hand e) pins σ H s := ⟨I.ok.hand e, I.os, I.bare, I.base, I.loc, I.cell, I.free, I.freeC, I.pin, I.hok, I.len⟩
theorem Inv.unhand (ok : X.Ok) (I : Inv (X.hand ea) pins σ H s) : Inv X pins σ H s := ⟨ok, I.os, I.bare, I.base, I.loc, I.cell, I.free, I.freeC, I.pin, I.hok, I.len⟩
theorem Inv.track' {a : Addr} {o : Obj} (I : Inv X pins σ H s) (ho : s.heap.get? a = some o) (h0 : H a = none) (h1 : a ≠ X.env.locals) (h4 : ∀ x c, X.env.cells.lookup x = some c → c ≠ a) (h5 : ∀ p ∈ X.pn ++ pins, p.1 ≠ a) (hs : X.s₀.heap.get? a = none) :
    Inv X pins σ (upd H a (.frz o (.own 0))) s := by
  refine ⟨I.ok, I.os, I.bare, ⟨I.base.keep, I.base.slot, fun b ob e n hx => ?_, I.base.there, fun b xs e => ?_, fun b ob u e => ?_, fun b ps e => ?_⟩, I.loc, I.cell, ?_, fun x c e => ?_, fun p hp => ?_, ?_, I.len⟩
  · have z : b ≠ a := fun z => by rw [z, hs] at e; cases e
    rw [upd_ne z]; exact I.base.free b ob e n hx
  · have q := I.base.tups b xs e
    rw [upd_ne (ne_of_none q h0)]; exact q
  · have q := I.base.frzs b ob u e
    rw [upd_ne (ne_of_none q h0)]; exact q
  · obtain ⟨more, q⟩ := I.base.tbls b ps e
    exact ⟨more, by rw [upd_ne (ne_of_none q h0)]; exact q⟩
  · rw [upd_ne (Ne.symm h1)]; exact I.free
  · rcases I.freeC x c e with z | ⟨z1, ob, z⟩
    · left; rw [upd_ne (h4 x c e)]; exact z
    · right; exact ⟨z1, ob, by rw [upd_ne (h4 x c e)]; exact z⟩
  · obtain ⟨e, n, ne, nf, d⟩ := I.pin p hp
    exact ⟨e, by rw [upd_ne (h5 p hp)]; exact n, ne, nf, d⟩
  · exact I.hok.track ho h0
end
theorem UpToSlots.trans {a b c : Heap} (x : a.UpToSlots b) (y : b.UpToSlots c) : a.UpToSlots c := fun p o e d => by
  obtain ⟨sl, e1⟩ := x p o e d
  obtain ⟨sl2, e2⟩ := y p _ e1 d
  exact ⟨sl2, e2⟩
section
variable {X : Cx}
theorem land_ok {pins : List (Addr × Obj)} {σ0 : St} {H0 H' : Hp} {s0 s1 : Shared} {C ea t : Addr} {B : Heap} {x : Str} {np hpos : Pos} {rest : List ExceptHandler} {name : Option Str} {suite : List Stmt} {Q : Flow → Shared → Prop}
    (hex : X.ex = []) (hst : X.stack = X.env :: X.outer ∧ X.env.frame = some X.env.locals) (xc : XCls X.K C) (hg : Gl X x) (hm : X.mg x = some (.ref C)) (hdb : (x == ("__debug__" : Str)) = false)
    (I0 : Inv X pins σ0 H0 s0) (F : Fly X.prog X.w X.stack H0 H' s0 C ea t B s1)
    (h : ∀ (s3 : Shared), (∀ {Q' : Unit → Shared → Prop} {E' : Value → Shared → Prop}, (∀ s4 oe, Inv X pins σ0 H' s4 → Inv X pins σ0 (upd H' ea (.frz oe (.own 0))) s4 → H' ea = none → IsExc X.K C oe → Q' () s4) → wpAny (model X.prog X.w) (X.A.mark (some (.ref ea))) (setFlight (.ref ea) none) Q' E' s3) →
      codeAny (model X.prog X.w) (X.A.mark (some (.ref ea))) (.handlers (.ref ea) [.ExceptHandler none name suite hpos] X.env) (fun r s₂ => match r with
        | .ok f => match name with
          | none => Q f s₂
          | some n => wpAny (model X.prog X.w) X.A (do bindName X.env n Value.none; unbindBehindTheSuite X.env n hpos) (fun _ s₃ => Q f s₃) X.xe s₂
        | .error x => cameBackBy (model X.prog X.w) X.A X.env X.xe x s₂) s3) :
    wpAny (model X.prog X.w) X.A (noteFrame (.ref ea) X.env) (fun _ s₂ => wpAny (model X.prog X.w) X.A (setFlight (.ref ea) none) (fun _ s₃ => wpAny (model X.prog X.w) X.A (handleBy (.ref ea) X.env (.ExceptHandler (some (.Name x np)) name suite hpos :: rest)) Q X.xe s₃) X.xe s₂) X.xe s1 := by
  have hfl : B.FlyingW (X.env :: X.outer) ea (.ref C) (.ref t) s1.heap := by rw [← hst.1]; exact F.fly
  refine wpAny_looks_onW (base := B) (env := X.env) (outer := X.outer) (by rw [I0.ok.frames, hst.1]) hst.2 hfl fun h2 held up => ?_
  refine wpAny_landsW (s := { s1 with heap := h2 }) held fun h3 fly3 up3 => ?_
  have up13 : s1.heap.UpToSlots h3 := UpToSlots.trans up up3
  have I3 : Inv X pins σ0 H' { s1 with heap := h3 } := I0.fly F fly3.1 up13
  obtain ⟨st3, hne, ff3, tr3⟩ := id fly3
  obtain ⟨oe, vs, T, oT, ts, he, ⟨hc, h0⟩, hd, _⟩ := id tr3
  obtain ⟨nm, q, N, bs, bm, bmB, hdct, sn, sub, ab, col, dd, k0, k1, k2, k3, k5, newId, B', nid, initId, Bn, inN, bmN, lk, qn, tl, has, F1, F2, F3, F4⟩ := xc.ex
  refine wpAny_handleBy_cons (codeAny_handlers_test ?_) (by nofun)
  refine ld_glob (X := X.hand ea) (I3.hand ea) hg hm ?_ hdb
  refine wpAny_excMatches_sub_self (I3.kIn _ _ lk) he hc has ?_
  refine h { s1 with heap := h3 } fun {Q' E'} k => ?_
  refine wpAny_setFlight_noneW (s := { s1 with heap := h3 }) (base := B) (l := X.env :: X.outer) (fl := .none) st3 ff3 tr3 fun h4 st4 ff4 tr4 k4 => ?_
  have up34 : h3.UpToSlots h4 := fun b o e d => ⟨o.slots, k4 b o e d⟩
  have I4 : Inv X pins σ0 H' { s1 with heap := h4 } := I0.fly F st4 (UpToSlots.trans up13 up34)
  obtain ⟨oe4, vs4, T4, oT4, ts4, he4, ⟨hc4, h04⟩, hd4, _⟩ := id tr4
  have n0 : H' ea = none := by
    cases z : H' ea with
    | none => rfl
    | some u =>
      obtain ⟨_, y⟩ := F.trk ea u z
      obtain ⟨_, _, _, tr⟩ := F.fly
      obtain ⟨o1, _, _, _, _, e1, _⟩ := tr
      have := y _ e1
      rw [F.fly.2.1] at this; cases this
  have nst : ea ∉ frs X.stack := fun z => by
    obtain ⟨_, o, e, d⟩ := I4.stack.mem z
    have e' : h4.get? ea = some o := e
    rw [he4] at e'; cases e'
    exact d _ hd4
  have nall : s0.heap.get? ea = none := by
    cases z : s0.heap.get? ea with
    | none => rfl
    | some o =>
      rcases F.all ea o z with y | ⟨o', y⟩
      · exact absurd y nst
      · rw [F.fly.2.1] at y; cases y
  refine k _ oe4 I4 (I4.track' he4 n0 (fun z => ?_) (fun y c e z => ?_) (fun p hp z => ?_) ?_) n0 ⟨xc, hc4⟩
  · obtain ⟨m, ⟨o, es, ep, e, d, _⟩, _⟩ := I4.loc
    have e' : h4.get? X.env.locals = some o := e
    rw [← z, he4] at e'; cases e'
    rw [hd4] at d; cases d
  · obtain ⟨v, o, e', d⟩ := I4.cell y c e
    have e' : h4.get? c = some o := e'
    rw [z, he4] at e'; cases e'
    rw [hd4] at d; cases d
  · obtain ⟨e, _⟩ := I0.pin p hp
    rw [z, nall] at e; cases e
  · cases z : X.s₀.heap.get? ea with
    | none => rfl
    | some o =>
      obtain ⟨o', e⟩ := I0.base.there ea o z (by rw [hex]; simp)
      rw [nall] at e; cases e
def tTry0 (C : Addr) (tb : TSx) (th : TS) : TS := fun D σ H => tb D (fun σ' C' H' => C' = C ∧ th D σ' H') σ H
theorem ps_try0 {x : Str} {C : Addr} {body suite : List Stmt} {b₀ : Stmt} {tb : TSx} {th : TS} {np hpos pos : Pos} (hex : X.ex = []) (hst : X.stack = X.env :: X.outer ∧ X.env.frame = some X.env.locals)
    (xc : XCls X.K C) (hg : Gl X x) (hm : X.mg x = some (.ref C)) (hb : PSsx X body tb) (hh : ∀ e, PSs (X.hand e).nox (b₀ :: suite) th) (hdb : (x == ("__debug__" : Str)) = false := by decide) :
    PS X (.Try body [.ExceptHandler (some (.Name x np)) none (b₀ :: suite) hpos] [] [] pos) (tTry0 C tb th) := by
  intro pins s σ H D I h
  refine wpAny_Try_except (wpAny_mono (hb pins s σ H D _ I h) (fun f s1 q => ?_) fun e s1 q => ?_)
  · cases f with
    | next => exact wpAny_execs_nil q
    | brk => exact q
    | cont => exact q
    | ret u => exact q
  · obtain ⟨ea, t, C', B, H0, H', σ', s0, rfl, I0, F, rfl, q⟩ := q
    refine land_ok hex hst xc hg hm hdb I0 F fun s3 k => codeAny_handlers_suite (k fun s4 oe I4 I5 n0 ix => ?_)
    refine wpAny_mono (hh ea pins s4 _ _ D ((I4.hand ea).wish _) q) (fun f s7 q7 => ?_) fun _ _ z => z.elim
    cases f with
    | next => obtain ⟨σ7, H7, I7, q⟩ := q7; exact ⟨_, _, I7.unwish.unhand I0.ok, q⟩
    | brk => obtain ⟨σ7, H7, I7, q⟩ := q7; exact ⟨_, _, I7.unwish.unhand I0.ok, q⟩
    | cont => obtain ⟨σ7, H7, I7, q⟩ := q7; exact ⟨_, _, I7.unwish.unhand I0.ok, q⟩
    | ret u => obtain ⟨v, σ7, H7, I7, r, q⟩ := q7; exact ⟨v, _, _, I7.unwish.unhand I0.ok, r, q⟩
end
end L2
namespace L2
open PySem PySem.Spec PyProof.Rows
theorem stop_ok {α : Type} {M : Model} {A : Around} {E : Value → Shared → Prop} {s : Shared} {Q : α → Shared → Prop} (hh : A.handled = none)
    (h : ∀ (h' : Heap) (e : Addr), (∀ b o, s.heap.get? b = some o → h'.get? b = some o) → (∃ o, h'.get? e = some o ∧ o.cls = .type "StopIteration") → E (.ref e) { s with heap := h' }) :
    wpAny M A (Builtin.SmallTypes.stopIteration : Sem α) Q E s := by
  unfold Builtin.SmallTypes.stopIteration newExc
  refine wpAny_bind (wpAny_bind (wpAny_newTuple ?_))
  rw [firstArgMember.eq_1]
  refine wpAny_bind (wpAny_bind (wpAny_pure (wpAny_pure ?_)))
  refine wpAny_newObj_type ?_ (by show sizeOk (.fields _); unfold sizeOk; rw [show ownMembersOf (Value.type "StopIteration") [] = #[] by kernel_rfl]; show (6 : Nat) ≤ _; decide)
  refine wpAny_raiseNew_none hh (h _ _ (fun b o e => Heap.get?_push_of_some _ (Heap.get?_push_of_some _ e)) ⟨_, Heap.get?_push_size _ rfl, rfl⟩)
theorem next_rev_item {prog : Program} {w : World} {A : Around} {E : Value → Shared → Prop} {s : Shared} {it l : Addr} {i : Nat} {items : Array Value} {x : Value} {Q : Value → Shared → Prop}
    (st : s.heap.IsRevIter it l i) (p : s.heap.IsList l items) (hx : items[i]? = some x) (h : ∀ h' : Heap, h'.IsRevIter it l ((i : Int) - 1) → Heap.SameBut it s.heap h' → Q x { s with heap := h' }) :
    wpAny (model prog w) A (Builtin.SmallTypes.nextOf (.ref it)) Q E s := by
  unfold Builtin.SmallTypes.nextOf
  obtain ⟨⟨oc, od, oda, osl⟩, e, c, d⟩ := id st
  cases d
  refine wpAny_bind (wpAny_callSpecial?_slot (T := "list_reverseiterator") ⟨_, e, c⟩ F.slot_lri_next ?_)
  refine wpAny_call (codeAny_call_builtin F.slot_lri_next.plain F.entry_lri_next ?_)
  refine F.slot_lri_next.check _ _ _ _ _ _ _ _ ⟨_, e, c⟩ (F.args_lri_next_1 _) ?_
  unfold Builtin.«list_reverseiterator.__next__»
  refine wpAny_bind (wpAny_pure ?_)
  refine wpAny_bind (wpAny_field e rfl rfl ?_)
  show wpAny _ _ (ite _ _ _) _ _ _
  rw [if_neg (by omega)]
  refine wpAny_bind (wpAny_field e rfl rfl ?_)
  obtain ⟨ol, el, cl, nl, dl⟩ := id p
  refine wpAny_bind (wpAny_seqItems el dl ?_)
  dsimp only
  rw [show items[(i : Int).toNat]? = some x from hx]
  refine wpAny_bind (wpAny_setField e rfl (by simp) ?_)
  refine wpAny_pure ?_
  refine wpAny_pure ?_
  have gs := Heap.get?_update_self (h := s.heap) (Obj.mapFields fun y => y.setIfInBounds 1 (rawInt ((i : Int) - 1))) e rfl
  exact h _ ⟨_, gs, c, rfl⟩ (Heap.SameBut.update _ _ _)
theorem next_rev_end {prog : Program} {w : World} {A : Around} {E : Value → Shared → Prop} {s : Shared} {it l : Addr} {Q : Value → Shared → Prop} (hh : A.handled = none)
    (st : s.heap.IsRevIter it l (-1)) (h : ∀ (h' : Heap) (e : Addr), (∀ b o, s.heap.get? b = some o → h'.get? b = some o) → (∃ o, h'.get? e = some o ∧ o.cls = .type "StopIteration") → E (.ref e) { s with heap := h' }) :
    wpAny (model prog w) A (Builtin.SmallTypes.nextOf (.ref it)) Q E s := by
  unfold Builtin.SmallTypes.nextOf
  obtain ⟨⟨oc, od, oda, osl⟩, e, c, d⟩ := id st
  cases d
  refine wpAny_bind (wpAny_callSpecial?_slot (T := "list_reverseiterator") ⟨_, e, c⟩ F.slot_lri_next ?_)
  refine wpAny_call (codeAny_call_builtin F.slot_lri_next.plain F.entry_lri_next ?_)
  refine F.slot_lri_next.check _ _ _ _ _ _ _ _ ⟨_, e, c⟩ (F.args_lri_next_1 _) ?_
  unfold Builtin.«list_reverseiterator.__next__»
  refine wpAny_bind (wpAny_pure ?_)
  refine wpAny_bind (wpAny_field e rfl rfl ?_)
  show wpAny _ _ (ite _ _ _) _ _ _
  rw [if_pos (by decide)]
  refine wpAny_bind (wpAny_rule ?_)
  refine wpAny_bind (stop_ok hh fun h' e' k x => ?_)
  exact h h' e' k x
structure ZipSt (h : Heap) (z TI TO i1 i2 l1 l2 : Addr) (k1 : Int) (k2 : Nat) (f0 : Value) : Prop where
  z : IsZip h z TI TO f0
  ti : IsPair h TI (.ref i1) (.ref i2)
  to : ∃ a b, IsPair h TO a b
  r : h.IsRevIter i1 l1 k1
  l : h.IsListIter i2 l2 k2
theorem zip_item {prog : Program} {w : World} {A : Around} {E : Value → Shared → Prop} {s : Shared} {z TI TO i1 i2 l1 l2 : Addr} {k1 k2 : Nat} {xs ys : Array Value} {x y : Value} {Q : Option Value → Shared → Prop}
    (ap : ZipApart z TI TO i1 i2 l1 l2) (st : ZipSt s.heap z TI TO i1 i2 l1 l2 k1 k2 .none) (p1 : s.heap.IsList l1 xs) (p2 : s.heap.IsList l2 ys) (hx : xs[k1]? = some x) (hy : ys[k2]? = some y)
    (h : ∀ h' : Heap, ZipSt h' z TI TO i1 i2 l1 l2 ((k1 : Int) - 1) (k2 + 1) (rawInt s.heap.objs.size) → IsPair h' s.heap.objs.size x y → (∀ c o, c ≠ z → c ≠ TO → c ≠ i1 → c ≠ i2 → s.heap.get? c = some o → h'.get? c = some o) → Q (some (.ref s.heap.objs.size)) { s with heap := h' }) :
    wpAny (model prog w) A (pyNext (.ref z)) Q E s := by
  obtain ⟨hz, hti, ⟨a, b, hto⟩, hr, hl⟩ := st
  unfold pyNext
  refine wpAny_bind (wpAny_attempt (wpAny_callSpecial?_slot (T := "zip") ⟨_, hz, rfl⟩ F.slot_zip_next ?_))
  refine wpAny_call (codeAny_call_builtin F.slot_zip_next.plain F.entry_zip_next ?_)
  refine F.slot_zip_next.check _ _ _ _ _ _ _ _ ⟨_, hz, rfl⟩ (F.args_zip_next_1 _) ?_
  unfold Builtin.«zip.__next__»
  refine wpAny_bind (wpAny_pure ?_)
  refine wpAny_bind (wpAny_field hz rfl rfl ?_)
  refine wpAny_bind (wpAny_field hz rfl rfl ?_)
  refine wpAny_bind (wpAny_seqItems hti rfl ?_)
  dsimp only
  rw [if_neg (by simp)]
  refine wpAny_bind ?_
  unfold Builtin.SmallTypes.ownedTupleIsFree
  refine wpAny_bind (wpAny_field hz rfl rfl ?_)
  refine wpAny_pure ?_
  rw [if_pos rfl]
  refine wpAny_bind (wpAny_rule ?_)
  refine wpAny_bind (wpAny_field hz rfl rfl ?_)
  refine wpAny_bind (wpAny_setField_rec hz (by simp) fun h1 hz1 sb1 => ?_)
  refine wpAny_bind ?_
  show wpAny _ _ (forIn [(Value.ref i1, 0), (Value.ref i2, 1)] _ _) _ _ _
  rw [List.forIn_cons]
  refine wpAny_bind ?_
  refine wpAny_bind (wpAny_onRaise ?_)
  show wpAny _ _ (do let v ← Builtin.SmallTypes.nextOf (.ref i1); pure (some v)) _ _ _
  have hr1 : h1.IsRevIter i1 l1 k1 := hr.at fun o e => (sb1.2 i1 ap.i1z).trans e
  have p11 : h1.IsList l1 xs := by obtain ⟨o, e, r⟩ := p1; exact ⟨o, (sb1.2 l1 ap.l1z).trans e, r⟩
  refine wpAny_bind (next_rev_item (s := { s with heap := h1 }) hr1 p11 hx fun h2 hr2 sb2 => ?_)
  refine wpAny_pure ?_
  have hto2 : IsPair h2 TO a b := (sb2.2 TO ap.TOi1).trans ((sb1.2 TO ap.TOz).trans hto)
  refine wpAny_bind (wpAny_seqItems hto2 rfl ?_)
  refine wpAny_bind (wpAny_updateSeq_pair (s := { s with heap := h2 }) hto2 fun h3 hto3 sb3 => ?_)
  refine wpAny_bind (wpAny_letGo ?_)
  refine wpAny_pure ?_
  show wpAny _ _ (forIn [(Value.ref i2, 1)] _ _) _ _ _
  rw [List.forIn_cons]
  refine wpAny_bind ?_
  refine wpAny_bind (wpAny_onRaise ?_)
  show wpAny _ _ (do let v ← Builtin.SmallTypes.nextOf (.ref i2); pure (some v)) _ _ _
  have k13 : ∀ c o, c ≠ z → c ≠ TO → c ≠ i1 → s.heap.get? c = some o → h3.get? c = some o := fun c o n1 n2 n3 e => (sb3.2 c n2).trans ((sb2.2 c n3).trans ((sb1.2 c n1).trans e))
  have hl3 : h3.IsListIter i2 l2 k2 := by obtain ⟨o, e, r⟩ := hl; exact ⟨o, k13 i2 o ap.i2z (Ne.symm ap.TOi2) (Ne.symm ap.i12) e, r⟩
  have p23 : h3.IsList l2 ys := by obtain ⟨o, e, r⟩ := p2; exact ⟨o, k13 l2 o ap.l2z ap.l2TO ap.l2i1 e, r⟩
  refine wpAny_bind (wpAny_nextOf_list_item (s := { s with heap := h3 }) hl3 p23 hy fun h4 hl4 sb4 => ?_)
  refine wpAny_pure ?_
  have hto4 : IsPair h4 TO x b := (sb4.2 TO ap.TOi2).trans hto3
  refine wpAny_bind (wpAny_seqItems hto4 rfl ?_)
  refine wpAny_bind (wpAny_updateSeq_pair (s := { s with heap := h4 }) hto4 fun h5 hto5 sb5 => ?_)
  refine wpAny_bind (wpAny_letGo ?_)
  refine wpAny_pure ?_
  show wpAny _ _ (forIn ([] : List (Value × Nat)) _ _) _ _ _
  rw [List.forIn_nil]
  refine wpAny_pure ?_
  have hto5 : IsPair h5 TO x y := hto5
  refine wpAny_bind (wpAny_seqItems hto5 rfl ?_)
  refine wpAny_bind (wpAny_newTuple ?_)
  have hz5 : h5.get? z = some { cls := .type "zip", data := .fields #[.ellipsis, .bool false, .bool false, .ref TI, .ref TO] } :=
    (sb5.2 z (Ne.symm ap.TOz)).trans ((sb4.2 z (Ne.symm ap.i2z)).trans ((sb3.2 z (Ne.symm ap.TOz)).trans ((sb2.2 z (Ne.symm ap.i1z)).trans hz1)))
  refine wpAny_bind ?_
  unfold Builtin.SmallTypes.ownedTupleHandOut
  refine wpAny_bind (wpAny_setField_rec (Heap.get?_push_of_some _ hz5) (by simp) fun h6 hz6 sb6 => ?_)
  refine wpAny_setField_rec (s := { s with heap := h6 }) hz6 (by simp) fun h7 hz7 sb7 => ?_
  refine wpAny_pure ?_
  refine wpAny_pure ?_
  have sz : h5.objs.size = s.heap.objs.size := by rw [sb5.1, show _ = _ from sb4.1, show _ = _ from sb3.1, show _ = _ from sb2.1, sb1.1]
  have k15 : ∀ c o, c ≠ z → c ≠ TO → c ≠ i1 → c ≠ i2 → s.heap.get? c = some o → h5.get? c = some o := fun c o n1 n2 n3 n4 e => (sb5.2 c n2).trans ((sb4.2 c n4).trans (k13 c o n1 n2 n3 e))
  have k57 : ∀ c o, c ≠ z → h5.get? c = some o → h7.get? c = some o := fun c o n1 e => (sb7.2 c n1).trans ((sb6.2 c n1).trans (Heap.get?_push_of_some _ e))
  have nz : h5.objs.size ≠ z := fun e => absurd (Heap.lt_size hz5) (by rw [← e]; exact Nat.lt_irrefl _)
  have fin := h h7 ⟨by rw [← sz]; exact hz7, k57 _ _ ap.TIz (k15 _ _ ap.TIz ap.TITO ap.TIi1 ap.TIi2 hti), ⟨x, y, k57 _ _ ap.TOz hto5⟩, ?_, ?_⟩ ?_ fun c o n1 n2 n3 n4 e => k57 c o n1 (k15 c o n1 n2 n3 n4 e)
  · show Q (some (.ref h5.objs.size)) _
    rw [sz]; exact fin
  · obtain ⟨o, e, r⟩ := hr2
    exact ⟨o, k57 _ _ ap.i1z ((sb5.2 i1 (Ne.symm ap.TOi1)).trans ((sb4.2 i1 ap.i12).trans ((sb3.2 i1 (Ne.symm ap.TOi1)).trans e))), r⟩
  · obtain ⟨o, e, r⟩ := hl4
    exact ⟨o, k57 _ _ ap.i2z ((sb5.2 i2 (Ne.symm ap.TOi2)).trans e), r⟩
  · rw [← sz]
    exact (sb7.2 _ nz).trans ((sb6.2 _ nz).trans (Heap.get?_push_size _ rfl))
theorem zip_end {prog : Program} {w : World} {A : Around} {E : Value → Shared → Prop} {s : Shared} {z TI TO i1 i2 l1 l2 : Addr} {k2 : Nat} {Q : Option Value → Shared → Prop} (hh : A.handled = none)
    (ap : ZipApart z TI TO i1 i2 l1 l2) (st : ZipSt s.heap z TI TO i1 i2 l1 l2 (-1) k2 .none) (h : ∀ h' : Heap, (∀ c o, c ≠ z → s.heap.get? c = some o → h'.get? c = some o) → Q none { s with heap := h' }) :
    wpAny (model prog w) A (pyNext (.ref z)) Q E s := by
  obtain ⟨hz, hti, ⟨a, b, hto⟩, hr, hl⟩ := st
  unfold pyNext
  refine wpAny_bind (wpAny_attempt (wpAny_callSpecial?_slot (T := "zip") ⟨_, hz, rfl⟩ F.slot_zip_next ?_))
  refine wpAny_call (codeAny_call_builtin F.slot_zip_next.plain F.entry_zip_next ?_)
  refine F.slot_zip_next.check _ _ _ _ _ _ _ _ ⟨_, hz, rfl⟩ (F.args_zip_next_1 _) ?_
  unfold Builtin.«zip.__next__»
  refine wpAny_bind (wpAny_pure ?_)
  refine wpAny_bind (wpAny_field hz rfl rfl ?_)
  refine wpAny_bind (wpAny_field hz rfl rfl ?_)
  refine wpAny_bind (wpAny_seqItems hti rfl ?_)
  dsimp only
  rw [if_neg (by simp)]
  refine wpAny_bind ?_
  unfold Builtin.SmallTypes.ownedTupleIsFree
  refine wpAny_bind (wpAny_field hz rfl rfl ?_)
  refine wpAny_pure ?_
  rw [if_pos rfl]
  refine wpAny_bind (wpAny_rule ?_)
  refine wpAny_bind (wpAny_field hz rfl rfl ?_)
  refine wpAny_bind (wpAny_setField_rec hz (by simp) fun h1 hz1 sb1 => ?_)
  refine wpAny_bind ?_
  show wpAny _ _ (forIn [(Value.ref i1, 0), (Value.ref i2, 1)] _ _) _ _ _
  rw [List.forIn_cons]
  refine wpAny_bind ?_
  refine wpAny_bind (wpAny_onRaise ?_)
  show wpAny _ _ (do let v ← Builtin.SmallTypes.nextOf (.ref i1); pure (some v)) _ _ _
  have hr1 : h1.IsRevIter i1 l1 (-1) := hr.at fun o e => (sb1.2 i1 ap.i1z).trans e
  refine wpAny_bind (next_rev_end (s := { s with heap := h1 }) hh hr1 fun h2 e k2 ⟨oe, he, hc⟩ => ?_)
  refine wpAny_setField_rec (s := { s with heap := h2 }) (k2 _ _ hz1) (by simp) fun h3 hz3 sb3 => ?_
  have ne : e ≠ z := fun q => by
    have q1 := k2 _ _ hz1
    rw [← q, he] at q1
    have q2 := congrArg Obj.cls (Option.some.inj q1)
    rw [hc] at q2
    exact absurd q2 (by simp)
  have he3 : h3.get? e = some oe := (sb3.2 e ne).trans he
  dsimp only
  refine wpAny_bind ?_
  unfold isInstance
  refine wpAny_bind (wpAny_typeOf_ref (s := { s with heap := h3 }) he3 ?_)
  rw [hc, isSubtype_stop]
  refine wpAny_pure ?_
  refine wpAny_pure ?_
  exact h h3 fun c o n e => (sb3.2 c n).trans (k2 _ _ ((sb1.2 c n).trans e))
theorem call_zip_rev {prog : Program} {w : World} {A : Around} {E : Value → Shared → Prop} {s : Shared} {r l1 l2 : Addr} {k1 : Int} {ys : Array Value} {Q : Value → Shared → Prop} (hr : s.heap.IsRevIter r l1 k1) (hl : s.heap.IsList l2 ys)
    (h : ∀ (h' : Heap), ZipSt h' (s.heap.objs.size + 3) (s.heap.objs.size + 1) (s.heap.objs.size + 2) r s.heap.objs.size l1 l2 k1 0 .none → (∀ c o, s.heap.get? c = some o → h'.get? c = some o) → Q (.ref (s.heap.objs.size + 3)) { s with heap := h' }) :
    wpAny (model prog w) A (call (.type "zip") [.ref r, .ref l2]) Q E s := by
  refine callType_new F.called_zip (by decide) (F.typeCall_zip_2 _ _) (F.newCall_zip_2 _ _) (fun obj => F.args_object_init_3 obj _ _) F.entry_zip_new
    (S := fun _ R s => s.heap.IsRevIter r l1 k1 ∧ s.heap.IsList l2 ys ∧ ∀ (h' : Heap), ZipSt h' (s.heap.objs.size + 3) (s.heap.objs.size + 1) (s.heap.objs.size + 2) r s.heap.objs.size l1 l2 k1 0 .none → (∀ c o, s.heap.get? c = some o → h'.get? c = some o) → R (.ok (.ret (.ref (s.heap.objs.size + 3)))) { s with heap := h' }) ?_ ⟨hr, hl, fun h' z k => ⟨⟨_, z.z, rfl⟩, h h' z k⟩⟩
  intro prog w A R s ⟨hr, hl, h⟩
  unfold Builtin.«zip.__new__»
  refine wpAny_bind ?_
  unfold Builtin.SmallTypes.newClass
  dsimp only
  refine wpAny_bind (wpAny_pure ?_)
  rw [if_neg (by simp)]
  rw [sub_zip]
  refine wpAny_bind (wpAny_pure ?_)
  rw [if_neg (by simp)]
  refine wpAny_pure ?_
  dsimp only
  rw [if_neg (by simp)]
  refine wpAny_bind ?_
  unfold Builtin.SmallTypes.iterAll
  refine wpAny_bind ?_
  rw [List.forIn_cons]
  refine wpAny_bind (wpAny_bind (wpAny_holding (wpAny_pyIter_revIter hr (wpAny_pure ?_))))
  show wpAny _ _ (forIn [Value.ref l2] _ _) _ _ _
  rw [List.forIn_cons]
  refine wpAny_bind (wpAny_bind (wpAny_holding (wpAny_pyIter_list hl (wpAny_pure ?_))))
  show wpAny _ _ (forIn ([] : List Value) _ _) _ _ _
  rw [List.forIn_nil]
  refine wpAny_pure (wpAny_pure ?_)
  refine wpAny_bind (wpAny_newTuple ?_ (by show (2 : Nat) ≤ _; decide))
  refine wpAny_bind (wpAny_newTuple ?_ (by show (2 : Nat) ≤ _; decide))
  refine wpAny_bind ?_
  unfold Builtin.SmallTypes.newRecord
  refine wpAny_newObj_type ?_ (by show (5 : Nat) ≤ _; decide)
  refine wpAny_pure ?_
  have sz1 : ∀ (h : Heap) (o : Obj), (h.push o).objs.size = h.objs.size + 1 := fun h o => by simp [Heap.push]
  have e0 : ∀ (h : Heap) (o : Obj), o.isFreed = false → (h.push o).get? h.objs.size = some o := fun h o q => Heap.get?_push_size _ q
  dsimp only
  simp only [sz1]
  refine h _ ⟨?_, ?_, ⟨.none, .none, ?_⟩, ?_, ?_⟩ (fun c o e => Heap.get?_push_of_some _ (Heap.get?_push_of_some _ (Heap.get?_push_of_some _ (Heap.get?_push_of_some _ e))))
  · have := e0 (((s.heap.push { cls := .type "list_iterator", data := .fields #[.ref l2, .int 0 0] }).push { cls := .type "tuple", data := .seq #[.ref r, .ref s.heap.objs.size] }).push { cls := .type "tuple", data := .seq #[.none, .none] })
      { cls := .type "zip", data := .fields #[.none, .bool false, .bool false, .ref (s.heap.objs.size + 1), .ref (s.heap.objs.size + 1 + 1)] } rfl
    simp only [sz1] at this
    exact this
  · have := e0 ((s.heap.push { cls := .type "list_iterator", data := .fields #[.ref l2, .int 0 0] })) { cls := .type "tuple", data := .seq #[.ref r, .ref s.heap.objs.size] } rfl
    simp only [sz1] at this
    exact Heap.get?_push_of_some _ (Heap.get?_push_of_some _ this)
  · have := e0 ((s.heap.push { cls := .type "list_iterator", data := .fields #[.ref l2, .int 0 0] }).push { cls := .type "tuple", data := .seq #[.ref r, .ref s.heap.objs.size] }) { cls := .type "tuple", data := .seq #[.none, .none] } rfl
    simp only [sz1] at this
    exact Heap.get?_push_of_some _ this
  · exact hr.at fun o e => Heap.get?_push_of_some _ (Heap.get?_push_of_some _ (Heap.get?_push_of_some _ (Heap.get?_push_of_some _ e)))
  · exact ⟨_, Heap.get?_push_of_some _ (Heap.get?_push_of_some _ (Heap.get?_push_of_some _ (Heap.get?_push_size _ rfl))), rfl, rfl⟩
def Itz (K : PySem.W.Frag) (a b : Addr) (n : Nat) : It :=
  ⟨fun i H => i < n ∧ (∃ xs, SqL K H a xs ∧ xs.length = n) ∧ ∃ ys, SqL K H b ys ∧ ys.length = n,
   fun i H x H' => ∃ p u v, x = .ref p ∧ H p = none ∧ (∀ xs, SqL K H a xs → xs[n - 1 - i]? = some u) ∧ (∀ ys, SqL K H b ys → ys[i]? = some v) ∧ H' = upd H p (.tup [u, v]),
   fun i _ => i = n⟩
theorem ZipSt.at {h h' : Heap} {z TI TO i1 i2 l1 l2 : Addr} {k1 : Int} {k2 : Nat} {f0 : Value} (st : ZipSt h z TI TO i1 i2 l1 l2 k1 k2 f0) (k : ∀ b ∈ [z, TI, TO, i1, i2], ∀ o, h.get? b = some o → h'.get? b = some o) : ZipSt h' z TI TO i1 i2 l1 l2 k1 k2 f0 := by
  obtain ⟨a1, a2, ⟨x, y, a3⟩, a4, ⟨o, e, r⟩⟩ := st
  exact ⟨k z (by simp) _ a1, k TI (by simp) _ a2, ⟨x, y, k TO (by simp) _ a3⟩, a4.at fun o e => k i1 (by simp) _ e, ⟨o, k i2 (by simp) _ e, r⟩⟩
theorem turn_zip {P : Program} {w : World} {K : PySem.W.Frag} {es : List Expr} {kk : Nat} {tp : Pos} (a b z TI TO i1 i2 : Addr) (n : Nat) (ap : ZipApart z TI TO i1 i2 a b) :
    Turn P w K (.Tuple es kk tp) (Itz K a b n) [z, TI, TO, i1, i2] z (fun i h => ZipSt h z TI TO i1 i2 a b ((n : Int) - 1 - (i : Nat)) i .none) where
  mem := by simp
  obj := fun i h st c hc => by
    obtain ⟨a1, a2, ⟨x, y, a3⟩, ⟨o, e, _, d⟩, ⟨o', e', _, d'⟩⟩ := st
    simp only [List.mem_cons, List.not_mem_nil, or_false] at hc
    rcases hc with rfl | rfl | rfl | rfl | rfl
    · exact ⟨_, a1, fun v q => by cases q⟩
    · exact ⟨_, a2, fun v q => by cases q⟩
    · exact ⟨_, a3, fun v q => by cases q⟩
    · exact ⟨o, e, fun v q => by rw [d] at q; cases q⟩
    · exact ⟨o', e', fun v q => by rw [d'] at q; cases q⟩
  keep := fun i h h' st k => st.at k
  item := by
    intro X hP hw hK hc i pins s σ H E I hf st hg
    subst hP hw hK
    obtain ⟨hi, ⟨xs, hq1, hn1⟩, ⟨ys, hq2, hn2⟩⟩ := hg
    obtain ⟨its1, rv1, p1, hz1⟩ := I.list hq1
    obtain ⟨its2, rv2, p2, hz2⟩ := I.list hq2
    have hl1 := rv1.length
    have hl2 := rv2.length
    have hx : xs[n - 1 - i]? = some (xs[n - 1 - i]'(by omega)) := List.getElem?_eq_getElem (by omega)
    have hy : ys[i]? = some (ys[i]'(by omega)) := List.getElem?_eq_getElem (by omega)
    obtain ⟨u, hu, ru⟩ := rv1.get hx
    obtain ⟨v, hv, rv⟩ := rv2.get hy
    have st : ZipSt s.heap z TI TO i1 i2 a b ((n : Int) - 1 - (i : Nat)) i .none := st
    rw [show (n : Int) - 1 - (i : Nat) = ((n - 1 - i : Nat) : Int) by omega] at st
    refine zip_item ap st p1.isList p2.isList (x := u) (y := v) (by simpa using hu) (by simpa using hv) fun h' st' pr k => ⟨_, rfl, ?_⟩
    refine wpAny_letOwnedTupleGo_zip st'.z fun h2 hz2' sb => ?_
    have hp : H s.heap.objs.size = none := I.hok.fresh (Nat.le_refl _)
    have nz : s.heap.objs.size ≠ z := fun e => absurd (Heap.lt_size st.z) (by rw [← e]; exact Nat.lt_irrefl _)
    have k2 : ∀ c o, c ∉ [z, TI, TO, i1, i2] → s.heap.get? c = some o → h2.get? c = some o := fun c o nc e => by
      simp only [List.mem_cons, List.not_mem_nil, or_false, not_or] at nc
      exact (sb.2 c nc.1).trans (k c o nc.1 nc.2.2.1 nc.2.2.2.1 nc.2.2.2.2 e)
    have pr2 : IsPair h2 s.heap.objs.size u v := (sb.2 _ nz).trans pr
    have nfp : ∀ c o, H c = some o → c ∉ [z, TI, TO, i1, i2] := fun c o e hc => by rw [(hf c hc).1] at e; cases e
    have hne : ∀ c o, H c = some o → c ≠ s.heap.objs.size := fun c o e => ne_of_none e hp
    have I2 : Inv X pins σ (upd H s.heap.objs.size (.tup [xs[n - 1 - i]'(by omega), ys[i]'(by omega)])) { s with heap := h2 } := by
      refine I.call' (s' := { s with heap := h2 }) (ch := [z, TI, TO, i1, i2]) rfl ⟨fun c o e n nf nc => k2 c o nc e, fun c o e n hc nc => ⟨o.slots, k2 c o nc e⟩, fun c o e n nc => ?_, fun c o e nc => ⟨o, k2 c o nc e⟩, fun c xs e => ?_, fun c o u e => ?_, fun c ps e => ⟨#[], ?_⟩⟩ (fun c o e => ?_) I.bare fun c hc => ?_
      · rw [upd_ne (Nat.ne_of_lt (Heap.lt_size e))]; exact n
      · rw [upd_ne (hne _ _ e)]; exact e
      · rw [upd_ne (hne _ _ e)]; exact e
      · rw [upd_ne (hne _ _ e), Array.append_empty]; exact e
      · by_cases hc : c = s.heap.objs.size
        · subst hc
          rw [upd_same] at e; cases e
          exact ⟨by show (2 : Nat) ≤ _; decide, [u, v], .cons ru (.cons rv .nil), _, pr2, rfl, _, rfl⟩
        · rw [upd_ne hc] at e
          refine (I.hok c o e).stay (fun d w' hd q => k2 d w' ?_ q) (fun d q => by rw [upd_ne (hne _ _ q)]; exact q) fun d xs q => by rw [upd_ne (hne _ _ q)]; exact q
          rcases hd with rfl | hd
          · exact nfp _ _ e
          · exact nfp _ _ hd
      · obtain ⟨f0, f1, f2, f3, f4, f5⟩ := hf c hc
        exact ⟨f3, f1, f4, f5⟩
    refine ⟨.ref s.heap.objs.size, _, I2, rfl, ⟨_, _, _, rfl, hp, fun xs' h' => by rw [I.list_inj h' hq1]; exact hx, fun ys' h' => by rw [I.list_inj h' hq2]; exact hy, rfl⟩, ?_, fun c hc => ?_⟩
    · have st2 : ZipSt h2 z TI TO i1 i2 a b (((n - 1 - i : Nat) : Int) - 1) (i + 1) .none := by
        obtain ⟨_, a2, ⟨x, y, a3⟩, ⟨o, e, r⟩, ⟨o', e', r'⟩⟩ := st'
        exact ⟨hz2', (sb.2 _ ap.TIz).trans a2, ⟨x, y, (sb.2 _ ap.TOz).trans a3⟩, ⟨o, (sb.2 _ ap.i1z).trans e, r⟩, ⟨o', (sb.2 _ ap.i2z).trans e', r'⟩⟩
      rw [show ((n - 1 - i : Nat) : Int) - 1 = (n : Int) - 1 - ((i + 1 : Nat) : Int) by omega] at st2
      exact st2
    · have lt : c < s.heap.objs.size := by
        simp only [List.mem_cons, List.not_mem_nil, or_false] at hc
        obtain ⟨a1, a2, ⟨x, y, a3⟩, ⟨o, e, _⟩, ⟨o', e', _⟩⟩ := st
        rcases hc with rfl | rfl | rfl | rfl | rfl
        · exact Heap.lt_size a1
        · exact Heap.lt_size a2
        · exact Heap.lt_size a3
        · exact Heap.lt_size e
        · exact Heap.lt_size e'
      rw [upd_ne (Nat.ne_of_lt lt)]; exact (hf c hc).1
  done := by
    intro X hP hw hK hc i pins s σ H E I hf st hg
    subst hP hw hK
    have hg : i = n := hg
    have st : ZipSt s.heap z TI TO i1 i2 a b ((n : Int) - 1 - (i : Nat)) i .none := st
    rw [show (n : Int) - 1 - (i : Nat) = -1 by omega] at st
    obtain ⟨f0, f1, f2, f3, f4, f5⟩ := hf z (by simp)
    exact zip_end (I.ok.hd hc) ap st fun h' k => ⟨rfl, I.turned (t' := s.toks) (fun b o hb e => k b o hb e) f0 f1 f3 f4 f5⟩
  self := fun _ _ _ _ _ st h => wpAny_pyIter_zip st.z h
theorem zipApart_of {n r a b : Nat} (h1 : r < n) (h2 : a < n) (h3 : b < n) (h4 : a ≠ r) (h5 : b ≠ r) : ZipApart (n + 3) (n + 1) (n + 2) r n a b := by
  constructor <;> first | assumption | (show (_ : Nat) ≠ (_ : Nat); omega)
def iZipR (K : PySem.W.Frag) (ta tb : TE) : TI := fun σ H R => ta σ H fun x H1 => ∃ la xs, x = .ref la ∧ SqL K H1 la xs ∧ tb σ H1 fun y H2 => ∃ lb ys, y = .ref lb ∧ SqL K H2 la xs ∧ SqL K H2 lb ys ∧ xs.length = ys.length ∧ R (Itz K la lb xs.length) H2
theorem pi_zipRev {X : Cx} {es : List Expr} {kk : Nat} {tp : Pos} {a b : Expr} {ta tb : TE} {p pos p2 pos2 : Pos} (hg : Gl X "zip") (hm : X.mg "zip" = none) (hg2 : Gl X "reversed") (hm2 : X.mg "reversed" = none) (ha : PE X a ta) (hb : PE X b tb)
    (hs : starEach [.Call (.Name "reversed" p2) [a] [] pos2, b] X.env = [(false, eval (.Call (.Name "reversed" p2) [a] [] pos2) X.env), (false, eval b X.env)] := by rfl) (hs1 : starEach [b] X.env = [(false, eval b X.env)] := by rfl) (hs2 : starEach [a] X.env = [(false, eval a X.env)] := by rfl) :
    PI X (.Tuple es kk tp) (.Call (.Name "zip" p) [.Call (.Name "reversed" p2) [a] [] pos2, b] [] pos) (iZipR X.K ta tb) := by
  intro pins s σ H R I h
  refine Call_ (ld_blt I hg hm boot_zip (PyProof.Rows.callWith_type1 ?_ (by rw [hs, hs1]) (by rw [hs1]; rfl)))
  rw [hs]
  show wpAny _ _ (spliced ((false, eval _ X.env) :: backTo pos [(false, eval b X.env)])) _ _ s
  refine Calls.spliced_cons (Call_ (ld_blt I hg2 hm2 boot_reversed (PyProof.Rows.callWith_type1 ?_ hs2 rfl)))
  refine thn (pa_cons ha pa_nil hs2 pos2 pins s σ H (fun vs H1 => match vs with
    | [x] => ∃ la xs, x = .ref la ∧ SqL X.K H1 la xs ∧ tb σ H1 fun y H2 => ∃ lb ys, y = .ref lb ∧ SqL X.K H2 la xs ∧ SqL X.K H2 lb ys ∧ xs.length = ys.length ∧ R (Itz X.K la lb xs.length) H2
    | _ => False) I h) fun us s1 ⟨vs, H1, I1, r1, q1⟩ => ?_
  match vs, r1, q1 with
  | [x], .cons r .nil, ⟨la, xs, ex, hq, q⟩ =>
  subst ex
  cases r
  obtain ⟨its, rv, pl, hz⟩ := I1.list hq
  have hl := rv.length
  refine call_reversed_list pl.isList ?_
  have e1 : ((its.toArray.size : Nat) : Int) - 1 = (xs.length : Int) - 1 - ((0 : Nat) : Int) := by simp; omega
  have gr : (s1.heap.push (revObj la ((its.toArray.size : Int) - 1))).get? s1.heap.objs.size = some (revObj la ((its.toArray.size : Int) - 1)) := Heap.get?_push_size _ rfl
  have I2 : Inv X (pins ++ [(s1.heap.objs.size, revObj la ((its.toArray.size : Int) - 1))]) σ H1 { s1 with heap := s1.heap.push (revObj la ((its.toArray.size : Int) - 1)) } := by
    have I2 : Inv X pins σ H1 { s1 with heap := s1.heap.push (revObj la ((its.toArray.size : Int) - 1)) } := I1.kept (t' := s1.toks) fun b o e => Heap.get?_push_of_some _ e
    refine I2.pins_of fun p hp => ?_
    rcases List.mem_append.mp hp with hp | hp
    · exact I2.pin p (List.mem_append_right _ hp)
    · have : p = (s1.heap.objs.size, revObj la ((its.toArray.size : Int) - 1)) := by simpa using hp
      subst this
      exact ⟨gr, I1.hok.fresh (Nat.le_refl _), Nat.ne_of_gt I1.lt, I1.nofs (Nat.le_refl _), fun v z => by cases z⟩
  rw [← hs1]
  refine thn (pa_cons hb pa_nil hs1 pos _ _ σ H1 (fun vs H2 => match vs with
    | [y] => ∃ lb ys, y = .ref lb ∧ SqL X.K H2 la xs ∧ SqL X.K H2 lb ys ∧ xs.length = ys.length ∧ R (Itz X.K la lb xs.length) H2
    | _ => False) I2 q) fun us s2 ⟨vs, H2, I3, r2, q2⟩ => ?_
  match vs, r2, q2 with
  | [y], .cons r .nil, ⟨lb, ys, ey, hq1, hq2, hn, q⟩ =>
  subst ey
  cases r
  obtain ⟨its1, rv1, pl1, hz1⟩ := I3.list hq1
  obtain ⟨its2, rv2, pl2, hz2⟩ := I3.list hq2
  obtain ⟨g3, n3, _⟩ := I3.pin (s1.heap.objs.size, revObj la ((its.toArray.size : Int) - 1)) (by simp)
  have g3 : s2.heap.get? s1.heap.objs.size = some (revObj la ((its.toArray.size : Int) - 1)) := g3
  have hr3 : s2.heap.IsRevIter s1.heap.objs.size la ((xs.length : Int) - 1 - ((0 : Nat) : Int)) := by rw [← e1]; exact ⟨_, g3, rfl, rfl⟩
  have lr := Heap.lt_size g3
  have nl : ∀ c its, s2.heap.IsList c its → c ≠ s1.heap.objs.size ∧ c < s2.heap.objs.size := fun c its ⟨o, e, cc, _⟩ => ⟨fun z => by
    rw [z, g3] at e; cases e; exact absurd cc (by show ¬ (Value.type _ = Value.type _); simp), Heap.lt_size e⟩
  obtain ⟨na1, na2⟩ := nl _ _ pl1.isList
  obtain ⟨nb1, nb2⟩ := nl _ _ pl2.isList
  refine call_zip_rev hr3 pl2.isList fun h' st k => ?_
  refine wpAny_pyIter_zip st.z ?_
  have I4 : Inv X pins σ H2 { s2 with heap := h' } := Inv.unpinned (pl := [(s1.heap.objs.size, revObj la ((its.toArray.size : Int) - 1))]) (I3.kept (t' := s2.toks) k)
  refine ⟨_, [s2.heap.objs.size + 3, s2.heap.objs.size + 1, s2.heap.objs.size + 2, s1.heap.objs.size, s2.heap.objs.size], _, _, H2, rfl, I4, turn_zip la lb _ _ _ _ _ xs.length (zipApart_of lr na2 nb2 na1 nb1), st, fun c hc => ?_, q⟩
  have fr : ∀ c, s2.heap.objs.size ≤ c → FpOk X pins H2 c := fun c hc => (Inv.unpinned I3).fpOk hc (I3.hok.fresh hc)
  simp only [List.mem_cons, List.not_mem_nil, or_false] at hc
  rcases hc with rfl | rfl | rfl | rfl | rfl
  · exact fr _ (by omega)
  · exact fr _ (by omega)
  · exact fr _ (by omega)
  · obtain ⟨_, f1, f2, f3, f4, f5⟩ := I1.fpOk (Nat.le_refl _) (I1.hok.fresh (Nat.le_refl _))
    exact ⟨n3, f1, f2, f3, f4, f5⟩
  · exact fr _ (by omega)
theorem for_zipR {K : PySem.W.Frag} {a b : Addr} {xs ys : List V} {g : TG} {tb : TS} {D : Ends} {σ : St} {H : Hp} (hn : xs.length = ys.length) (Pv : Nat → St → Hp → Prop) (h0 : Pv 0 σ H) (hl : ∀ i σ H, i ≤ xs.length → Pv i σ H → SqL K H a xs ∧ SqL K H b ys)
    (hs : ∀ i u v p σ H, i < xs.length → xs[xs.length - 1 - i]? = some u → ys[i]? = some v → H p = none → Pv i σ H → g (.ref p) σ (upd H p (.tup [u, v])) fun σ2 H2 => tb { D with nx := Pv (i + 1), ct := Pv (i + 1), bk := D.nx } σ2 H2) (hd : ∀ σ H, Pv xs.length σ H → D.nx σ H) :
    ∃ W : Nat → Nat → St → Hp → Prop, (∃ m, W 0 m σ H) ∧ ∀ i m σ H, W i m σ H →
      ((Itz K a b xs.length).stop i H ∧ D.nx σ H) ∨ ((Itz K a b xs.length).go i H ∧ ∃ N : St → Hp → Prop, (∀ σ' H', N σ' H' → ∃ m', m' < m ∧ W (i + 1) m' σ' H') ∧ ∀ x H', (Itz K a b xs.length).yld i H x H' → g x σ H' fun σ2 H2 => tb { D with nx := N, ct := N, bk := D.nx } σ2 H2) := by
  refine ⟨fun i m σ H => m = xs.length - i ∧ i ≤ xs.length ∧ Pv i σ H, ⟨xs.length, by simp, Nat.zero_le _, h0⟩, ?_⟩
  rintro i m σ H ⟨rfl, hi, p⟩
  obtain ⟨q1, q2⟩ := hl i σ H hi p
  by_cases hlt : i < xs.length
  · refine .inr ⟨⟨hlt, ⟨xs, q1, rfl⟩, ⟨ys, q2, hn.symm⟩⟩, Pv (i + 1), fun σ' H' p' => ⟨xs.length - (i + 1), by omega, rfl, hlt, p'⟩, fun x H' y => ?_⟩
    obtain ⟨pp, u, v, rfl, hp, y1, y2, rfl⟩ := y
    exact hs i u v pp σ _ hlt (y1 xs q1) (y2 ys q2) hp p
  · have e : i = xs.length := by omega
    subst e
    exact .inl ⟨rfl, hd σ H p⟩
end L2
namespace L2
open PySem PySem.Spec PyProof.Rows
section
variable {X : Cx}
end
end L2
namespace L2
open PySem PySem.Spec PyProof.Rows
abbrev bmVE : List Value := [Value.type "ValueError", Value.type "Exception", Value.type "BaseException", Value.type "object"]
structure QuietAt (K : PySem.W.Frag) (N : Addr) : Prop where
  ok : PySem.W.nsOkIn K N = true
  a : PySem.W.nsIn K N "__init__" = some none
  b : PySem.W.nsIn K N "__getattribute__" = some none
  c : PySem.W.nsIn K N "__getattr__" = some none
  d : PySem.W.nsIn K N "args" = some none
theorem QuietAt.q {K : PySem.W.Frag} {N : Addr} (x : QuietAt K N) : quietIn K N = true := by
  unfold quietIn quietNames
  rw [x.ok]
  simp only [List.all_cons, List.all_nil, Bool.and_true, Bool.true_and]
  rw [x.a, x.b, x.c, x.d]
  simp
theorem nsOk_of {K : PySem.W.Frag} {N : Addr} {c : Value} {d : Option Addr} {es : Array DictEntry} {ep : Nat} {sl : Array (Option Value)} (l : K.lookup N = some ⟨c, d, .dict es ep, sl⟩) (h : (es.toList.all fun e => match e.key with | .str _ _ => true | _ => false) = true) : PySem.W.nsOkIn K N = true := by
  unfold PySem.W.nsOkIn; rw [l]
  show (es.all fun e => match e.key with | .str _ _ => true | _ => false) = true
  rw [← Array.all_toList]; exact h
theorem tailQ_one {K : PySem.W.Frag} {B : Addr} {c : Value} {d : Option Addr} {cd : ClassData} {sl : Array (Option Value)} (l : K.lookup B = some ⟨c, d, .cls cd, sl⟩) (q : QuietAt K cd.ns) : tailQ K bmVE (.ref B :: bmVE) = true := by
  unfold tailQ
  rw [Bool.or_eq_true_iff]
  right
  show (match List.lookup B K with | some ⟨_, _, .cls cd, _⟩ => quietIn K cd.ns && tailQ K bmVE bmVE | _ => false) = true
  rw [show List.lookup B K = _ from l]
  show (quietIn K cd.ns && tailQ K bmVE bmVE) = true
  rw [q.q]; rfl
theorem kit_ref {K : PySem.W.Frag} {c C : Addr} {b : Bool} {d : Option Addr} {cd : ClassData} {sl : Array (Option Value)} (ne : c ≠ C) (l : K.lookup C = some ⟨.type "type", d, .cls cd, sl⟩) (m : PySem.W.mroIn K c (.ref C) = some b) : PySem.W.kitOne K (.ref c) (.ref C) = some b := by
  unfold PySem.W.kitOne
  rw [if_neg (by simpa using ne)]
  have e1 : PySem.W.clsIn K C = some cd := by unfold PySem.W.clsIn; rw [show List.lookup C K = _ from l]
  have e2 : PySem.W.typeIn K (.ref C) = some (.type "type") := by show Option.map (fun x => x.cls) (List.lookup C K) = _; rw [show List.lookup C K = _ from l]; rfl
  show (if ((PySem.W.clsIn K C).isSome && PySem.W.typeIn K (.ref C) == some (.type "type")) = true then PySem.W.mroIn K c (.ref C) else none) = _
  rw [e1, e2]
  rw [if_pos (by simp)]
  exact m
theorem kit_ll {K : PySem.W.Frag} : PySem.W.kitOne K (.type "list") (.type "list") = some true := by unfold PySem.W.kitOne; rw [if_pos (by simp)]
theorem kit_tl {K : PySem.W.Frag} : PySem.W.kitOne K (.type "tuple") (.type "list") = some false := by
  unfold PySem.W.kitOne
  rw [if_neg (by simp)]
  kernel_rfl
end L2
namespace L2
open PySem PySem.Spec PyProof.Rows
section
variable {α β : Type} {f : Nat → Nat → Bool} {n : Nat}
end
abbrev gd (p : Array Nat) (x : Nat) : Nat := p.getD x 0
structure Gd (n : Nat) (p : Array Nat) : Prop where
  sz : p.size = n
  pm : p.Perm (List.range n).toArray
section
variable {key : Nat → Int} {n : Nat}
end
end L2
namespace L2
open PySem PySem.Spec PyProof.Rows
end L2
namespace L2
open PySem PySem.Spec PyProof.Rows
section
variable {X : Cx} {pins : List (Addr × Obj)} {σ : St} {H H' : Hp} {s : Shared} {h' : Heap}
end
end L2
namespace L2
open PySem PySem.Spec PyProof.Rows
section
variable {X : Cx}
end
end L2
namespace L2
open PySem PySem.Spec PyProof.Rows
def bitAt (k : Int) (b : Nat) : Int := k / 2 ^ b % 2
abbrev fkT : Tm → Tm → Tm := .nd "fork"
end L2
namespace L2
open PySem PySem.Spec PyProof.Rows
section
variable {X : Cx}
end
section
variable {P : Program} {w : World} {K : PySem.W.Frag} {mg : Str → Option Value} {base : Heap}
end
inductive IntCs : List Expr → List Int → Prop
  | nil : IntCs [] []
  | cons {n : Int} {j p} {es : List Expr} {ns : List Int} (h : IntCs es ns) : IntCs (.Constant (.int n) j p :: es) (n :: ns)
def tInts (ns : List Int) : TA := fun _ H Q => Q (ns.map V.int) H
theorem pa_ints {X : Cx} {es : List Expr} {ns : List Int} (h : IntCs es ns) : PA X es (tInts ns) := by
  induction h with
  | nil => exact pa_nil
  | cons h ih => exact pa_cons pe_int ih
theorem FnP.any {P : Program} {w : World} {K : PySem.W.Frag} {mg : Str → Option Value} {base : Heap} {n k : Nat} {x : Str} {ps : List Str} {sp : Nat → Sp} (h : ∀ b, b ≤ n → FnP P w K mg base k x ps (sp b)) : FnP P w K mg base k x ps (fun vs H Q E => ∃ b, b ≤ n ∧ sp b vs H Q E) := by
  obtain ⟨f, fd, h1, h2, h3, h4, oc, od, sl, h5⟩ := h 0 (Nat.zero_le _)
  refine ⟨f, fd, h1, h2, h3, ⟨fun vs H Q E ⟨b, hb, q⟩ => ?_, fun A outer s H args us vs Q E hr e0 hbd r ⟨b, hb, q⟩ => ?_⟩, oc, od, sl, h5⟩
  · obtain ⟨f', fd', a1, a2, a3, a4, _⟩ := h b hb
    exact a4.len _ _ _ _ q
  · obtain ⟨f', fd', a1, a2, a3, a4, oc', od', sl', a5⟩ := h b hb
    have e := h1.symm.trans a1
    cases e
    rw [h5] at a5
    cases a5
    exact a4.run A outer s H args us vs Q E hr e0 hbd r q
theorem bits_lt {k : Int} (h : 0 ≤ k) (D : Nat) : (((Builtin.Int.intBits k : Nat) : Int) ≤ (D : Int)) ↔ k < 2 ^ D := by
  have hp := Nat.one_le_two_pow (n := D)
  unfold Builtin.Int.intBits
  rw [two_pow_cast]
  by_cases e : k = 0
  · subst e
    rw [show ((0 : Int) == 0) = true from rfl, if_pos rfl]
    omega
  · rw [show (k == 0) = false from beq_eq_false_iff_ne.mpr e, if_neg Bool.false_ne_true]
    have z := Nat.log2_lt (n := k.natAbs) (k := D) (by omega)
    omega
end L2
namespace L2
open PySem PySem.Spec PyProof.Rows
section
variable {P : Program} {w : World} {K : PySem.W.Frag} {mg : Str → Option Value} {base : Heap} {C : Addr}
end
section
variable {X : Cx} {C : Addr} {k : Nat} {ps : List Str} {sp : Sp} {m x : Str} {o e : Expr} {es : List Expr} {ta : TE} {t : TA} {p apos pos : Pos} {E : XK}
end
end L2
namespace L2
open PySem PySem.Spec PyProof.Rows
def isTup (H : Hp) (x : V) : Prop := ∃ a xs, x = .ref a ∧ H a = some (.tup xs)
def isLst (H : Hp) (x : V) : Prop := ∃ a xs, x = .ref a ∧ H a = some (.lst xs)
def EqB0 (H : Hp) (x y : V) (b : Bool) : Prop :=
  (flatV x = true ∧ flatV y = true ∧ b = eqV x y) ∨ (b = false ∧ ((flatV x = true ∧ (isTup H y ∨ isLst H y)) ∨ ((isTup H x ∨ isLst H x) ∧ flatV y = true) ∨ (isTup H x ∧ isLst H y) ∨ (isLst H x ∧ isTup H y)))
def EqB (H : Hp) : Nat → V → V → Bool → Prop
  | 0, x, y, b => EqB0 H x y b
  | n + 1, x, y, b => EqB0 H x y b ∨
    (∃ a c xs ys, ∃ e : Nat → Bool, x = .ref a ∧ y = .ref c ∧ H a = some (.tup xs) ∧ H c = some (.tup ys) ∧ (∀ (i : Nat) u v, xs[i]? = some u → ys[i]? = some v → EqB H n u v (e i)) ∧ b = ((List.range (min xs.length ys.length)).all e && xs.length == ys.length)) ∨
    (∃ a c xs ys, ∃ e : Nat → Bool, x = .ref a ∧ y = .ref c ∧ H a = some (.lst xs) ∧ H c = some (.lst ys) ∧ (∀ (i : Nat) u v, xs[i]? = some u → ys[i]? = some v → EqB H n u v (e i)) ∧ b = (xs.length == ys.length && (List.range xs.length).all e))
theorem EqB.base {H : Hp} {x y : V} {b : Bool} (h : EqB0 H x y b) : ∀ n, EqB H n x y b
  | 0 => h
  | _ + 1 => .inl h
theorem EqB.up {H : Hp} : ∀ {n m : Nat} {x y : V} {b : Bool}, n ≤ m → EqB H n x y b → EqB H m x y b
  | 0, m, x, y, b, _, h => EqB.base h m
  | n + 1, 0, _, _, _, h, _ => by omega
  | n + 1, m + 1, x, y, b, h, q => by
    rcases q with q | ⟨a, c, xs, ys, e, e1, e2, e3, e4, e5, e6⟩ | ⟨a, c, xs, ys, e, e1, e2, e3, e4, e5, e6⟩
    · exact .inl q
    · exact .inr (.inl ⟨a, c, xs, ys, e, e1, e2, e3, e4, fun i u v h1 h2 => EqB.up (Nat.le_of_succ_le_succ h) (e5 i u v h1 h2), e6⟩)
    · exact .inr (.inr ⟨a, c, xs, ys, e, e1, e2, e3, e4, fun i u v h1 h2 => EqB.up (Nat.le_of_succ_le_succ h) (e5 i u v h1 h2), e6⟩)
theorem EqB0.self {H : Hp} {x : V} {b : Bool} (h : EqB0 H x x b) : b = true := by
  have no : ∀ {x : V}, flatV x = true → (isTup H x ∨ isLst H x) → False := fun {x} f q => by
    rcases q with ⟨a, xs, rfl, _⟩ | ⟨a, xs, rfl, _⟩ <;> cases f
  have no2 : isTup H x → isLst H x → False := fun ⟨a, xs, e1, e2⟩ ⟨c, ys, e3, e4⟩ => by
    rw [e1] at e3; cases e3; rw [e2] at e4; cases e4
  rcases h with ⟨f, _, rfl⟩ | ⟨_, ⟨f, q⟩ | ⟨q, f⟩ | ⟨q, p⟩ | ⟨p, q⟩⟩
  · exact eqV_self f
  · exact (no f q).elim
  · exact (no f q).elim
  · exact (no2 q p).elim
  · exact (no2 q p).elim
theorem EqB.self {H : Hp} : ∀ {n : Nat} {x : V} {b : Bool}, EqB H n x x b → b = true
  | 0, x, b, h => EqB0.self h
  | n + 1, x, b, h => by
    rcases h with h | ⟨a, c, xs, ys, e, e1, e2, e3, e4, e5, rfl⟩ | ⟨a, c, xs, ys, e, e1, e2, e3, e4, e5, rfl⟩
    · exact EqB0.self h
    · rw [e1] at e2; cases e2
      rw [e3] at e4; cases e4
      have : (List.range (min xs.length xs.length)).all e = true := by
        rw [List.all_eq_true]
        intro i hi
        have hi : i < xs.length := by simpa using hi
        exact EqB.self (e5 i xs[i] xs[i] (List.getElem?_eq_getElem hi) (List.getElem?_eq_getElem hi))
      rw [this]; simp
    · rw [e1] at e2; cases e2
      rw [e3] at e4; cases e4
      have : (List.range xs.length).all e = true := by
        rw [List.all_eq_true]
        intro i hi
        have hi : i < xs.length := by simpa using hi
        exact EqB.self (e5 i xs[i] xs[i] (List.getElem?_eq_getElem hi) (List.getElem?_eq_getElem hi))
      rw [this]; simp
section
variable {X : Cx}
theorem Inv.tupV {pins : List (Addr × Obj)} {σ : St} {H : Hp} {s : Shared} {a : Addr} {xs : List V} (I : Inv X pins σ H s) (h : H a = some (.tup xs)) : ∃ its, Vals xs its ∧ s.heap.IsTuple a its.toArray := by
  obtain ⟨_, its, r, p⟩ := I.hok _ _ h
  exact ⟨its, r, p⟩
theorem Inv.lstV {pins : List (Addr × Obj)} {σ : St} {H : Hp} {s : Shared} {a : Addr} {xs : List V} (I : Inv X pins σ H s) (h : H a = some (.lst xs)) : ∃ its, Vals xs its ∧ s.heap.IsList a its.toArray := by
  obtain ⟨its, r, p, _⟩ := I.list (SqL.of h)
  exact ⟨its, r, p.isList⟩
theorem eqAt_B0 {pins : List (Addr × Obj)} {σ : St} {H : Hp} {s : Shared} {A : Around} {x y : V} {u v : Value} {b : Bool} (I : Inv X pins σ H s) (h : EqB0 H x y b) (rx : RelV x u) (ry : RelV y v) (hu : A.units < cLine) : SeqAt.EqAt A s u v b := by
  rcases h with ⟨f, g, rfl⟩ | ⟨rfl, ⟨f, ⟨a, xs, rfl, e⟩ | ⟨a, xs, rfl, e⟩⟩ | ⟨⟨a, xs, rfl, e⟩ | ⟨a, xs, rfl, e⟩, f⟩ | ⟨⟨a, xs, rfl, e⟩, ⟨c, ys, rfl, e2⟩⟩ | ⟨⟨a, xs, rfl, e⟩, ⟨c, ys, rfl, e2⟩⟩⟩
  · exact eqAt_V rx ry f g
  · obtain rfl : v = Value.ref a := ry
    obtain ⟨its, _, p⟩ := I.tupV e
    cases x with
    | non => cases rx; exact SeqAt.EqAt.none_tuple p hu
    | bl b => cases rx; exact SeqAt.EqAt.bool_tuple b p hu
    | int i => obtain ⟨t, rfl⟩ := rx; exact SeqAt.EqAt.int_tuple i t p hu
    | str z => obtain ⟨t, rfl⟩ := rx; exact SeqAt.EqAt.str_tuple z t p hu
    | _ => cases f
  · obtain rfl : v = Value.ref a := ry
    obtain ⟨its, _, p⟩ := I.lstV e
    cases x with
    | non => cases rx; exact SeqAt.EqAt.none_list p hu
    | bl b => cases rx; exact SeqAt.EqAt.bool_list b p hu
    | int i => obtain ⟨t, rfl⟩ := rx; exact SeqAt.EqAt.int_list i t p hu
    | str z => obtain ⟨t, rfl⟩ := rx; exact SeqAt.EqAt.str_list z t p hu
    | _ => cases f
  · obtain rfl : u = Value.ref a := rx
    obtain ⟨its, _, p⟩ := I.tupV e
    cases y with
    | non => cases ry; exact SeqAt.EqAt.tuple_none p hu
    | bl b => cases ry; exact SeqAt.EqAt.tuple_bool b p hu
    | int i => obtain ⟨t, rfl⟩ := ry; exact SeqAt.EqAt.tuple_int i t p hu
    | str z => obtain ⟨t, rfl⟩ := ry; exact SeqAt.EqAt.tuple_str z t p hu
    | _ => cases f
  · obtain rfl : u = Value.ref a := rx
    obtain ⟨its, _, p⟩ := I.lstV e
    cases y with
    | non => cases ry; exact SeqAt.EqAt.list_none p hu
    | bl b => cases ry; exact SeqAt.EqAt.list_bool b p hu
    | int i => obtain ⟨t, rfl⟩ := ry; exact SeqAt.EqAt.list_int i t p hu
    | str z => obtain ⟨t, rfl⟩ := ry; exact SeqAt.EqAt.list_str z t p hu
    | _ => cases f
  · obtain rfl : u = Value.ref a := rx
    obtain rfl : v = Value.ref c := ry
    obtain ⟨its, _, p⟩ := I.tupV e
    obtain ⟨its2, _, p2⟩ := I.lstV e2
    exact SeqAt.EqAt.tuple_list p p2 hu
  · obtain rfl : u = Value.ref a := rx
    obtain rfl : v = Value.ref c := ry
    obtain ⟨its, _, p⟩ := I.lstV e
    obtain ⟨its2, _, p2⟩ := I.tupV e2
    exact SeqAt.EqAt.list_tuple p p2 hu
theorem eqAt_B {pins : List (Addr × Obj)} {σ : St} {H : Hp} {s : Shared} (I : Inv X pins σ H s) : ∀ (n : Nat) (x y : V) (u v : Value) (b : Bool) (A : Around), EqB H n x y b → RelV x u → RelV y v → A.units + n < cLine → SeqAt.EqAt A s u v b
  | 0, x, y, u, v, b, A, h, rx, ry, hu => eqAt_B0 I h rx ry (by omega)
  | n + 1, x, y, u, v, b, A, h, rx, ry, hu => by
    rcases id h with h | ⟨a, c, xs, ys, e, rfl, rfl, ha, hc, hi, eb⟩ | ⟨a, c, xs, ys, e, rfl, rfl, ha, hc, hi, eb⟩
    · exact eqAt_B0 I h rx ry (by omega)
    · obtain rfl : u = Value.ref a := rx
      obtain rfl : v = Value.ref c := ry
      by_cases hac : a = c
      · subst hac
        rw [EqB.self h]; exact SeqAt.EqAt.same _
      obtain ⟨its, r, pa⟩ := I.tupV ha
      obtain ⟨its2, r2, pb⟩ := I.tupV hc
      have q := SeqAt.RcAt.tuples (A := A) (s := s) (e := e) pa pb (by omega) fun j h1 h2 => by
        obtain ⟨x1, e1, q1⟩ := r.at h1
        obtain ⟨y1, e2, q2⟩ := r2.at h2
        exact eqAt_B I n x1 y1 _ _ _ A.in1 (hi j x1 y1 e1 e2) q1 q2 (by show A.units + 1 + n < cLine; omega)
      have l1 := r.length; have l2 := r2.length
      rw [List.size_toArray, List.size_toArray, ← l1, ← l2, ← eb] at q
      exact SeqAt.EqAt.of_refs hac q
    · obtain rfl : u = Value.ref a := rx
      obtain rfl : v = Value.ref c := ry
      by_cases hac : a = c
      · subst hac
        rw [EqB.self h]; exact SeqAt.EqAt.same _
      obtain ⟨its, r, pa⟩ := I.lstV ha
      obtain ⟨its2, r2, pb⟩ := I.lstV hc
      have l1 := r.length; have l2 := r2.length
      by_cases hl : xs.length = ys.length
      · have q := SeqAt.RcAt.lists (A := A) (s := s) (e := e) pa pb (by simp; omega) (by omega) fun j h1 h2 => by
          obtain ⟨x1, e1, q1⟩ := r.at h1
          obtain ⟨y1, e2, q2⟩ := r2.at h2
          exact eqAt_B I n x1 y1 _ _ _ A.in1 (hi j x1 y1 e1 e2) q1 q2 (by show A.units + 1 + n < cLine; omega)
        rw [List.size_toArray, ← l1] at q
        have eb' : b = (List.range xs.length).all e := by rw [eb, show (xs.length == ys.length) = true from by simpa using hl, Bool.true_and]
        rw [← eb'] at q
        exact SeqAt.EqAt.of_refs hac q
      · have eb' : b = false := by rw [eb, show (xs.length == ys.length) = false from by simpa using hl, Bool.false_and]
        subst eb'
        exact SeqAt.EqAt.of_refs hac (SeqAt.RcAt.lists_lengths pa pb (by simp; omega) (by omega))
theorem rcAt_V {A : Around} {s : Shared} {x y : V} {u v : Value} (rx : RelV x u) (ry : RelV y v) (fx : flatV x = true) (fy : flatV y = true) : SeqAt.RcAt A s u v (eqV x y) := by
  cases x with
  | non =>
    cases rx
    cases y with
    | non => cases ry; exact SeqAt.RcAt.none_none
    | bl b => cases ry; exact SeqAt.RcAt.none_bool b
    | int i => obtain ⟨t, rfl⟩ := ry; exact SeqAt.RcAt.none_int i t
    | str z => obtain ⟨t, rfl⟩ := ry; exact SeqAt.RcAt.none_str z t
    | _ => cases fy
  | bl a =>
    cases rx
    cases y with
    | non => cases ry; exact SeqAt.RcAt.bool_none a
    | bl b => cases ry; exact SeqAt.RcAt.bool_bool a b
    | int i => obtain ⟨t, rfl⟩ := ry; exact SeqAt.RcAt.bool_int a i t
    | str z => obtain ⟨t, rfl⟩ := ry; exact SeqAt.RcAt.bool_str a z t
    | _ => cases fy
  | int a =>
    obtain ⟨ta, rfl⟩ := rx
    cases y with
    | non => cases ry; exact SeqAt.RcAt.int_none a ta
    | bl b => cases ry; exact SeqAt.RcAt.int_bool a ta b
    | int i => obtain ⟨t, rfl⟩ := ry; exact SeqAt.RcAt.int_int a ta i t
    | str z => obtain ⟨t, rfl⟩ := ry; exact SeqAt.RcAt.int_str a ta z t
    | _ => cases fy
  | str a =>
    obtain ⟨ta, rfl⟩ := rx
    cases y with
    | non => cases ry; exact SeqAt.RcAt.str_none a ta
    | bl b => cases ry; exact SeqAt.RcAt.str_bool a ta b
    | int i => obtain ⟨t, rfl⟩ := ry; exact SeqAt.RcAt.str_int a ta i t
    | str z => obtain ⟨t, rfl⟩ := ry; exact SeqAt.RcAt.str_str a ta z t
    | _ => cases fy
  | _ => cases fx
theorem rcAt_B0 {pins : List (Addr × Obj)} {σ : St} {H : Hp} {s : Shared} {A : Around} {x y : V} {u v : Value} {b : Bool} (I : Inv X pins σ H s) (h : EqB0 H x y b) (rx : RelV x u) (ry : RelV y v) (hu : A.units < cLine) : SeqAt.RcAt A s u v b := by
  rcases h with ⟨f, g, rfl⟩ | ⟨rfl, ⟨f, ⟨a, xs, rfl, e⟩ | ⟨a, xs, rfl, e⟩⟩ | ⟨⟨a, xs, rfl, e⟩ | ⟨a, xs, rfl, e⟩, f⟩ | ⟨⟨a, xs, rfl, e⟩, ⟨c, ys, rfl, e2⟩⟩ | ⟨⟨a, xs, rfl, e⟩, ⟨c, ys, rfl, e2⟩⟩⟩
  · exact rcAt_V rx ry f g
  · obtain rfl : v = Value.ref a := ry
    obtain ⟨its, _, p⟩ := I.tupV e
    cases x with
    | non => cases rx; exact SeqAt.RcAt.none_tuple p hu
    | bl b => cases rx; exact SeqAt.RcAt.bool_tuple b p hu
    | int i => obtain ⟨t, rfl⟩ := rx; exact SeqAt.RcAt.int_tuple i t p hu
    | str z => obtain ⟨t, rfl⟩ := rx; exact SeqAt.RcAt.str_tuple z t p hu
    | _ => cases f
  · obtain rfl : v = Value.ref a := ry
    obtain ⟨its, _, p⟩ := I.lstV e
    cases x with
    | non => cases rx; exact SeqAt.RcAt.none_list p hu
    | bl b => cases rx; exact SeqAt.RcAt.bool_list b p hu
    | int i => obtain ⟨t, rfl⟩ := rx; exact SeqAt.RcAt.int_list i t p hu
    | str z => obtain ⟨t, rfl⟩ := rx; exact SeqAt.RcAt.str_list z t p hu
    | _ => cases f
  · obtain rfl : u = Value.ref a := rx
    obtain ⟨its, _, p⟩ := I.tupV e
    cases y with
    | non => cases ry; exact SeqAt.RcAt.tuple_none p hu
    | bl b => cases ry; exact SeqAt.RcAt.tuple_bool b p hu
    | int i => obtain ⟨t, rfl⟩ := ry; exact SeqAt.RcAt.tuple_int i t p hu
    | str z => obtain ⟨t, rfl⟩ := ry; exact SeqAt.RcAt.tuple_str z t p hu
    | _ => cases f
  · obtain rfl : u = Value.ref a := rx
    obtain ⟨its, _, p⟩ := I.lstV e
    cases y with
    | non => cases ry; exact SeqAt.RcAt.list_none p hu
    | bl b => cases ry; exact SeqAt.RcAt.list_bool b p hu
    | int i => obtain ⟨t, rfl⟩ := ry; exact SeqAt.RcAt.list_int i t p hu
    | str z => obtain ⟨t, rfl⟩ := ry; exact SeqAt.RcAt.list_str z t p hu
    | _ => cases f
  · obtain rfl : u = Value.ref a := rx
    obtain rfl : v = Value.ref c := ry
    obtain ⟨its, _, p⟩ := I.tupV e
    obtain ⟨its2, _, p2⟩ := I.lstV e2
    exact SeqAt.RcAt.tuple_list p p2 hu
  · obtain rfl : u = Value.ref a := rx
    obtain rfl : v = Value.ref c := ry
    obtain ⟨its, _, p⟩ := I.lstV e
    obtain ⟨its2, _, p2⟩ := I.tupV e2
    exact SeqAt.RcAt.list_tuple p p2 hu
theorem op_eqB : OpR X (compareOp .Eq) (fun x y H Q => ∃ n b, EqB H n x y b ∧ X.A.units + n + 1 < cLine ∧ Q (.bl b) H) := by
  intro pins s σ H x y v u Q I rx ry h
  obtain ⟨n, b, h, hu, q⟩ := h
  have done : SeqAt.RcAt X.A s v u b → wpAny (model X.prog X.w) X.A (compareOp .Eq v u) (EP X pins σ Q) X.xe s := fun z => z X.prog X.w X.xe _ ⟨.bl b, H, I, rfl, q⟩
  cases n with
  | zero => exact done (rcAt_B0 I h rx ry (by omega))
  | succ n =>
    rcases id h with h | ⟨a, c, xs, ys, e, rfl, rfl, ha, hc, hi, eb⟩ | ⟨a, c, xs, ys, e, rfl, rfl, ha, hc, hi, eb⟩
    · exact done (rcAt_B0 I h rx ry (by omega))
    · obtain rfl : v = Value.ref a := rx
      obtain rfl : u = Value.ref c := ry
      obtain ⟨its, r, pa⟩ := I.tupV ha
      obtain ⟨its2, r2, pb⟩ := I.tupV hc
      have z := SeqAt.RcAt.tuples (A := X.A) (s := s) (e := e) pa pb (by omega) fun j h1 h2 => by
        obtain ⟨x1, e1, q1⟩ := r.at h1
        obtain ⟨y1, e2, q2⟩ := r2.at h2
        exact eqAt_B I n x1 y1 _ _ _ X.A.in1 (hi j x1 y1 e1 e2) q1 q2 (by show X.A.units + 1 + n < cLine; omega)
      have l1 := r.length; have l2 := r2.length
      rw [List.size_toArray, List.size_toArray, ← l1, ← l2, ← eb] at z
      exact done z
    · obtain rfl : v = Value.ref a := rx
      obtain rfl : u = Value.ref c := ry
      obtain ⟨its, r, pa⟩ := I.lstV ha
      obtain ⟨its2, r2, pb⟩ := I.lstV hc
      have l1 := r.length; have l2 := r2.length
      by_cases hl : xs.length = ys.length
      · have z := SeqAt.RcAt.lists (A := X.A) (s := s) (e := e) pa pb (by simp; omega) (by omega) fun j h1 h2 => by
          obtain ⟨x1, e1, q1⟩ := r.at h1
          obtain ⟨y1, e2, q2⟩ := r2.at h2
          exact eqAt_B I n x1 y1 _ _ _ X.A.in1 (hi j x1 y1 e1 e2) q1 q2 (by show X.A.units + 1 + n < cLine; omega)
        rw [List.size_toArray, ← l1] at z
        have eb' : b = (List.range xs.length).all e := by rw [eb, show (xs.length == ys.length) = true from by simpa using hl, Bool.true_and]
        rw [← eb'] at z
        exact done z
      · have eb' : b = false := by rw [eb, show (xs.length == ys.length) = false from by simpa using hl, Bool.false_and]
        subst eb'
        exact done (SeqAt.RcAt.lists_lengths pa pb (by simp; omega) (by omega))
theorem rcNe_V {A : Around} {s : Shared} {x y : V} {u v : Value} (rx : RelV x u) (ry : RelV y v) (fx : flatV x = true) (fy : flatV y = true) : SeqAt.RcNeAt A s u v (!eqV x y) := by
  cases x with
  | non =>
    cases rx
    cases y with
    | non => cases ry; exact SeqAt.RcNeAt.none_none
    | bl b => cases ry; exact SeqAt.RcNeAt.none_bool b
    | int i => obtain ⟨t, rfl⟩ := ry; exact SeqAt.RcNeAt.none_int i t
    | str z => obtain ⟨t, rfl⟩ := ry; exact SeqAt.RcNeAt.none_str z t
    | _ => cases fy
  | bl a =>
    cases rx
    cases y with
    | non => cases ry; exact SeqAt.RcNeAt.bool_none a
    | bl b => cases ry; exact SeqAt.RcNeAt.bool_bool a b
    | int i => obtain ⟨t, rfl⟩ := ry; exact SeqAt.RcNeAt.bool_int a i t
    | str z => obtain ⟨t, rfl⟩ := ry; exact SeqAt.RcNeAt.bool_str a z t
    | _ => cases fy
  | int a =>
    obtain ⟨ta, rfl⟩ := rx
    cases y with
    | non => cases ry; exact SeqAt.RcNeAt.int_none a ta
    | bl b => cases ry; exact SeqAt.RcNeAt.int_bool a ta b
    | int i => obtain ⟨t, rfl⟩ := ry; exact SeqAt.RcNeAt.int_int a ta i t
    | str z => obtain ⟨t, rfl⟩ := ry; exact SeqAt.RcNeAt.int_str a ta z t
    | _ => cases fy
  | str a =>
    obtain ⟨ta, rfl⟩ := rx
    cases y with
    | non => cases ry; exact SeqAt.RcNeAt.str_none a ta
    | bl b => cases ry; exact SeqAt.RcNeAt.str_bool a ta b
    | int i => obtain ⟨t, rfl⟩ := ry; exact SeqAt.RcNeAt.str_int a ta i t
    | str z => obtain ⟨t, rfl⟩ := ry; exact SeqAt.RcNeAt.str_str a ta z t
    | _ => cases fy
  | _ => cases fx
theorem rcNe_B0 {pins : List (Addr × Obj)} {σ : St} {H : Hp} {s : Shared} {A : Around} {x y : V} {u v : Value} {b : Bool} (I : Inv X pins σ H s) (h : EqB0 H x y b) (rx : RelV x u) (ry : RelV y v) (hu : A.units < cLine) : SeqAt.RcNeAt A s u v (!b) := by
  rcases h with ⟨f, g, rfl⟩ | ⟨rfl, ⟨f, ⟨a, xs, rfl, e⟩ | ⟨a, xs, rfl, e⟩⟩ | ⟨⟨a, xs, rfl, e⟩ | ⟨a, xs, rfl, e⟩, f⟩ | ⟨⟨a, xs, rfl, e⟩, ⟨c, ys, rfl, e2⟩⟩ | ⟨⟨a, xs, rfl, e⟩, ⟨c, ys, rfl, e2⟩⟩⟩
  · exact rcNe_V rx ry f g
  · obtain rfl : v = Value.ref a := ry
    obtain ⟨its, _, p⟩ := I.tupV e
    cases x with
    | non => cases rx; exact SeqAt.RcNeAt.none_tuple p hu
    | bl b => cases rx; exact SeqAt.RcNeAt.bool_tuple b p hu
    | int i => obtain ⟨t, rfl⟩ := rx; exact SeqAt.RcNeAt.int_tuple i t p hu
    | str z => obtain ⟨t, rfl⟩ := rx; exact SeqAt.RcNeAt.str_tuple z t p hu
    | _ => cases f
  · obtain rfl : v = Value.ref a := ry
    obtain ⟨its, _, p⟩ := I.lstV e
    cases x with
    | non => cases rx; exact SeqAt.RcNeAt.none_list p hu
    | bl b => cases rx; exact SeqAt.RcNeAt.bool_list b p hu
    | int i => obtain ⟨t, rfl⟩ := rx; exact SeqAt.RcNeAt.int_list i t p hu
    | str z => obtain ⟨t, rfl⟩ := rx; exact SeqAt.RcNeAt.str_list z t p hu
    | _ => cases f
  · obtain rfl : u = Value.ref a := rx
    obtain ⟨its, _, p⟩ := I.tupV e
    cases y with
    | non => cases ry; exact SeqAt.RcNeAt.tuple_none p hu
    | bl b => cases ry; exact SeqAt.RcNeAt.tuple_bool b p hu
    | int i => obtain ⟨t, rfl⟩ := ry; exact SeqAt.RcNeAt.tuple_int i t p hu
    | str z => obtain ⟨t, rfl⟩ := ry; exact SeqAt.RcNeAt.tuple_str z t p hu
    | _ => cases f
  · obtain rfl : u = Value.ref a := rx
    obtain ⟨its, _, p⟩ := I.lstV e
    cases y with
    | non => cases ry; exact SeqAt.RcNeAt.list_none p hu
    | bl b => cases ry; exact SeqAt.RcNeAt.list_bool b p hu
    | int i => obtain ⟨t, rfl⟩ := ry; exact SeqAt.RcNeAt.list_int i t p hu
    | str z => obtain ⟨t, rfl⟩ := ry; exact SeqAt.RcNeAt.list_str z t p hu
    | _ => cases f
  · obtain rfl : u = Value.ref a := rx
    obtain rfl : v = Value.ref c := ry
    obtain ⟨its, _, p⟩ := I.tupV e
    obtain ⟨its2, _, p2⟩ := I.lstV e2
    exact SeqAt.RcNeAt.tuple_list p p2 hu
  · obtain rfl : u = Value.ref a := rx
    obtain rfl : v = Value.ref c := ry
    obtain ⟨its, _, p⟩ := I.lstV e
    obtain ⟨its2, _, p2⟩ := I.tupV e2
    exact SeqAt.RcNeAt.list_tuple p p2 hu
theorem op_neB : OpR X (compareOp .NotEq) (fun x y H Q => ∃ n b, EqB H n x y b ∧ X.A.units + n + 1 < cLine ∧ Q (.bl !b) H) := by
  intro pins s σ H x y v u Q I rx ry h
  obtain ⟨n, b, h, hu, q⟩ := h
  have done : SeqAt.RcNeAt X.A s v u (!b) → wpAny (model X.prog X.w) X.A (compareOp .NotEq v u) (EP X pins σ Q) X.xe s := fun z => z X.prog X.w X.xe _ ⟨.bl !b, H, I, rfl, q⟩
  cases n with
  | zero => exact done (rcNe_B0 I h rx ry (by omega))
  | succ n =>
    rcases id h with h | ⟨a, c, xs, ys, e, rfl, rfl, ha, hc, hi, eb⟩ | ⟨a, c, xs, ys, e, rfl, rfl, ha, hc, hi, eb⟩
    · exact done (rcNe_B0 I h rx ry (by omega))
    · obtain rfl : v = Value.ref a := rx
      obtain rfl : u = Value.ref c := ry
      obtain ⟨its, r, pa⟩ := I.tupV ha
      obtain ⟨its2, r2, pb⟩ := I.tupV hc
      have z := SeqAt.RcNeAt.tuples (A := X.A) (s := s) (e := e) pa pb (by omega) fun j h1 h2 => by
        obtain ⟨x1, e1, q1⟩ := r.at h1
        obtain ⟨y1, e2, q2⟩ := r2.at h2
        exact eqAt_B I n x1 y1 _ _ _ X.A.in1 (hi j x1 y1 e1 e2) q1 q2 (by show X.A.units + 1 + n < cLine; omega)
      have l1 := r.length; have l2 := r2.length
      rw [List.size_toArray, List.size_toArray, ← l1, ← l2, ← eb] at z
      exact done z
    · obtain rfl : v = Value.ref a := rx
      obtain rfl : u = Value.ref c := ry
      obtain ⟨its, r, pa⟩ := I.lstV ha
      obtain ⟨its2, r2, pb⟩ := I.lstV hc
      have l1 := r.length; have l2 := r2.length
      by_cases hl : xs.length = ys.length
      · have z := SeqAt.RcNeAt.lists (A := X.A) (s := s) (e := e) pa pb (by simp; omega) (by omega) fun j h1 h2 => by
          obtain ⟨x1, e1, q1⟩ := r.at h1
          obtain ⟨y1, e2, q2⟩ := r2.at h2
          exact eqAt_B I n x1 y1 _ _ _ X.A.in1 (hi j x1 y1 e1 e2) q1 q2 (by show X.A.units + 1 + n < cLine; omega)
        rw [List.size_toArray, ← l1] at z
        have eb' : b = (List.range xs.length).all e := by rw [eb, show (xs.length == ys.length) = true from by simpa using hl, Bool.true_and]
        rw [← eb'] at z
        exact done z
      · have eb' : b = false := by rw [eb, show (xs.length == ys.length) = false from by simpa using hl, Bool.false_and]
        subst eb'
        exact done (SeqAt.RcNeAt.lists_lengths pa pb (by simp; omega) (by omega))
end
theorem all3 (e : Nat → Bool) : (List.range (min 3 3)).all e = (e 0 && e 1 && e 2) := by simp [List.range, List.range.loop, Bool.and_assoc]
theorem all4 (e : Nat → Bool) : (List.range (min 4 4)).all e = (e 0 && e 1 && e 2 && e 3) := by simp [List.range, List.range.loop, Bool.and_assoc]
deriving instance DecidableEq for Tm
inductive Srt where
  | int | str | nd
def Ws (g : Str → Srt × Srt) : Tm → Srt → Prop
  | .int _, s => s = .int
  | .str _, s => s = .str
  | .nd m a b, s => s = .nd ∧ Ws g a (g m).1 ∧ Ws g b (g m).2
theorem isT_inj {g : Str → Srt × Srt} {d : Addr} {H : Hp} {kvs : List (List Key × V)} (hd : H d = some (.dT kvs)) (hi : Ints kvs) : ∀ {t t' : Tm} {s : Srt} {v : V}, Ws g t s → Ws g t' s → isT (.num d) H t v → isT (.num d) H t' v → t = t'
  | .int i, t', s, v, w, w', h, h' => by
    have w : s = .int := w
    subst w
    cases t' with
    | int j => have := (show v = _ from h).symm.trans (show v = _ from h'); cases this; rfl
    | str z => cases (show Srt.int = Srt.str from w')
    | nd m a b => cases w'.1
  | .str x, t', s, v, w, w', h, h' => by
    have w : s = .str := w
    subst w
    cases t' with
    | int j => cases (show Srt.str = Srt.int from w')
    | str z => have := (show v = _ from h).symm.trans (show v = _ from h'); cases this; rfl
    | nd m a b => cases w'.1
  | .nd m a b, t', s, v, w, w', h, h' => by
    obtain ⟨rfl, wa, wb⟩ := w
    cases t' with
    | int j => cases (show Srt.nd = Srt.int from w')
    | str z => cases (show Srt.nd = Srt.str from w')
    | nd m' a' b' =>
      obtain ⟨_, wa', wb'⟩ := w'
      obtain ⟨kv1, ka, kb, n, e1, ha, hb, hv, ev⟩ := h
      obtain ⟨kv2, ka', kb', n', e1', ha', hb', hv', ev'⟩ := h'
      rw [hd] at e1 e1'
      cases e1; cases e1'
      rw [ev] at ev'; cases ev'
      have z := hi.inj hv hv'
      simp at z
      obtain ⟨z1, z2, z3⟩ := z
      subst z1 z2 z3
      rw [isT_inj hd hi wa wa' ha ha', isT_inj hd hi wb wb' hb hb']
theorem eqV_dec {x y : V} (kx : ∃ k, x = kV k) (ky : ∃ k, y = kV k) : eqV x y = decide (x = y) := by
  obtain ⟨k, rfl⟩ := kx
  obtain ⟨k', rfl⟩ := ky
  cases k with
  | inl i =>
    cases k' with
    | inl j => show (i == j) = decide (V.int i = V.int j); rw [Bool.eq_iff_iff]; simp
    | inr z => show false = decide (V.int i = V.str z); simp
  | inr w =>
    cases k' with
    | inl j => show false = decide (V.str w = V.int j); simp
    | inr z => show (w == z) = decide (V.str w = V.str z); rw [Bool.eq_iff_iff]; simp
theorem tree_eqB {g : Str → Srt × Srt} {S : Sl} {H : Hp} : ∀ {t t' : Tm} {s : Srt} {x y : V}, (∀ d, S = .num d → Ws g t s ∧ Ws g t' s ∧ ∃ kvs, H d = some (.dT kvs) ∧ Ints kvs) → isT S H t x → isT S H t' y → EqB H t.dep x y (decide (t = t')) := by
  intro t t' s x y hw hx hy
  cases S with
  | num d =>
    obtain ⟨w, w', kvs, hd, hi⟩ := hw d rfl
    obtain ⟨k, ek⟩ := isT_key hx
    obtain ⟨k', ek'⟩ := isT_key hy
    refine EqB.base (.inl ⟨by rw [ek]; exact flat_key k, by rw [ek']; exact flat_key k', ?_⟩) _
    rw [eqV_dec ⟨k, ek⟩ ⟨k', ek'⟩, decide_eq_decide]
    constructor
    · rintro rfl; exact isT_fun hx hy
    · rintro rfl; exact isT_inj hd hi w w' hx hy
  | plain =>
    clear hw
    induction t generalizing t' x y with
    | int i =>
      have hx : x = .int i := hx
      subst hx
      cases t' with
      | int j => have hy : y = .int j := hy; subst hy; exact EqB.base (.inl ⟨rfl, rfl, by show _ = (i == j); rw [Bool.eq_iff_iff]; simp⟩) _
      | str z => have hy : y = .str z := hy; subst hy; exact EqB.base (.inl ⟨rfl, rfl, by show _ = false; simp⟩) _
      | nd m a b => obtain ⟨p, va, vb, rfl, hp, _⟩ := hy; exact EqB.base (.inr ⟨by simp, .inl ⟨rfl, .inl ⟨p, _, rfl, hp⟩⟩⟩) _
    | str w =>
      have hx : x = .str w := hx
      subst hx
      cases t' with
      | int j => have hy : y = .int j := hy; subst hy; exact EqB.base (.inl ⟨rfl, rfl, by show _ = false; simp⟩) _
      | str z => have hy : y = .str z := hy; subst hy; exact EqB.base (.inl ⟨rfl, rfl, by show _ = (w == z); rw [Bool.eq_iff_iff]; simp⟩) _
      | nd m a b => obtain ⟨p, va, vb, rfl, hp, _⟩ := hy; exact EqB.base (.inr ⟨by simp, .inl ⟨rfl, .inl ⟨p, _, rfl, hp⟩⟩⟩) _
    | nd m a b iha ihb =>
      obtain ⟨p, va, vb, rfl, hp, ha, hb⟩ := hx
      cases t' with
      | int j => have hy : y = .int j := hy; subst hy; exact EqB.base (.inr ⟨by simp, .inr (.inl ⟨.inl ⟨p, _, rfl, hp⟩, rfl⟩)⟩) _
      | str z => have hy : y = .str z := hy; subst hy; exact EqB.base (.inr ⟨by simp, .inr (.inl ⟨.inl ⟨p, _, rfl, hp⟩, rfl⟩)⟩) _
      | nd m' a' b' =>
        obtain ⟨p', va', vb', rfl, hp', ha', hb'⟩ := hy
        refine .inr (.inl ⟨p, p', _, _, (fun i => if i = 0 then decide (m = m') else if i = 1 then decide (a = a') else decide (b = b')), rfl, rfl, hp, hp', fun i u v h1 h2 => ?_, ?_⟩)
        · match i, h1, h2 with
          | 0, h1, h2 => simp at h1 h2; subst h1 h2; exact EqB.base (.inl ⟨rfl, rfl, by show _ = (m == m'); rw [Bool.eq_iff_iff]; simp⟩) _
          | 1, h1, h2 => simp at h1 h2; subst h1 h2; exact EqB.up (Nat.le_max_left _ _) (iha ha ha')
          | 2, h1, h2 => simp at h1 h2; subst h1 h2; exact EqB.up (Nat.le_max_right _ _) (ihb hb hb')
          | i + 3, h1, h2 => simp at h1
        · show _ = ((List.range (min 3 3)).all _ && (3 == 3))
          rw [all3, Bool.eq_iff_iff]
          simp [and_assoc]
  | turned =>
    clear hw
    induction t generalizing t' x y with
    | int i =>
      have hx : x = .int i := hx
      subst hx
      cases t' with
      | int j => have hy : y = .int j := hy; subst hy; exact EqB.base (.inl ⟨rfl, rfl, by show _ = (i == j); rw [Bool.eq_iff_iff]; simp⟩) _
      | str z => have hy : y = .str z := hy; subst hy; exact EqB.base (.inl ⟨rfl, rfl, by show _ = false; simp⟩) _
      | nd m a b => obtain ⟨p, va, vb, rfl, hp, _⟩ := hy; exact EqB.base (.inr ⟨by simp, .inl ⟨rfl, .inl ⟨p, _, rfl, hp⟩⟩⟩) _
    | str w =>
      have hx : x = .str w := hx
      subst hx
      cases t' with
      | int j => have hy : y = .int j := hy; subst hy; exact EqB.base (.inl ⟨rfl, rfl, by show _ = false; simp⟩) _
      | str z => have hy : y = .str z := hy; subst hy; exact EqB.base (.inl ⟨rfl, rfl, by show _ = (w == z); rw [Bool.eq_iff_iff]; simp⟩) _
      | nd m a b => obtain ⟨p, va, vb, rfl, hp, _⟩ := hy; exact EqB.base (.inr ⟨by simp, .inl ⟨rfl, .inl ⟨p, _, rfl, hp⟩⟩⟩) _
    | nd m a b iha ihb =>
      obtain ⟨p, va, vb, rfl, hp, ha, hb⟩ := hx
      cases t' with
      | int j => have hy : y = .int j := hy; subst hy; exact EqB.base (.inr ⟨by simp, .inr (.inl ⟨.inl ⟨p, _, rfl, hp⟩, rfl⟩)⟩) _
      | str z => have hy : y = .str z := hy; subst hy; exact EqB.base (.inr ⟨by simp, .inr (.inl ⟨.inl ⟨p, _, rfl, hp⟩, rfl⟩)⟩) _
      | nd m' a' b' =>
        obtain ⟨p', va', vb', rfl, hp', ha', hb'⟩ := hy
        refine .inr (.inl ⟨p, p', _, _, (fun i => if i = 0 then true else if i = 1 then decide (b = b') else if i = 2 then decide (a = a') else decide (m = m')), rfl, rfl, hp, hp', fun i u v h1 h2 => ?_, ?_⟩)
        · match i, h1, h2 with
          | 0, h1, h2 => simp at h1 h2; subst h1 h2; exact EqB.base (.inl ⟨rfl, rfl, by rw [eqV_self rfl]; rfl⟩) _
          | 1, h1, h2 => simp at h1 h2; subst h1 h2; exact EqB.up (Nat.le_max_right _ _) (ihb hb hb')
          | 2, h1, h2 => simp at h1 h2; subst h1 h2; exact EqB.up (Nat.le_max_left _ _) (iha ha ha')
          | 3, h1, h2 => simp at h1 h2; subst h1 h2; exact EqB.base (.inl ⟨rfl, rfl, by show _ = (m == m'); rw [Bool.eq_iff_iff]; simp⟩) _
          | i + 4, h1, h2 => simp at h1
        · show _ = ((List.range (min 4 4)).all _ && (4 == 4))
          rw [all4, Bool.eq_iff_iff]
          simp
          constructor
          · rintro ⟨h1, h2, h3⟩; exact ⟨⟨h3, h2⟩, h1⟩
          · rintro ⟨⟨h3, h2⟩, h1⟩; exact ⟨h1, h2, h3⟩
end L2
namespace Gb
section
variable {α : Type} (pr : α → α → α)
theorem rise_inj (inj : ∀ a b c d, pr a b = pr c d → a = c ∧ b = d) : ∀ {us : List Bool} {os os' : List α} {x x' : α}, us.length = os.length → us.length = os'.length → rise pr us os x = rise pr us os' x' → os = os' ∧ x = x'
  | [], [], [], x, x', _, _, h => ⟨rfl, h⟩
  | u :: us, o :: os, o' :: os', x, x', h1, h2, h => by
    have h : rise pr us os (if u then pr x o else pr o x) = rise pr us os' (if u then pr x' o' else pr o' x') := h
    obtain ⟨e1, e2⟩ := rise_inj inj (by simpa using h1) (by simpa using h2) h
    cases u with
    | true =>
      obtain ⟨a, b⟩ := inj _ _ _ _ e2
      exact ⟨by rw [e1, b], a⟩
    | false =>
      obtain ⟨a, b⟩ := inj _ _ _ _ e2
      exact ⟨by rw [e1, a], b⟩
end
end Gb
namespace Gb
section
variable {α : Type} (nl : α) (pr : α → α → α)
def Sub (ts sub : List α) : Prop := sub.length ≤ ts.length ∧ ∀ x ∈ sub, x ∈ ts
theorem rise_all {Pd : α → Prop} (hp : ∀ a b, Pd a → Pd b → Pd (pr a b)) : ∀ (us : List Bool) (os : List α) (x : α), (∀ t ∈ os, Pd t) → Pd x → Pd (rise pr us os x)
  | [], _, x, _, hx => by unfold rise; exact hx
  | u :: us, [], x, _, hx => by unfold rise; exact hx
  | u :: us, o :: os, x, h, hx => by
    show Pd (rise pr us os (if u then pr x o else pr o x))
    refine rise_all hp us os _ (fun t ht => h t (List.mem_cons_of_mem _ ht)) ?_
    have ho := h o List.mem_cons_self
    cases u
    · exact hp _ _ ho hx
    · exact hp _ _ hx ho
end
end Gb
namespace L2
open PySem PySem.Spec PyProof.Rows
section
variable {prog : Program} {w : World} {A : Around} {E : Value → Shared → Prop} {s : Shared} {R : Result → Shared → Prop}
end
def txSet (i : Nat) (te : TEx) : TSx := fun D R σ H => te σ H (fun v H1 => D.nx (σ.set i (some v)) H1) (R σ)
theorem psx_set {X : Cx} {i : Nat} {x : Str} {e : Expr} {te : TEx} {pos' pos : Pos} (hN : X.N.Nodup) (hi : X.N[i]? = some x) (hx : Loc X.env.scope x) (he : PEx X e te) (hs : swapsWith e (some (.Name x pos')) pos.line X.env = pure false := by rfl) (hf : X.fn x = true ∨ X.env.scope.names.lookup x = some .local := by first | exact .inl rfl | exact .inr rfl | assumption) :
    PSx X (.Assign [.Name x pos'] e pos) (txSet i te) := by
  intro pins s σ H D R I h
  refine wpAny_Assign_Name (wpAny_mono (he pins s σ H _ _ I h) (fun v s1 ⟨y, H1, I1, r1, q1⟩ => store_ok I1 hN hi hx r1 (fun s2 I2 => ⟨_, H1, I2, q1⟩) hf) fun e' s1 ⟨ea, t, C, B, H3, H', σ', s3, e1, I3, F, e2, q⟩ => ?_) hs
  subst e2
  exact ⟨ea, t, C, B, H3, H', _, s3, e1, I3, F, q⟩
theorem comp_range {lo : Int} {n : Nat} {js : List Nat} {te : TE} {σ : St} {H : Hp} {R : Addr → Hp → Prop} (Pv : Addr → Nat → List V → Hp → Prop) (h0 : ∀ D, H D = none → Pv D 0 [] (upd H D (.lst [])))
    (hs : ∀ D (i : Nat) ys H' Qb, H D = none → i < n → Pv D i ys H' → (∀ y H3, H3 D = some (.lst ys) → ys.length < sizeLine → Pv D (i + 1) (ys ++ [y]) (upd H3 D (.lst (ys ++ [y]))) → Qb y H3) → te (some (.int (lo + (i : Nat))) :: capt js σ) H' Qb)
    (hd : ∀ D ys H', H D = none → Pv D n ys H' → R D H') :
    ∀ D, H D = none → ∃ W : Nat → Nat → List V → Hp → Prop, (∃ m, W 0 m [] (upd H D (.lst []))) ∧ ∀ i m ys H, W i m ys H →
      ((Itr lo n).stop i H ∧ R D H) ∨ ((Itr lo n).go i H ∧ ∀ x H', (Itr lo n).yld i H x H' → if true = true then te (some x :: capt js σ) H' fun y H3 => H3 D = some (.lst ys) ∧ ys.length < sizeLine ∧ ∃ m', m' < m ∧ W (i + 1) m' (ys ++ [y]) (upd H3 D (.lst (ys ++ [y])))
        else ∃ m', m' < m ∧ W (i + 1) m' ys H') := by
  intro D hD
  refine ⟨fun i m ys H' => m = n - i ∧ i ≤ n ∧ Pv D i ys H', ⟨n, by simp, by omega, h0 D hD⟩, ?_⟩
  rintro i m ys H' ⟨rfl, hi, hp⟩
  by_cases hlt : i < n
  · refine .inr ⟨hlt, fun x H2 ⟨e2, ex⟩ => ?_⟩
    subst e2 ex
    refine iteT ?_
    exact hs D i ys _ _ hD hlt hp fun y H3 a b c => ⟨a, b, n - (i + 1), by omega, rfl, by omega, c⟩
  · have e : i = n := by omega
    subst e
    exact .inl ⟨Nat.le_refl _, hd D ys H' hD hp⟩
theorem comp_list {K : PySem.W.Frag} {a : Addr} {xs : List V} {js : List Nat} {te : TE} {σ : St} {H : Hp} {R : Addr → Hp → Prop} (Pv : Addr → Nat → List V → Hp → Prop) (h0 : ∀ D, H D = none → Pv D 0 [] (upd H D (.lst []))) (hl : ∀ D i ys H', H D = none → Pv D i ys H' → SqL K H' a xs)
    (hs : ∀ D (i : Nat) x ys H' Qb, H D = none → xs[i]? = some x → Pv D i ys H' → (∀ y H3, H3 D = some (.lst ys) → ys.length < sizeLine → Pv D (i + 1) (ys ++ [y]) (upd H3 D (.lst (ys ++ [y]))) → Qb y H3) → te (some x :: capt js σ) H' Qb)
    (hd : ∀ D ys H', H D = none → Pv D xs.length ys H' → R D H') :
    ∀ D, H D = none → ∃ W : Nat → Nat → List V → Hp → Prop, (∃ m, W 0 m [] (upd H D (.lst []))) ∧ ∀ i m ys H, W i m ys H →
      ((Itl K a).stop i H ∧ R D H) ∨ ((Itl K a).go i H ∧ ∀ x H', (Itl K a).yld i H x H' → if true = true then te (some x :: capt js σ) H' fun y H3 => H3 D = some (.lst ys) ∧ ys.length < sizeLine ∧ ∃ m', m' < m ∧ W (i + 1) m' (ys ++ [y]) (upd H3 D (.lst (ys ++ [y])))
        else ∃ m', m' < m ∧ W (i + 1) m' ys H') := by
  intro D hD
  refine ⟨fun i m ys H' => m = xs.length - i ∧ i ≤ xs.length ∧ Pv D i ys H', ⟨xs.length, by simp, by omega, h0 D hD⟩, ?_⟩
  rintro i m ys H' ⟨rfl, hi, hp⟩
  have hq := hl D i ys H' hD hp
  by_cases hlt : i < xs.length
  · refine .inr ⟨⟨_, xs[i], hq, List.getElem?_eq_getElem hlt⟩, fun x H2 ⟨e2, hx⟩ => ?_⟩
    subst e2
    have ex := hx _ hq
    refine iteT ?_
    exact hs D i x ys _ _ hD ex hp fun y H3 a b c => ⟨a, b, xs.length - (i + 1), by omega, rfl, by omega, c⟩
  · have e : i = xs.length := by omega
    subst e
    exact .inl ⟨⟨_, hq, Nat.le_refl _⟩, hd D ys H' hD hp⟩
theorem same_of {cl env : List (Str × Addr)} (h : ∀ p ∈ cl, env.lookup p.1 = some p.2) : ∀ z c, cl.lookup z = some c → env.lookup z = some c := fun z c e => h (z, c) (PySem.mem_of_lookup e)
theorem Gr.ext {S : Sl} {H H' : Hp} (t : Told S H) (h : ∀ b o, H b = some o → H' b = some o) : Gr S 0 H H' := ⟨⟨fun b o e _ => h b o e, fun d e => by
    obtain ⟨kvs, q⟩ := t d e
    exact ⟨kvs, [], q, by rw [List.append_nil]; exact h _ _ q, Nat.le_refl _, fun z => by simpa using z⟩⟩, fun b o e _ => h b o e⟩
theorem eqB_nil {H : Hp} {a b : Addr} {ws : List V} (ha : H a = some (.lst ws)) (hb : H b = some (.lst [])) : EqB H 1 (.ref a) (.ref b) (decide (ws = [])) := by
  refine .inr (.inr ⟨a, b, ws, [], fun _ => true, rfl, rfl, ha, hb, fun i u v _ h2 => by simp at h2, ?_⟩)
  rw [all_true, Bool.and_true, Bool.eq_iff_iff]
  simp
theorem eqB_flat {H : Hp} {x y : V} (fx : flatV x = true) (fy : flatV y = true) : EqB H 0 x y (eqV x y) := .inl ⟨fx, fy, rfl⟩
def gS (lf : Srt) (m : Str) : Srt × Srt := if m = "leaf" then (.str, lf) else if m = "pair" then (.nd, .nd) else if m = "book" then (.int, .nd) else if m = "row" then (.int, .str) else if m = "fork" then (.nd, .nd) else if m = "table" then (.int, .nd) else (.int, .int)
theorem gS_leaf (lf : Srt) : gS lf "leaf" = (.str, lf) := by unfold gS; rw [if_pos rfl]
theorem gS_pair (lf : Srt) : gS lf "pair" = (.nd, .nd) := by unfold gS; rw [if_neg (by decide), if_pos rfl]
theorem gS_book (lf : Srt) : gS lf "book" = (.int, .nd) := by unfold gS; rw [if_neg (by decide), if_neg (by decide), if_pos rfl]
theorem gS_none (lf : Srt) : gS lf "none" = (.int, .int) := by unfold gS; rw [if_neg (by decide), if_neg (by decide), if_neg (by decide), if_neg (by decide), if_neg (by decide), if_neg (by decide)]
abbrev WsN (lf : Srt) (t : Tm) : Prop := Ws (gS lf) t .nd
theorem ws_nl {lf : Srt} : WsN lf nlT := ⟨rfl, by rw [gS_none]; rfl, by rw [gS_none]; rfl⟩
theorem ws_pr {lf : Srt} {a b : Tm} (h : WsN lf a) (h' : WsN lf b) : WsN lf (prT a b) := ⟨rfl, by rw [gS_pair]; exact h, by rw [gS_pair]; exact h'⟩
theorem ws_book {lf : Srt} {n : Int} {a : Tm} (h : WsN lf a) : WsN lf (.nd "book" (.int n) a) := ⟨rfl, by rw [gS_book]; rfl, by rw [gS_book]; exact h⟩
theorem ws_leaf {lf : Srt} {x : Str} {a : Tm} (h : Ws (gS lf) a lf) : WsN lf (.nd "leaf" (.str x) a) := ⟨rfl, by rw [gS_leaf]; rfl, by rw [gS_leaf]; exact h⟩
theorem ws_rise {lf : Srt} {us : List Bool} {os : List Tm} {x : Tm} (h : ∀ t ∈ os, WsN lf t) (hx : WsN lf x) : WsN lf (Gb.rise prT us os x) := Gb.rise_all prT (fun _ _ a b => ws_pr a b) us os x h hx
theorem rise_dep {B : Nat} : ∀ (us : List Bool) (os : List Tm) (x : Tm) (k : Nat), (∀ t ∈ os, t.dep ≤ B) → x.dep ≤ B + k → (Gb.rise prT us os x).dep ≤ B + k + us.length
  | [], _, x, k, _, hx => by unfold Gb.rise; simpa using hx
  | u :: us, [], x, k, _, hx => by unfold Gb.rise; omega
  | u :: us, o :: os, x, k, h, hx => by
    show (Gb.rise prT us os (if u then prT x o else prT o x)).dep ≤ _
    have ho := h o List.mem_cons_self
    have z := rise_dep us os (if u then prT x o else prT o x) (k + 1) (fun t ht => h t (List.mem_cons_of_mem _ ht)) (by
      cases u
      · show max o.dep x.dep + 1 ≤ _; omega
      · show max x.dep o.dep + 1 ≤ _; omega)
    rw [List.length_cons]; omega
theorem prT_inj : ∀ a b c d, prT a b = prT c d → a = c ∧ b = d := fun a b c d h => by injection h with _ h1 h2; exact ⟨h1, h2⟩
theorem pe_makeM {X : Cx} {C : Addr} {k : Nat} {ps : List Str} {sp : Sp} {x : Str} {p pos : Pos} {e : Expr} {es : List Expr} {t : TA} (M : ∃ fI, Mk X.K C fI) (F : MtP X.prog X.w X.K X.mg X.base C k "__init__" ps sp) (hr : Room (k + 1) X.A) (hg : Gl X x) (hm : X.mg x = some (.ref C)) (ha : PA X (e :: es) t)
    (hdb : (x == ("__debug__" : Str)) = false := by decide) (he : starEach (e :: es) X.env = (false, eval e X.env) :: starEach es X.env := by rfl) (hpl : (backTo pos (starEach es X.env)).any (·.1) = false := by rfl) : PE X (.Call (.Name x p) (e :: es) [] pos) (tMake C sp [] E0 t) := by
  obtain ⟨fI, M⟩ := M
  obtain ⟨f', fd, hm', hb, G⟩ := F
  have q := M.init.symm.trans hm'.at_
  cases q
  exact pe_make M G hr hg hm hb .nil pass0 ha hdb he hpl
end L2
namespace Gb
def gturnsT (n old : Nat) : List Bool :=
  if h : n ≤ old ∨ n < 2 then [] else if old ≤ spl n then true :: gturnsT (spl n) old else false :: gturnsT (n - spl n) (old - spl n)
termination_by n
decreasing_by
  · have := spl_lt (n := n) (by omega); omega
  · have := spl_pos n; omega
theorem gturnsT_end {n old : Nat} (h : n ≤ old ∨ n < 2) : gturnsT n old = [] := by rw [gturnsT, dif_pos h]
theorem gturnsT_low {n old : Nat} (h : old < n) (h2 : 2 ≤ n) (h3 : old ≤ spl n) : gturnsT n old = true :: gturnsT (spl n) old := by rw [gturnsT, dif_neg (by omega), if_pos h3]
theorem gturnsT_high {n old : Nat} (h : old < n) (h2 : 2 ≤ n) (h3 : ¬ old ≤ spl n) : gturnsT n old = false :: gturnsT (n - spl n) (old - spl n) := by rw [gturnsT, dif_neg (by omega), if_neg h3]
theorem gturns_len : ∀ (j n old : Nat), n ≤ 2 ^ j → (gturnsT n old).length ≤ j
  | j, n, old, h => by
    by_cases h0 : n ≤ old ∨ n < 2
    · rw [gturnsT_end h0]; simp
    have h2 : 2 ≤ n := by omega
    have h1 : old < n := by omega
    have x1 := spl_lt h2
    have x2 := spl_pos n
    have x3 := spl_ge h2
    cases j with
    | zero => simp at h; omega
    | succ j =>
      have hs : spl n ≤ 2 ^ j := by
        have : 2 ^ Nat.log2 (n - 1) < 2 ^ (j + 1) := Nat.lt_of_lt_of_le x1 h
        have := (Nat.pow_lt_pow_iff_right (by omega : 1 < 2)).mp this
        unfold spl
        exact Nat.pow_le_pow_right (by omega) (by omega)
      by_cases h3 : old ≤ spl n
      · rw [gturnsT_low h1 h2 h3, List.length_cons]
        have := gturns_len j (spl n) old hs
        omega
      · rw [gturnsT_high h1 h2 h3, List.length_cons]
        have := gturns_len j (n - spl n) (old - spl n) (by omega)
        omega
section
variable {α : Type} (nl : α) (pr : α → α → α)
def stepG (u : Bool) (o : α) (p : α × α) : α × α := if u then (p.1, pr p.2 o) else (pr o p.1, pr o p.2)
def riseG : List Bool → List α → α × α → α × α
  | u :: us, o :: os, p => riseG us os (stepG pr u o p)
  | _, _, p => p
theorem riseG_snoc : ∀ {us : List Bool} {os : List α} {u : Bool} {o : α} {p : α × α}, us.length = os.length → riseG pr (us ++ [u]) (os ++ [o]) p = stepG pr u o (riseG pr us os p)
  | [], [], u, o, p, _ => rfl
  | v :: us, q :: os, u, o, p, h => by
    show riseG pr (us ++ [u]) (os ++ [o]) _ = _
    rw [riseG_snoc (by simpa using h)]
    rfl
theorem riseG_snd : ∀ (us : List Bool) (os : List α) (p : α × α), (riseG pr us os p).2 = rise pr us os p.2
  | [], _, p => by unfold riseG rise; rfl
  | u :: us, [], p => by unfold riseG rise; rfl
  | u :: us, o :: os, p => by
    show (riseG pr us os (stepG pr u o p)).2 = rise pr us os (if u then pr p.2 o else pr o p.2)
    rw [riseG_snd us os]
    cases u <;> rfl
theorem riseG_take {us : List Bool} {os : List α} {i : Nat} {u : Bool} {o : α} {p : α × α} (hl : us.length = os.length) (hu : us[i]? = some u) (ho : os[i]? = some o) :
    riseG pr (us.take (i + 1)) (os.take (i + 1)) p = stepG pr u o (riseG pr (us.take i) (os.take i) p) := by
  rw [List.take_succ, List.take_succ, hu, ho]
  exact riseG_snoc pr (by rw [List.length_take, List.length_take, hl])
theorem riseG_all {Pd : α → Prop} (hp : ∀ a b, Pd a → Pd b → Pd (pr a b)) : ∀ (us : List Bool) (os : List α) (p : α × α), (∀ t ∈ os, Pd t) → Pd p.1 → Pd p.2 → Pd (riseG pr us os p).1 ∧ Pd (riseG pr us os p).2
  | [], _, p, _, h1, h2 => by unfold riseG; exact ⟨h1, h2⟩
  | u :: us, [], p, _, h1, h2 => by unfold riseG; exact ⟨h1, h2⟩
  | u :: us, o :: os, p, h, h1, h2 => by
    show Pd (riseG pr us os (stepG pr u o p)).1 ∧ Pd (riseG pr us os (stepG pr u o p)).2
    have ho := h o List.mem_cons_self
    cases u
    · exact riseG_all hp us os _ (fun t ht => h t (List.mem_cons_of_mem _ ht)) (hp _ _ ho h1) (hp _ _ ho h2)
    · exact riseG_all hp us os _ (fun t ht => h t (List.mem_cons_of_mem _ ht)) h1 (hp _ _ h2 ho)
end
end Gb
namespace L2
open PySem PySem.Spec PyProof.Rows
section
variable {X : Cx}
end
section
variable {P : Program} {w : World} {K : PySem.W.Frag} {mg : Str → Option Value} {base : Heap} {C : Addr}
end
end L2
namespace L2
open PySem PySem.Spec PyProof.Rows
theorem sl_str {X : Cx} : SlR X (fun x lo hi H Q => ∃ z, x = .str z ∧ z.length ≤ sizeLine ∧ Q (.str (Txt.slice z lo hi)) H) := by
  intro pins s σ H x v vl vu lo hi sl Q I rx hs pl pu h
  obtain ⟨z, rfl, hz, q⟩ := h
  obtain ⟨t, rfl⟩ := rx
  refine ⟨"str", _, F.slot_str_getitem.lookup, typeIs_str _ _ _, ?_⟩
  have fin : ∀ t' k, EP X pins σ Q (.str (Txt.slice z lo hi) t') { s with toks := k } := fun t' k => ⟨.str _, H, I.tok _, ⟨_, rfl⟩, q⟩
  cases pl with
  | none =>
    cases pu with
    | none => exact wpAny_getItem_str_slice (l := none) (u := none) (st := none) hs rfl (post_val_or_str ⟨Nat.le_trans (Txt.slice_le z none none) hz, fin⟩)
    | int j uj => exact wpAny_getItem_str_slice (l := none) (u := some (j, uj)) (st := none) hs rfl (post_val_or_str ⟨Nat.le_trans (Txt.slice_le z none (some j)) hz, fin⟩)
  | int i ui =>
    cases pu with
    | none => exact wpAny_getItem_str_slice (l := some (i, ui)) (u := none) (st := none) hs rfl (post_val_or_str ⟨Nat.le_trans (Txt.slice_le z (some i) none) hz, fin⟩)
    | int j uj => exact wpAny_getItem_str_slice (l := some (i, ui)) (u := some (j, uj)) (st := none) hs rfl (post_val_or_str ⟨Nat.le_trans (Txt.slice_le z (some i) (some j)) hz, fin⟩)
def tEi (t u : TE) : TE := fun σ H Q => t σ H Q ∨ u σ H Q
theorem pe_ei {X : Cx} {e : Expr} {t u : TE} (h : PE X e t) (h' : PE X e u) : PE X e (tEi t u) := fun pins s σ H Q I q => by
  rcases q with q | q
  · exact h pins s σ H Q I q
  · exact h' pins s σ H Q I q
theorem joinS {ta tb : TS} {D : Ends} {σ : St} {H : Hp} (R : St → Hp → Prop) (hm : ∀ D' : Ends, (∀ σ' H', R σ' H' → D'.nx σ' H') → ta D' σ H) (hq : ∀ σ' H', R σ' H' → tb D σ' H') : tSeq ta tb D σ H := hm _ hq
theorem comp_tup {K : PySem.W.Frag} {a : Addr} {xs : List V} {js : List Nat} {te : TE} {σ : St} {H : Hp} {R : Addr → Hp → Prop} (Pv : Addr → Nat → List V → Hp → Prop) (h0 : ∀ D, H D = none → Pv D 0 [] (upd H D (.lst []))) (hl : ∀ D i ys H', H D = none → Pv D i ys H' → SqT K H' a xs)
    (hs : ∀ D (i : Nat) x ys H' Qb, H D = none → xs[i]? = some x → Pv D i ys H' → (∀ y H3, H3 D = some (.lst ys) → ys.length < sizeLine → Pv D (i + 1) (ys ++ [y]) (upd H3 D (.lst (ys ++ [y]))) → Qb y H3) → te (some x :: capt js σ) H' Qb)
    (hd : ∀ D ys H', H D = none → Pv D xs.length ys H' → R D H') :
    ∀ D, H D = none → ∃ W : Nat → Nat → List V → Hp → Prop, (∃ m, W 0 m [] (upd H D (.lst []))) ∧ ∀ i m ys H, W i m ys H →
      ((Itt K a).stop i H ∧ R D H) ∨ ((Itt K a).go i H ∧ ∀ x H', (Itt K a).yld i H x H' → if true = true then te (some x :: capt js σ) H' fun y H3 => H3 D = some (.lst ys) ∧ ys.length < sizeLine ∧ ∃ m', m' < m ∧ W (i + 1) m' (ys ++ [y]) (upd H3 D (.lst (ys ++ [y])))
        else ∃ m', m' < m ∧ W (i + 1) m' ys H') := by
  intro D hD
  refine ⟨fun i m ys H' => m = xs.length - i ∧ i ≤ xs.length ∧ Pv D i ys H', ⟨xs.length, by simp, by omega, h0 D hD⟩, ?_⟩
  rintro i m ys H' ⟨rfl, hi, hp⟩
  have hq := hl D i ys H' hD hp
  by_cases hlt : i < xs.length
  · refine .inr ⟨⟨_, xs[i], hq, List.getElem?_eq_getElem hlt⟩, fun x H2 ⟨e2, hx⟩ => ?_⟩
    subst e2
    have ex := hx _ hq
    refine iteT ?_
    exact hs D i x ys _ _ hD ex hp fun y H3 a b c => ⟨a, b, xs.length - (i + 1), by omega, rfl, by omega, c⟩
  · have e : i = xs.length := by omega
    subst e
    exact .inl ⟨⟨_, hq, Nat.le_refl _⟩, hd D ys H' hD hp⟩
theorem comp_listT {K : PySem.W.Frag} {a : Addr} {xs : List V} {js : List Nat} {tt : TT} {te : TE} {σ : St} {H : Hp} {R : Addr → Hp → Prop} (Pv : Addr → Nat → List V → Hp → Prop) (h0 : ∀ D, H D = none → Pv D 0 [] (upd H D (.lst []))) (hl : ∀ D i ys H', H D = none → Pv D i ys H' → SqL K H' a xs)
    (hs : ∀ D (i : Nat) x ys H' (Qe : VK) (Qn : Hp → Prop), H D = none → xs[i]? = some x → Pv D i ys H' → (∀ y H3, H3 D = some (.lst ys) → ys.length < sizeLine → Pv D (i + 1) (ys ++ [y]) (upd H3 D (.lst (ys ++ [y]))) → Qe y H3) → (∀ H2, Pv D (i + 1) ys H2 → Qn H2) →
      tt (some x :: capt js σ) H' fun b H2 => if b = true then te (some x :: capt js σ) H2 Qe else Qn H2)
    (hd : ∀ D ys H', H D = none → Pv D xs.length ys H' → R D H') :
    ∀ D, H D = none → ∃ W : Nat → Nat → List V → Hp → Prop, (∃ m, W 0 m [] (upd H D (.lst []))) ∧ ∀ i m ys H, W i m ys H →
      ((Itl K a).stop i H ∧ R D H) ∨ ((Itl K a).go i H ∧ ∀ x H', (Itl K a).yld i H x H' → tt (some x :: capt js σ) H' fun b H2 => if b = true then te (some x :: capt js σ) H2 fun y H3 => H3 D = some (.lst ys) ∧ ys.length < sizeLine ∧ ∃ m', m' < m ∧ W (i + 1) m' (ys ++ [y]) (upd H3 D (.lst (ys ++ [y])))
        else ∃ m', m' < m ∧ W (i + 1) m' ys H2) := by
  intro D hD
  refine ⟨fun i m ys H' => m = xs.length - i ∧ i ≤ xs.length ∧ Pv D i ys H', ⟨xs.length, by simp, by omega, h0 D hD⟩, ?_⟩
  rintro i m ys H' ⟨rfl, hi, hp⟩
  have hq := hl D i ys H' hD hp
  by_cases hlt : i < xs.length
  · refine .inr ⟨⟨_, xs[i], hq, List.getElem?_eq_getElem hlt⟩, fun x H2 ⟨e2, hx⟩ => ?_⟩
    subst e2
    have ex := hx _ hq
    exact hs D i x ys _ _ _ hD ex hp (fun y H3 a b c => ⟨a, b, xs.length - (i + 1), by omega, rfl, by omega, c⟩) fun H2 c => ⟨xs.length - (i + 1), by omega, rfl, by omega, c⟩
  · have e : i = xs.length := by omega
    subst e
    exact .inl ⟨⟨_, hq, Nat.le_refl _⟩, hd D ys H' hD hp⟩
end L2
namespace My
open PySem L2
def top (i : Nat) : Stmt := PySem.Challenge.pw_growbook_k14_no_two.main.body.getD i (.Pass ⟨0, 0, 0, 0⟩)
abbrev sSplit : Stmt := top 4
abbrev sNone : Stmt := top 5
abbrev sPair : Stmt := top 7
abbrev sLsplit : Stmt := top 38
abbrev sLaw : Stmt := top 46
abbrev sLeafS : Stmt := top 6
abbrev sBook : Stmt := top 8
abbrev sTurns : Stmt := top 9
abbrev sRisen : Stmt := top 10
abbrev sInD : Stmt := top 14
abbrev sRow : Stmt := top 15
abbrev sFork : Stmt := top 16
abbrev sTabS : Stmt := top 17
abbrev sDraw : Stmt := top 36
abbrev sSame : Stmt := top 19
abbrev sLStands : Stmt := top 26
abbrev sGturns : Stmt := top 11
abbrev sGrown : Stmt := top 12
abbrev sLSeal : Stmt := top 35
abbrev sSome : Stmt := top 37
abbrev sLrisen : Stmt := top 39
abbrev sLregrown : Stmt := top 40
abbrev sLstands : Stmt := top 41
abbrev sLgrows : Stmt := top 42
abbrev sLtree : Stmt := top 43
abbrev sLdown : Stmt := top 44
abbrev sLkeys : Stmt := top 45
abbrev sIsNum : Stmt := top 20
abbrev sIsEnd : Stmt := top 21
abbrev sIsWay : Stmt := top 22
abbrev sIsKP : Stmt := top 23
abbrev sWayFits : Stmt := top 24
abbrev sTopW : Stmt := top 25
abbrev sWStands : Stmt := top 27
abbrev mHInit : Stmt := inClass (top 31) 0
abbrev mHJudged : Stmt := inClass (top 31) 1
abbrev mLInit : Stmt := inClass (top 32) 0
abbrev mLJudged : Stmt := inClass (top 32) 1
abbrev mSInit : Stmt := inClass (top 29) 0
abbrev mSJudged : Stmt := inClass (top 29) 1
abbrev mGInit : Stmt := inClass (top 30) 0
abbrev mGJudged : Stmt := inClass (top 30) 1
abbrev mGNone : Stmt := inClass (top 30) 2
abbrev sNumd : Stmt := .Pass ⟨0, 0, 0, 0⟩
def SealAt (K : PySem.W.Frag) (mg : Str → Option Value) (_st : Stmt) (S : Sl) (_H : Hp) (f : Addr) : Prop := S = .plain ∧ mg "_law_seal" = some (.ref f) ∧ ∃ oc od fd sl, K.lookup f = some ⟨oc, od, .func fd, sl⟩
section
variable {P : Program} {w : World} {K : PySem.W.Frag} {mg : Str → Option Value} {base : Heap} {st : Stmt} {S : Sl} {H H' : Hp} {f : Addr}
theorem SealAt.told (h : SealAt K mg st S H f) : Told S H := fun d e => by
  obtain ⟨rfl, _⟩ := h
  cases e
theorem SealAt.up {n : Nat} (h : SealAt K mg st S H f) (_g : Gn S n H H') : SealAt K mg st S H' f := h
theorem SealAt.fny (h : SealAt K mg st S H f) : Fny K H f := .inl h.2.2
theorem SealAt.ints (h : SealAt K mg st S H f) : ∀ d, S = .num d → ∃ kvs, H d = some (.dT kvs) ∧ Ints kvs := fun d e => by
  rw [h.1] at e; cases e
def spSeal (K : PySem.W.Frag) (mg : Str → Option Value) (st : Stmt) : Addr → Sp := fun f vs H Q _ => ∃ S m t1 t2 v1 v2, SealAt K mg st S H f ∧ Cap S H 1 ∧ vs = [.str m, v1, v2] ∧ isT S H t1 v1 ∧ isT S H t2 v2 ∧
  ∀ v H', Gr S 1 H H' → isT S H' (.nd m t1 t2) v → Q v H'
theorem scPl : FnScope mot mot (defScope sLSeal) := ⟨rfl, rfl, rfl, by decide +kernel, rfl, by decide +kernel, by decide +kernel⟩
theorem ok_plain (F : FunAt K mg "_law_seal" sLSeal) : FnP P w K mg base 1 "_law_seal" mot spPlain := by
  refine F.ok scPl (fun _ _ _ _ _ _ us hl => match us, hl with | [_, _, _], _ => rfl) (fun vs H Q E h => ?_) (fun f cdv A outer s H vs Q E hr h => ?_)
  · obtain ⟨m, v1, v2, rfl, _⟩ := h; rfl
  obtain ⟨m, v1, v2, rfl, q⟩ := h
  refine ⟨_, pss_one (ps_ret (pe_tup (pa_cons (pv 0) (pa_cons (pv 1) (pa_cons (pv 2) pa_nil))))), ?_⟩
  exact ⟨_, rfl, _, rfl, _, rfl, (by show 3 ≤ sizeLine; decide), fun p hp => q p hp⟩
theorem seal_ok (Fp : FnP P w K mg base 1 "_law_seal" mot spPlain) : CallOk P w K mg base CX0 1 (spSeal K mg sNumd) := by
  intro f A outer s H us vs Q E hr e0 r h
  obtain ⟨S, m, t1, t2, v1, v2, hS, hc, rfl, i1, i2, q⟩ := h
  have tld := hS.told
  obtain ⟨rfl, hS1, _⟩ := hS
  obtain ⟨f', fd, h1, h2, h3, h4, _⟩ := Fp
  have e := hS1.symm.trans h1
  cases e
  refine h4.called h3 hr e0 r ⟨m, v1, v2, rfl, fun p hp => ?_⟩
  have g : Gr .plain 0 H (upd H p (.tup [.str m, v1, v2])) := .new tld hp
  exact q _ _ (g.up (by omega)) ⟨p, v1, v2, rfl, upd_same, isT_up g.gn i1, isT_up g.gn i2⟩
end
theorem split_val {n : Int} (h : 2 ≤ n) : (1 : Int) * 2 ^ (((Builtin.Int.intBits (n - 1) : Nat) : Int) - 1).toNat = ((Gb.spl n.toNat : Nat) : Int) := by
  have e0 : (n - 1 == 0) = false := by simp; omega
  unfold Builtin.Int.intBits Gb.spl
  rw [e0]
  simp only [Bool.false_eq_true, if_false]
  have e1 : (n - 1).natAbs = n.toNat - 1 := by omega
  have e2 : ((((n - 1).natAbs.log2 + 1 : Nat) : Int) - 1).toNat = (n.toNat - 1).log2 := by rw [e1]; omega
  rw [e2, Int.one_mul]
  push_cast
  rfl
theorem split_bits {n : Int} (h : 2 ≤ n) (h2 : n < 2 ^ 60) : 0 ≤ ((Builtin.Int.intBits (n - 1) : Nat) : Int) - 1 ∧ ((Builtin.Int.intBits (n - 1) : Nat) : Int) - 1 ≤ 1000000 := by
  have e0 : (n - 1 == 0) = false := by simp; omega
  unfold Builtin.Int.intBits
  rw [e0]
  simp only [Bool.false_eq_true, if_false]
  have e3 : (n - 1).natAbs.log2 < 60 := (Nat.log2_lt (by omega)).mpr (by omega)
  omega
def spSplit : Sp := fun vs H Q _ => ∃ n : Int, vs = [.int n] ∧ 2 ≤ n ∧ n < 2 ^ 60 ∧ Q (.int (Gb.spl n.toNat : Nat)) H
section
variable {P : Program} {w : World} {K : PySem.W.Frag} {mg : Str → Option Value} {base : Heap}
theorem scSp : FnScope ["size"] ["size"] (defScope sSplit) := ⟨rfl, rfl, rfl, by decide +kernel, rfl, by decide +kernel, by decide +kernel⟩
theorem ok_split (F : FunAt K mg "split" sSplit) : FnP P w K mg base 1 "split" ["size"] spSplit := by
  refine F.ok scSp (fun _ _ _ _ _ _ us hl => match us, hl with | [_], _ => rfl) (fun vs H Q E h => ?_) (fun f cdv A outer s H vs Q E hr h => ?_)
  · obtain ⟨n, rfl, _⟩ := h; rfl
  obtain ⟨n, rfl, h2, h3, q⟩ := h
  refine ⟨_, pss_cons (ps_if (pt_cmpR op_lt (pv 0) pe_int (nomark _)) (pss_one (ps_ret pe_int)) pss_nil)
    (pss_one (ps_ret (pe_op op_shl pe_int (pe_op op_sub (pe_bm0 PySem.F.plainAttrs_int PySem.F.slot_int_bit_length PySem.F.type_int_bit_length mt_bitlen (pe_op op_sub (pv 0) pe_int)) pe_int)))), ?_⟩
  refine ⟨_, rfl, _, _, rfl, rfl, _, rfl, ?_⟩
  rw [decide_eq_false (by omega)]
  refine iteF ?_
  refine ⟨_, rfl, _, _, rfl, rfl, rfl, _, rfl, rfl, _, _, rfl, rfl, _, _, rfl, rfl, ⟨(split_bits h2 h3).1, (split_bits h2 h3).2, by decide⟩, ?_⟩
  show Q (V.int (1 * 2 ^ (((Builtin.Int.intBits (n - 1) : Nat) : Int) - 1).toNat)) H
  rw [split_val h2]
  exact q
end
section
variable {P : Program} {w : World} {K : PySem.W.Frag} {mg : Str → Option Value} {base : Heap}
theorem scLs : FnScope ["_law_size", "_law_k"] ["_law_size"] (defScope sLsplit) := ⟨rfl, rfl, rfl, by decide +kernel, rfl, by decide +kernel, by decide +kernel⟩
theorem ok_lsplit (F : FunAt K mg "_law_split" sLsplit) : FnP P w K mg base 1 "_law_split" ["_law_size"] spSplit := by
  refine F.ok scLs (fun _ _ _ _ _ _ us hl => match us, hl with | [_], _ => rfl) (fun vs H Q E h => ?_) (fun f cdv A outer s H vs Q E hr h => ?_)
  · obtain ⟨n, rfl, _⟩ := h; rfl
  obtain ⟨n, rfl, h2, h3, q⟩ := h
  have nd := scLs.nd
  refine ⟨_, pss_cons (ps_set (i := 1) nd rfl (Or.inl rfl) pe_int) (pss_cons (ps_while PassesOwn.never (pt_cmpR op_lt (pe_op op_mul (pv 1) pe_int) (pv 0) (nomark _)) (pss_one (ps_set (i := 1) nd rfl (Or.inl rfl) (pe_op op_mul (pv 1) pe_int)))) (pss_one (ps_ret (pv 1)))), ?_⟩
  refine while_by (fun σ H' => H' = H ∧ ∃ j : Nat, σ = [some (.int n), some (.int (2 ^ j : Nat))] ∧ ((2 ^ j : Nat) : Int) < n) (fun σ _ => match σ with | [_, some (.int k)] => (n - k).toNat | _ => 0) ⟨rfl, 0, rfl, by simp; omega⟩ ?_ ?_
  · rintro σ H' ⟨rfl, j, rfl, hj⟩
    have hp : 1 ≤ 2 ^ j := Nat.one_le_two_pow
    refine ⟨_, rfl, _, _, rfl, rfl, .inr ⟨by decide, by decide⟩, _, rfl, _, _, rfl, rfl, _, rfl, ?_⟩
    refine ite2 (fun c => ?_) (fun c => ?_)
    · have c' : ((2 ^ j : Nat) : Int) * 2 < n := of_decide_eq_true c
      have e : ((2 ^ j : Nat) : Int) * 2 = ((2 ^ (j + 1) : Nat) : Int) := by rw [Nat.pow_succ]; push_cast; rfl
      refine ⟨_, rfl, _, _, rfl, rfl, .inr ⟨by decide, by decide⟩, ⟨rfl, j + 1, ?_, by rw [← e]; exact c'⟩, ?_⟩
      · rw [← e]; rfl
      · show (n - ((2 ^ j : Nat) : Int) * 2).toNat < (n - ((2 ^ j : Nat) : Int)).toNat
        omega
    · have c' : ¬ ((2 ^ j : Nat) : Int) * 2 < n := of_decide_eq_false (Bool.eq_false_iff.mpr c)
      refine ⟨_, rfl, ?_⟩
      have e : 2 ^ j = Gb.spl n.toNat := Gb.spl_unique (by omega) (by omega)
      rw [e]; exact q
  · rintro σ H' Q1 Q2 hq ⟨v, e1, i, j, e2, e3, c, v2, e4, i2, j2, e5, e6, k, e7, z⟩
    exact ⟨v, e1, i, j, e2, e3, c, v2, e4, i2, j2, e5, e6, k, e7, hq _ _ z⟩
theorem cut_drop {xs : List V} {k : Nat} : cutV xs (some (k : Int)) none = xs.drop k := by
  unfold cutV
  rw [HT.sIx_none, HT.sIx_nat]
  by_cases h : k ≤ xs.length
  · rw [Nat.min_eq_left h, List.take_of_length_le (by simp)]
  · rw [Nat.min_eq_right (by omega), List.drop_eq_nil_of_le (Nat.le_refl _), List.drop_eq_nil_of_le (by omega)]; simp
end
section
variable {P : Program} {w : World} {K : PySem.W.Frag} {mg : Str → Option Value} {base : Heap}
def spNone (K : PySem.W.Frag) (mg : Str → Option Value) : Sp := fun vs H Q _ => ∃ S f, vs = [.ref f] ∧ SealAt K mg sNumd S H f ∧ Cap S H 1 ∧ ∀ v H', Gr S 1 H H' → isT S H' nlT v → Q v H'
def spPair (K : PySem.W.Frag) (mg : Str → Option Value) : Sp := fun vs H Q _ => ∃ S f t1 t2 v1 v2, vs = [.ref f, v1, v2] ∧ SealAt K mg sNumd S H f ∧ Cap S H 1 ∧ isT S H t1 v1 ∧ isT S H t2 v2 ∧ ∀ v H', Gr S 1 H H' → isT S H' (prT t1 t2) v → Q v H'
theorem scNo : FnScope ["seal"] ["seal"] (defScope sNone) := ⟨rfl, rfl, rfl, by decide +kernel, rfl, by decide +kernel, by decide +kernel⟩
theorem scPa : FnScope ["seal", "first", "rest"] ["seal", "first", "rest"] (defScope sPair) := ⟨rfl, rfl, rfl, by decide +kernel, rfl, by decide +kernel, by decide +kernel⟩
theorem ok_none (F : FunAt K mg "none_seal" sNone) (Fl : CallOk P w K mg base CX0 1 (spSeal K mg sNumd)) : FnP P w K mg base 2 "none_seal" ["seal"] (spNone K mg) := by
  refine F.ok scNo (fun _ _ _ _ _ _ us hl => match us, hl with | [_], _ => rfl) (fun vs H Q E h => ?_) (fun f cdv A outer s H vs Q E hr h => ?_)
  · obtain ⟨S, f, rfl, _⟩ := h; rfl
  obtain ⟨S, f, rfl, hS, hc, q⟩ := h
  refine ⟨_, pss_one (ps_ret (pe_callV (i := 0) Fl hr pass0 rfl (Or.inl rfl) (pa_cons pe_str (pa_cons pe_int (pa_cons pe_int pa_nil))))), ?_⟩
  exact ⟨f, rfl, hS.fny, hS.fny, S, _, .int 0, .int 0, _, _, hS, hc, rfl, rfl, rfl, q⟩
theorem ok_pair (F : FunAt K mg "pair_seal" sPair) (Fl : CallOk P w K mg base CX0 1 (spSeal K mg sNumd)) : FnP P w K mg base 2 "pair_seal" ["seal", "first", "rest"] (spPair K mg) := by
  refine F.ok scPa (fun _ _ _ _ _ _ us hl => match us, hl with | [_, _, _], _ => rfl) (fun vs H Q E h => ?_) (fun f cdv A outer s H vs Q E hr h => ?_)
  · obtain ⟨S, f, t1, t2, v1, v2, rfl, _⟩ := h; rfl
  obtain ⟨S, f, t1, t2, v1, v2, rfl, hS, hc, i1, i2, q⟩ := h
  refine ⟨_, pss_one (ps_ret (pe_callV (i := 0) Fl hr pass0 rfl (Or.inl rfl) (pa_cons pe_str (pa_cons (pv 1) (pa_cons (pv 2) pa_nil))))), ?_⟩
  exact ⟨f, rfl, hS.fny, _, rfl, _, rfl, hS.fny, S, _, t1, t2, _, _, hS, hc, rfl, i1, i2, q⟩
end
section
variable {P : Program} {w : World} {K : PySem.W.Frag} {mg : Str → Option Value} {base : Heap}
def spMark (K : PySem.W.Frag) (mg : Str → Option Value) (m : Str) : Sp := fun vs H Q _ => ∃ S f t1 t2 v1 v2, vs = [.ref f, v1, v2] ∧ SealAt K mg sNumd S H f ∧ Cap S H 1 ∧ isT S H t1 v1 ∧ isT S H t2 v2 ∧ ∀ v H', Gr S 1 H H' → isT S H' (.nd m t1 t2) v → Q v H'
theorem scLeS : FnScope ["seal", "text", "table"] ["seal", "text", "table"] (defScope sLeafS) := ⟨rfl, rfl, rfl, by decide +kernel, rfl, by decide +kernel, by decide +kernel⟩
theorem ok_leafS (F : FunAt K mg "leaf_seal" sLeafS) (Fl : CallOk P w K mg base CX0 1 (spSeal K mg sNumd)) : FnP P w K mg base 2 "leaf_seal" ["seal", "text", "table"] (spMark K mg "leaf") := by
  refine F.ok scLeS (fun _ _ _ _ _ _ us hl => match us, hl with | [_, _, _], _ => rfl) (fun vs H Q E h => ?_) (fun f cdv A outer s H vs Q E hr h => ?_)
  · obtain ⟨S, f, t1, t2, v1, v2, rfl, _⟩ := h; rfl
  obtain ⟨S, f, t1, t2, v1, v2, rfl, hS, hc, i1, i2, q⟩ := h
  refine ⟨_, pss_one (ps_ret (pe_callV (i := 0) Fl hr pass0 rfl (Or.inl rfl) (pa_cons pe_str (pa_cons (pv 1) (pa_cons (pv 2) pa_nil))))), ?_⟩
  exact ⟨f, rfl, hS.fny, _, rfl, _, rfl, hS.fny, S, _, t1, t2, _, _, hS, hc, rfl, i1, i2, q⟩
theorem scBk : FnScope ["seal", "size", "top"] ["seal", "size", "top"] (defScope sBook) := ⟨rfl, rfl, rfl, by decide +kernel, rfl, by decide +kernel, by decide +kernel⟩
theorem ok_book (F : FunAt K mg "book_seal" sBook) (Fl : CallOk P w K mg base CX0 1 (spSeal K mg sNumd)) : FnP P w K mg base 2 "book_seal" ["seal", "size", "top"] (spMark K mg "book") := by
  refine F.ok scBk (fun _ _ _ _ _ _ us hl => match us, hl with | [_, _, _], _ => rfl) (fun vs H Q E h => ?_) (fun f cdv A outer s H vs Q E hr h => ?_)
  · obtain ⟨S, f, t1, t2, v1, v2, rfl, _⟩ := h; rfl
  obtain ⟨S, f, t1, t2, v1, v2, rfl, hS, hc, i1, i2, q⟩ := h
  refine ⟨_, pss_one (ps_ret (pe_callV (i := 0) Fl hr pass0 rfl (Or.inl rfl) (pa_cons pe_str (pa_cons (pv 1) (pa_cons (pv 2) pa_nil))))), ?_⟩
  exact ⟨f, rfl, hS.fny, _, rfl, _, rfl, hS.fny, S, _, t1, t2, _, _, hS, hc, rfl, i1, i2, q⟩
def tV (b : Bool) : V := .str (if b then "first" else "rest")
def spTurns : Sp := fun vs H Q _ => ∃ p n : Nat, vs = [.int p, .int n] ∧ p < n ∧ n ≤ 2 ^ 40 ∧ ∀ r, H r = none → Q (.ref r) (upd H r (.lst ((Gb.turnsT n p).map tV)))
theorem scTurns : FnScope ["place", "size", "turns", "first"] ["place", "size"] (defScope sTurns) := ⟨rfl, rfl, rfl, by decide +kernel, rfl, by decide +kernel, by decide +kernel⟩
theorem ok_turns (F : FunAt K mg "turns_of" sTurns) (Fs : FnP P w K mg base 1 "split" ["size"] spSplit) : FnP P w K mg base 2 "turns_of" ["place", "size"] spTurns := by
  refine F.ok scTurns (fun _ _ _ _ _ _ us hl => match us, hl with | [_, _], _ => rfl) (fun vs H Q E h => ?_) (fun f cdv A outer s H vs Q E hr h => ?_)
  · obtain ⟨p, n, rfl, _⟩ := h; rfl
  obtain ⟨p, n, rfl, hp, hn, q⟩ := h
  have nd := scTurns.nd
  refine ⟨_, pss_cons (ps_set (i := 2) nd rfl (Or.inl rfl) (pe_lst pa_nil)) <|
    pss_cons (ps_while PassesOwn.never (pt_cmpR op_gt (pv 1) pe_int (nomark _)) <|
      pss_cons (ps_set (i := 3) nd rfl (Or.inl rfl) (pe_callN Fs hr rfl (pa_cons (pv 1) pa_nil))) <|
      pss_one (ps_if (pt_cmpR op_lt (pv 0) (pv 3) (nomark _))
        (pss_cons (ps_expr (pe_bm PySem.F.plainAttrs_list PySem.F.slot_list_append PySem.F.type_list_append mt_append (pv 2) (pa_cons pe_str pa_nil))) <| pss_one (ps_set (i := 1) nd rfl (Or.inl rfl) (pv 3)))
        (pss_cons (ps_expr (pe_bm PySem.F.plainAttrs_list PySem.F.slot_list_append PySem.F.type_list_append mt_append (pv 2) (pa_cons pe_str pa_nil))) <| pss_cons (ps_set (i := 0) nd rfl (Or.inl rfl) (pe_op op_sub (pv 0) (pv 3))) <| pss_one (ps_set (i := 1) nd rfl (Or.inl rfl) (pe_op op_sub (pv 1) (pv 3)))))) <|
    pss_one (ps_ret (pv 2)), ?_⟩
  have tl := Gb.turns_len 40 n p hn
  refine ⟨by show 0 ≤ sizeLine; decide, fun r hr0 => ?_⟩
  refine while_by (fun σ H' => ∃ p' n' : Nat, ∃ pre o3, σ = [some (.int p'), some (.int n'), some (.ref r), o3] ∧ H' = upd H r (.lst pre) ∧ pre ++ (Gb.turnsT n' p').map tV = (Gb.turnsT n p).map tV ∧ p' < n' ∧ n' ≤ n)
    (fun σ _ => match σ with | [_, some (.int k), _, _] => k.toNat | _ => 0) ⟨p, n, [], none, rfl, rfl, rfl, hp, Nat.le_refl _⟩ ?_ ?_
  · rintro σ H' ⟨p', n', pre, o3, rfl, rfl, hpre, hp', hn'⟩
    refine ⟨_, rfl, _, _, rfl, rfl, _, rfl, ?_⟩
    have plen : pre.length ≤ 40 := by
      have z := congrArg List.length hpre
      rw [List.length_append, List.length_map, List.length_map] at z
      omega
    refine ite2 (fun c => ?_) (fun c => ?_)
    · have c' : (1 : Int) < (n' : Int) := of_decide_eq_true c
      have h2 : 2 ≤ n' := by omega
      have x1 := Gb.spl_lt h2
      have x2 := Gb.spl_pos n'
      have big : n' < 2 ^ 60 := Nat.lt_of_le_of_lt (Nat.le_trans hn' hn) (by decide)
      refine ⟨_, rfl, _, rfl, by omega, by omega, ?_⟩
      rw [show ((n' : Nat) : Int).toNat = n' from rfl]
      refine ⟨_, rfl, _, rfl, _, _, rfl, rfl, _, rfl, ?_⟩
      refine ite2 (fun c => ?_) (fun c => ?_)
      · have c2 : (p' : Int) < (Gb.spl n' : Nat) := of_decide_eq_true c
        refine ⟨_, rfl, .inl ⟨rfl, _, SqL.of (K := K) upd_same⟩, r, pre, _, rfl, rfl, upd_same, by rw [sizeLine_eq]; omega, ?_⟩
        refine ⟨_, rfl, ⟨p', Gb.spl n', pre ++ [tV true], _, rfl, by rw [upd_upd]; rfl, ?_, by omega, by omega⟩, ?_⟩
        · rw [← hpre, Gb.turnsT_low h2 (by omega)]; simp
        · show ((Gb.spl n' : Nat) : Int).toNat < ((n' : Nat) : Int).toNat
          omega
      · have c2 : ¬ (p' : Int) < (Gb.spl n' : Nat) := of_decide_eq_false (Bool.eq_false_iff.mpr c)
        refine ⟨_, rfl, .inl ⟨rfl, _, SqL.of (K := K) upd_same⟩, r, pre, _, rfl, rfl, upd_same, by rw [sizeLine_eq]; omega, ?_⟩
        refine ⟨_, rfl, _, rfl, _, _, rfl, rfl, _, rfl, _, rfl, _, _, rfl, rfl, ⟨p' - Gb.spl n', n' - Gb.spl n', pre ++ [tV false], some (.int (Gb.spl n' : Nat)), ?_, by rw [upd_upd]; rfl, ?_, by omega, by omega⟩, ?_⟩
        · show [some (V.int ((p' : Int) - (Gb.spl n' : Nat))), some (V.int ((n' : Int) - (Gb.spl n' : Nat))), _, _] = _
          rw [show (p' : Int) - (Gb.spl n' : Nat) = ((p' - Gb.spl n' : Nat) : Int) by omega, show (n' : Int) - (Gb.spl n' : Nat) = ((n' - Gb.spl n' : Nat) : Int) by omega]
        · rw [← hpre, Gb.turnsT_high h2 (by omega)]; simp
        · show ((n' : Int) - (Gb.spl n' : Nat)).toNat < ((n' : Nat) : Int).toNat
          omega
    · have c' : ¬ (1 : Int) < (n' : Int) := of_decide_eq_false (Bool.eq_false_iff.mpr c)
      refine ⟨_, rfl, ?_⟩
      rw [Gb.turnsT_few (show n' < 2 by omega)] at hpre
      have e : pre = (Gb.turnsT n p).map tV := by simpa using hpre
      rw [e]
      exact q r hr0
  · rintro σ H' Q1 Q2 hq ⟨v, e1, i, j, e2, e3, k, e7, z⟩
    exact ⟨v, e1, i, j, e2, e3, k, e7, hq _ _ z⟩
theorem SqT.of {K : PySem.W.Frag} {H : Hp} {a : Addr} {xs : List V} (h : H a = some (.tup xs)) : SqT K H a xs := .inl (.inl h)
def NotL (H : Hp) (pv : V) : Prop := flatV pv = true ∨ ∃ b ws, pv = .ref b ∧ H b = some (.tup ws)
theorem NotL.new {H : Hp} {pv : V} {r : Addr} {o : HO} (h : NotL H pv) (hr : H r = none) : NotL (upd H r o) pv := by
  rcases h with h | ⟨b, ws, rfl, hb⟩
  · exact .inl h
  · exact .inr ⟨b, ws, rfl, by rw [upd_ne (ne_of_none hb hr)]; exact hb⟩
theorem kit_nl {K : PySem.W.Frag} : PySem.W.kitOne K (.type "NoneType") (.type "list") = some false := by unfold PySem.W.kitOne; rw [if_neg (by simp)]; kernel_rfl
theorem kit_bl {K : PySem.W.Frag} : PySem.W.kitOne K (.type "bool") (.type "list") = some false := by unfold PySem.W.kitOne; rw [if_neg (by simp)]; kernel_rfl
theorem kit_il {K : PySem.W.Frag} : PySem.W.kitOne K (.type "int") (.type "list") = some false := by unfold PySem.W.kitOne; rw [if_neg (by simp)]; kernel_rfl
theorem kit_sl {K : PySem.W.Frag} : PySem.W.kitOne K (.type "str") (.type "list") = some false := by unfold PySem.W.kitOne; rw [if_neg (by simp)]; kernel_rfl
theorem NotL.ty {H : Hp} {pv : V} (h : NotL H pv) (K : PySem.W.Frag) : ∃ T, TyOf K H pv T ∧ PySem.W.kitOne K T (.type "list") = some false := by
  rcases h with h | ⟨b, ws, rfl, hb⟩
  · cases pv with
    | non => exact ⟨_, .non, kit_nl⟩
    | bl b => exact ⟨_, .bl b, kit_bl⟩
    | int i => exact ⟨_, .int i, kit_il⟩
    | str x => exact ⟨_, .str x, kit_sl⟩
    | _ => cases h
  · exact ⟨_, .tup hb, kit_tl⟩
def spRisen (K : PySem.W.Frag) (mg : Str → Option Value) (cP : Addr) : Sp := fun vs H Q E => ∃ S f t0 v0, ∃ p n : Nat, ∃ pv, vs = [.ref f, v0, .int p, .int n, pv] ∧ SealAt K mg sNumd S H f ∧ isT S H t0 v0 ∧ p < n ∧ n ≤ 2 ^ 40 ∧
  ((∃ b ws os, pv = .ref b ∧ H b = some (.lst ws) ∧ isTs S H os ws ∧ ws.length = (Gb.turnsT n p).length ∧ Cap S H ws.length ∧ ∀ v H', Gr S ws.length H H' → isT S H' (Gb.rise prT (Gb.turnsT n p).reverse os t0) v → Q v H') ∨
   (((∃ b ws, pv = .ref b ∧ H b = some (.lst ws) ∧ ws.length ≠ (Gb.turnsT n p).length) ∨ NotL H pv) ∧ ∀ H', Gr S 0 H H' → E (.ref cP) none H'))
theorem scRi : FnScope ["seal", "leaf", "place", "size", "path", "turns", "top", "turn", "other"] ["seal", "leaf", "place", "size", "path"] (defScope sRisen) := ⟨rfl, rfl, rfl, by decide +kernel, rfl, by decide +kernel, by decide +kernel⟩
theorem ok_risen {cP : Addr} (F : FunAt K mg "risen" sRisen) (Ft : FnP P w K mg base 2 "turns_of" ["place", "size"] spTurns) (Fp : FnP P w K mg base 2 "pair_seal" ["seal", "first", "rest"] (spPair K mg))
    (xc : XCls K cP) (hP : mg "BadPaper" = some (.ref cP)) (ml : mg "len" = none) (mli : mg "list" = none) (mi : mg "isinstance" = none) (mz : mg "zip" = none) (mre : mg "reversed" = none)
    (kl : PySem.W.kitOne K (.type "list") (.type "list") = some true) : FnX P w K mg base 3 "risen" ["seal", "leaf", "place", "size", "path"] (spRisen K mg cP) := by
  refine F.okX scRi (fun _ _ _ _ _ _ us hl => match us, hl with | [_, _, _, _, _], _ => rfl) (fun vs H Q E h => ?_) (fun f0 cdv A outer s H vs Q E hr h => ?_)
  · obtain ⟨S, f, t0, v0, p, n, pv, rfl, _⟩ := h; rfl
  obtain ⟨S, f, t0, v0, p, n, pvv, rfl, hS, it0, hp, hn, h⟩ := h
  have nd := scRi.nd
  refine ⟨_, pss_cons (ps_set (i := 5) nd rfl (Or.inl rfl) (pe_callN Ft hr rfl (pa_cons (pv 2) (pa_cons (pv 3) pa_nil)))) <|
    pss_cons (ps_if (pt_not (pt_val (pe_callB call_isinst rfl mi PyProof.Rows.boot_isinstance (pa_cons (pv 4) (pa_cons (pe_ty rfl mli PyProof.Rows.boot_list) pa_nil)))))
      (pss_one (ps_raise raises_cx hr.hd xc rfl hP (pa_cons pe_str pa_nil))) pss_nil) <|
    pss_cons (ps_if (pt_cmpR op_ne (pe_callB call_len_seq rfl ml PySem.boot_len (pa_cons (pv 4) pa_nil)) (pe_callB call_len_seq rfl ml PySem.boot_len (pa_cons (pv 5) pa_nil)) (nomark _))
      (pss_one (ps_raise raises_cx hr.hd xc rfl hP (pa_cons pe_str pa_nil))) pss_nil) <|
    pss_cons (ps_set (i := 6) nd rfl (Or.inl rfl) (pv 1)) <|
    pss_cons (ps_for PassesOwn.leaving rfl (pi_zipRev rfl mz rfl mre (pv 5) (pv 4)) (pg_tup rfl (pgs_cons (pg_name (i := 7) nd rfl (Or.inl rfl)) (pgs_cons (pg_name (i := 8) nd rfl (Or.inl rfl)) pgs_nil))) <|
      pss_one (ps_if (pt_cmpR op_eq (pv 7) pe_str (nomark _))
        (pss_one (ps_set (i := 6) nd rfl (Or.inl rfl) (pe_callN Fp hr rfl (pa_cons (pv 0) (pa_cons (pv 6) (pa_cons (pv 8) pa_nil))))))
        (pss_one (ps_set (i := 6) nd rfl (Or.inl rfl) (pe_callN Fp hr rfl (pa_cons (pv 0) (pa_cons (pv 8) (pa_cons (pv 6) pa_nil)))))))) <|
    pss_one (ps_ret (pv 6)), ?_⟩
  refine ⟨_, rfl, _, rfl, p, n, rfl, hp, hn, fun r hr0 => ?_⟩
  have g1 : Gr S 0 H (upd H r (.lst ((Gb.turnsT n p).map tV))) := .new hS.told hr0
  rcases h with ⟨b, ws, os, rfl, hb, hos, hlen, hc, q⟩ | ⟨⟨b, ws, rfl, hb, hne⟩ | hnl, q⟩
  · have hb1 := g1.lst hb
    refine ⟨_, rfl, _, _, _, _, rfl, .lst hb1, kl, _, rfl, ?_⟩
    refine iteF ?_
    refine ⟨_, rfl, b, ws, rfl, .inl (SqL.of hb1), _, rfl, r, _, rfl, .inl (SqL.of upd_same), rfl, _, rfl, ?_⟩
    rw [List.length_map, ← hlen, decide_eq_true rfl]
    refine iteF ?_
    refine ⟨_, rfl, _, rfl, r, _, rfl, SqL.of upd_same, _, rfl, b, ws, rfl, SqL.of upd_same, SqL.of hb1, by rw [List.length_map]; exact hlen.symm, ?_⟩
    have ho := pr_len hos
    have hc1 : Cap S (upd H r (.lst ((Gb.turnsT n p).map tV))) ws.length := hc.go g1.gn (by omega)
    refine for_zipR (by rw [List.length_map]; exact hlen.symm) (fun i σ H' => Gr S i (upd H r (.lst ((Gb.turnsT n p).map tV))) H' ∧ ∃ v o7 o8, σ = [some (.ref f), some v0, some (.int p), some (.int n), some (.ref b), some (.ref r), some v, o7, o8] ∧ isT S H' (Gb.rise prT ((Gb.turnsT n p).reverse.take i) (os.take i) t0) v)
      ⟨.refl g1.gn.told2, v0, none, none, rfl, isT_up g1.gn it0⟩ (fun i σ H' _ h => ⟨SqL.of (h.1.lst upd_same), SqL.of (h.1.lst hb1)⟩) ?_ ?_
    · rintro i u v pp σ H2 hi hu hv hpp ⟨g2, top, o7, o8, rfl, it⟩
      rw [List.length_map] at hi hu
      obtain ⟨tb, htb, rfl⟩ : ∃ tb, (Gb.turnsT n p).reverse[i]? = some tb ∧ u = tV tb := by
        rw [List.getElem?_map] at hu
        rw [List.getElem?_reverse hi]
        cases z : (Gb.turnsT n p)[(Gb.turnsT n p).length - 1 - i]? with
        | none => rw [z] at hu; cases hu
        | some tb => rw [z] at hu; exact ⟨tb, rfl, (Option.some.inj hu).symm⟩
      obtain ⟨to, hto, ito⟩ := pr_get2 hos hv
      have g3 : Gr S 0 H2 (upd H2 pp (.tup [tV tb, v])) := .new g2.gn.told2 hpp
      have g13 := (g1.trans g2).trans g3
      have hS3 := hS.up g13.gn
      have c3 : Cap S (upd H2 pp (.tup [tV tb, v])) 1 := hc.go g13.gn (by omega)
      have itop := isT_up g3.gn it
      have ioth := isT_up g13.gn ito
      refine ⟨pp, _, rfl, SqT.of upd_same, rfl, _, _, rfl, _, _, rfl, rfl, _, rfl, rfl, _, rfl, ?_⟩
      have step := Gb.rise_take prT (x := t0) (by rw [List.length_reverse]; omega) htb hto
      cases tb with
      | true =>
        rw [show decide (tV true = V.str "first") = true from rfl]
        refine iteT ?_
        refine ⟨_, rfl, _, rfl, _, rfl, S, f, _, _, _, _, rfl, hS3, c3, itop, ioth, fun v3 H3 g4 i3 => ⟨(g2.trans (g3.trans g4)).up (by omega), v3, _, _, rfl, ?_⟩⟩
        rw [step]; exact i3
      | false =>
        rw [show decide (tV false = V.str "first") = false from by decide]
        refine iteF ?_
        refine ⟨_, rfl, _, rfl, _, rfl, S, f, _, _, _, _, rfl, hS3, c3, ioth, itop, fun v3 H3 g4 i3 => ⟨(g2.trans (g3.trans g4)).up (by omega), v3, _, _, rfl, ?_⟩⟩
        rw [step]; exact i3
    · rintro σ H2 ⟨g2, top, o7, o8, rfl, it⟩
      rw [List.length_map] at g2 it
      refine ⟨_, rfl, q top H2 ((g1.trans g2).up (by omega)) ?_⟩
      rw [List.take_of_length_le (by rw [List.length_reverse]; omega), List.take_of_length_le (by omega)] at it
      exact it
  · have hb1 := g1.lst hb
    refine ⟨_, rfl, _, _, _, _, rfl, .lst hb1, kl, _, rfl, ?_⟩
    refine iteF ?_
    refine ⟨_, rfl, b, ws, rfl, .inl (SqL.of hb1), _, rfl, r, _, rfl, .inl (SqL.of upd_same), rfl, _, rfl, ?_⟩
    rw [List.length_map, decide_eq_false (show ¬ V.int (ws.length : Int) = V.int ((Gb.turnsT n p).length : Int) from fun z => hne (by injection z with z; omega))]
    refine iteT ?_
    exact ⟨by show 1 ≤ sizeLine; decide, q _ g1⟩
  · obtain ⟨T, hT, hk⟩ := (hnl.new (o := .lst ((Gb.turnsT n p).map tV)) hr0).ty K
    refine ⟨_, rfl, _, _, _, _, rfl, hT, hk, _, rfl, ?_⟩
    refine iteT ?_
    exact ⟨by show 1 ≤ sizeLine; decide, q _ g1⟩
end
end My
namespace My
open PySem L2
section
variable {P : Program} {w : World} {K : PySem.W.Frag} {mg : Str → Option Value} {base : Heap}
theorem scRw : FnScope ["seal", "key", "value"] ["seal", "key", "value"] (defScope sRow) := ⟨rfl, rfl, rfl, by decide +kernel, rfl, by decide +kernel, by decide +kernel⟩
theorem ok_row (F : FunAt K mg "row_seal" sRow) (Fl : CallOk P w K mg base CX0 1 (spSeal K mg sNumd)) : FnP P w K mg base 2 "row_seal" ["seal", "key", "value"] (spMark K mg "row") := by
  refine F.ok scRw (fun _ _ _ _ _ _ us hl => match us, hl with | [_, _, _], _ => rfl) (fun vs H Q E h => ?_) (fun f cdv A outer s H vs Q E hr h => ?_)
  · obtain ⟨S, f, t1, t2, v1, v2, rfl, _⟩ := h; rfl
  obtain ⟨S, f, t1, t2, v1, v2, rfl, hS, hc, i1, i2, q⟩ := h
  refine ⟨_, pss_one (ps_ret (pe_callV (i := 0) Fl hr pass0 rfl (Or.inl rfl) (pa_cons pe_str (pa_cons (pv 1) (pa_cons (pv 2) pa_nil))))), ?_⟩
  exact ⟨f, rfl, hS.fny, _, rfl, _, rfl, hS.fny, S, _, t1, t2, _, _, hS, hc, rfl, i1, i2, q⟩
theorem scFk : FnScope ["seal", "low", "high"] ["seal", "low", "high"] (defScope sFork) := ⟨rfl, rfl, rfl, by decide +kernel, rfl, by decide +kernel, by decide +kernel⟩
theorem ok_fork (F : FunAt K mg "fork_seal" sFork) (Fl : CallOk P w K mg base CX0 1 (spSeal K mg sNumd)) : FnP P w K mg base 2 "fork_seal" ["seal", "low", "high"] (spMark K mg "fork") := by
  refine F.ok scFk (fun _ _ _ _ _ _ us hl => match us, hl with | [_, _, _], _ => rfl) (fun vs H Q E h => ?_) (fun f cdv A outer s H vs Q E hr h => ?_)
  · obtain ⟨S, f, t1, t2, v1, v2, rfl, _⟩ := h; rfl
  obtain ⟨S, f, t1, t2, v1, v2, rfl, hS, hc, i1, i2, q⟩ := h
  refine ⟨_, pss_one (ps_ret (pe_callV (i := 0) Fl hr pass0 rfl (Or.inl rfl) (pa_cons pe_str (pa_cons (pv 1) (pa_cons (pv 2) pa_nil))))), ?_⟩
  exact ⟨f, rfl, hS.fny, _, rfl, _, rfl, hS.fny, S, _, t1, t2, _, _, hS, hc, rfl, i1, i2, q⟩
theorem bit1 (k : Int) (b : Nat) : Builtin.bitAnd (k / 2 ^ ((b : Int)).toNat) 1 = bitAt k b := by
  rw [PyProof.Rows.bitAnd_m1]; rfl
theorem scTS : FnScope ["seal", "depth", "top"] ["seal", "depth", "top"] (defScope sTabS) := ⟨rfl, rfl, rfl, by decide +kernel, rfl, by decide +kernel, by decide +kernel⟩
theorem ok_tabS (F : FunAt K mg "table_seal" sTabS) (Fl : CallOk P w K mg base CX0 1 (spSeal K mg sNumd)) : FnP P w K mg base 2 "table_seal" ["seal", "depth", "top"] (spMark K mg "table") := by
  refine F.ok scTS (fun _ _ _ _ _ _ us hl => match us, hl with | [_, _, _], _ => rfl) (fun vs H Q E h => ?_) (fun f cdv A outer s H vs Q E hr h => ?_)
  · obtain ⟨S, f, t1, t2, v1, v2, rfl, _⟩ := h; rfl
  obtain ⟨S, f, t1, t2, v1, v2, rfl, hS, hc, i1, i2, q⟩ := h
  refine ⟨_, pss_one (ps_ret (pe_callV (i := 0) Fl hr pass0 rfl (Or.inl rfl) (pa_cons pe_str (pa_cons (pv 1) (pa_cons (pv 2) pa_nil))))), ?_⟩
  exact ⟨f, rfl, hS.fny, _, rfl, _, rfl, hS.fny, S, _, t1, t2, _, _, hS, hc, rfl, i1, i2, q⟩
def spInD : Sp := fun vs H Q _ => ∃ (k : Int) (D : Nat), vs = [.int k, .int D] ∧ Q (.bl (decide (0 ≤ k ∧ k < 2 ^ D))) H
theorem scID : FnScope ["key", "depth"] ["key", "depth"] (defScope sInD) := ⟨rfl, rfl, rfl, by decide +kernel, rfl, by decide +kernel, by decide +kernel⟩
theorem ok_ind (F : FunAt K mg "in_depth" sInD) : FnP P w K mg base 1 "in_depth" ["key", "depth"] spInD := by
  refine F.ok scID (fun _ _ _ _ _ _ us hl => match us, hl with | [_, _], _ => rfl) (fun vs H Q E h => ?_) (fun f0 cdv A outer s H vs Q E hr h => ?_)
  · obtain ⟨k, D, rfl, _⟩ := h; rfl
  obtain ⟨k, D, rfl, q⟩ := h
  refine ⟨_, pss_one (ps_ret (pe_and (pe_cmpR op_ge (pv 0) pe_int (nomark _)) (pe_one (pe_cmpR op_le (pe_bm0 PySem.F.plainAttrs_int PySem.F.slot_int_bit_length PySem.F.type_int_bit_length mt_bitlen (pv 0)) (pv 1) (nomark _))))), ?_⟩
  refine ⟨_, rfl, _, _, rfl, rfl, _, rfl, ?_⟩
  refine ite2 (fun c => ?_) (fun c => ?_)
  · have h0 : (0 : Int) ≤ k := of_decide_eq_true c
    refine ⟨_, rfl, rfl, _, rfl, rfl, _, rfl, _, _, rfl, rfl, ?_⟩
    have e : decide (((Builtin.Int.intBits k : Nat) : Int) ≤ (D : Int)) = decide (0 ≤ k ∧ k < 2 ^ D) := by
      rw [decide_eq_decide, bits_lt h0]
      exact ⟨fun z => ⟨h0, z⟩, fun z => z.2⟩
    show Q (V.bl (decide (((Builtin.Int.intBits k : Nat) : Int) ≤ (D : Int)))) H
    rw [e]; exact q
  · have h0 : ¬ (0 : Int) ≤ k := of_decide_eq_false (Bool.eq_false_iff.mpr c)
    rw [decide_eq_false (fun z => h0 z.1)] at q
    exact q
end
section
variable {P : Program} {w : World} {K : PySem.W.Frag} {mg : Str → Option Value} {base : Heap} {C : Addr}
def spDraw : Sp := fun vs H Q _ => ∃ c k m : Int, vs = [.int c, .int k, .int m] ∧ 0 ≤ k ∧ 0 < m ∧ ∀ (v : Int) H', 0 ≤ v → v < m → (∀ b o, H b = some o → H' b = some o) → Q (.int v) H'
theorem scDr : FnScope ["_law_cell", "_law_k", "_law_many", "_law_primes"] ["_law_cell", "_law_k", "_law_many"] (defScope sDraw) := ⟨rfl, rfl, rfl, by decide +kernel, rfl, by decide +kernel, by decide +kernel⟩
def primes : List Int := [1000003, 1000033, 1000037, 1000039, 1000081, 1000099, 1000117, 1000121, 1000133, 1000151, 1000159, 1000171, 1000183, 1000187, 1000193, 1000199]
theorem primes_pos {j : Nat} {p : Int} (h : primes[j]? = some p) : 0 < p := by
  have key : ∀ p ∈ primes, 0 < p := by decide
  exact key p (List.mem_of_getElem? h)
def drA : Stmt := (defBody sDraw).getD 0 (.Pass ⟨0, 0, 0, 0⟩)
def drB : Stmt := (defBody sDraw).getD 1 (.Pass ⟨0, 0, 0, 0⟩)
theorem dr_eq : defBody sDraw = [drA, drB] := rfl
theorem dr_A : ∃ es x1 p1 p2 p3, drA = .Assign [.Name "_law_primes" p1] (.Tuple es x1 p2) p3 ∧ IntCs es primes :=
  ⟨_, _, _, _, _, rfl, .cons (.cons (.cons (.cons (.cons (.cons (.cons (.cons (.cons (.cons (.cons (.cons (.cons (.cons (.cons (.cons .nil)))))))))))))))⟩
theorem ok_draw (F : FunAt K mg "_law_draw" sDraw) : FnP P w K mg base 1 "_law_draw" ["_law_cell", "_law_k", "_law_many"] spDraw := by
  refine F.ok scDr (fun _ _ _ _ _ _ us hl => match us, hl with | [_, _, _], _ => rfl) (fun vs H Q E h => ?_) (fun f0 cdv A outer s H vs Q E hr h => ?_)
  · obtain ⟨c, k, m, rfl, _⟩ := h; rfl
  obtain ⟨c, k, m, rfl, hk, hm, q⟩ := h
  have nd := scDr.nd
  obtain ⟨es, x1, p1, p2, p3, eA, hes⟩ := dr_A
  rw [dr_eq, eA]
  refine ⟨_, pss_cons (ps_set (i := 3) nd rfl (Or.inl rfl) (pe_tup (pa_ints hes))) <|
    pss_one (ps_ret (pe_op op_mod (pe_op op_mod (pe_op op_add (pe_op op_mul (pv 0) pe_int) (pe_op op_mul (pv 1) pe_int)) (pe_ix ix_tup (pv 3) (pe_op op_mod (pv 1) pe_int) (fun _ _ => rfl))) (pv 2))), ?_⟩
  refine ⟨(by show 16 ≤ sizeLine; decide), fun p hp => ?_⟩
  have hj : (k % 16).toNat < primes.length := by show (k % 16).toNat < 16; omega
  obtain ⟨pr, epr⟩ : ∃ pr, primes[(k % 16).toNat]? = some pr := ⟨_, List.getElem?_eq_getElem hj⟩
  have hpr := primes_pos epr
  have eat : atI (primes.map V.int) (k % 16) = some (.int pr) := by
    have z : atI (primes.map V.int) (((k % 16).toNat : Nat) : Int) = some (.int pr) := atI_nat (by rw [List.getElem?_map, epr]; rfl)
    rw [show (((k % 16).toNat : Nat) : Int) = k % 16 by omega] at z
    exact z
  refine ⟨_, rfl, _, _, rfl, rfl, .inr ⟨by decide, by decide⟩, _, rfl, _, _, rfl, rfl, .inr ⟨by decide, by decide⟩, _, _, rfl, rfl, _, rfl, _, rfl, _, _, rfl, rfl, (by show (0 : Int) < 16; decide), p, primes.map V.int, _, _, rfl, rfl, .inl (.inl upd_same), eat, _, _, rfl, rfl, hpr, _, rfl, _, _, rfl, rfl, hm, ?_⟩
  exact q _ _ (Int.emod_nonneg _ (by omega)) (Int.emod_lt_of_pos _ hm) fun b o e => by rw [upd_ne (ne_of_none e hp)]; exact e
end
def SqF (K : PySem.W.Frag) (H : Hp) (a : Addr) (xs : List V) : Prop := (∃ o, H a = some (.frz o (.lst xs))) ∨ ∀ H', SqL K H' a xs
theorem SqF.sq {K : PySem.W.Frag} {H : Hp} {a : Addr} {xs : List V} (h : SqF K H a xs) : SqL K H a xs := by
  rcases h with ⟨o, h⟩ | h
  · exact .inl (.inr ⟨o, h⟩)
  · exact h H
theorem SqF.up {K : PySem.W.Frag} {S : Sl} {n : Nat} {H H' : Hp} {a : Addr} {xs : List V} (h : SqF K H a xs) (g : Gn S n H H') : SqF K H' a xs := by
  rcases h with ⟨o, h⟩ | h
  · exact .inl ⟨o, g.keep _ _ h rfl⟩
  · exact .inr h
theorem sqF_of {K : PySem.W.Frag} {H : Hp} {a : Addr} {xs : List V} (h : SqL K H a xs) (s : Scr K H a xs) : SqF K H a xs := by
  rcases h with (h | ⟨o, h⟩) | h
  · obtain ⟨its, n, r, z, ⟨u, e⟩ | e⟩ := s
    · rw [h] at e; cases e
    · have hl := r.length
      exact .inr fun H' => .inr ⟨_, its.toArray, n, e, rfl, rfl, rfl, by simp; omega, by simpa using r⟩
  · exact .inl ⟨o, h⟩
  · exact .inr fun H' => .inr h
def Gd (lf : Srt) (B : Nat) (t : Tm) : Prop := t.dep ≤ B ∧ WsN lf t
def Pap (lf : Srt) (S : Sl) (H : Hp) (B : Nat) (pv : V) : Option (List Tm) → Prop
  | some os => ∃ b ws, pv = .ref b ∧ H b = some (.lst ws) ∧ isTs S H os ws ∧ ∀ t ∈ os, Gd lf B t
  | none => flatV pv = true ∨ ∃ b ws os, pv = .ref b ∧ H b = some (.tup ws) ∧ isTs S H os ws ∧ ∀ t ∈ os, Gd lf B t
theorem Pap.up {lf : Srt} {S : Sl} {H H' : Hp} {B n : Nat} {pv : V} {po : Option (List Tm)} (h : Pap lf S H B pv po) (g : Gr S n H H') : Pap lf S H' B pv po := by
  cases po with
  | some os =>
    obtain ⟨b, ws, rfl, hb, it, hg⟩ := h
    exact ⟨b, ws, rfl, g.lst hb, isTs_up g.gn it, hg⟩
  | none =>
    rcases h with h | ⟨b, ws, os, rfl, hb, it, hg⟩
    · exact .inl h
    · exact .inr ⟨b, ws, os, rfl, g.gn.keep _ _ hb rfl, isTs_up g.gn it, hg⟩
end My
namespace My
open PySem L2
section
variable {P : Program} {w : World} {K : PySem.W.Frag} {mg : Str → Option Value} {base : Heap}
def spSame : Sp := fun vs H Q _ => ∃ x y n b, vs = [x, y] ∧ EqB H n x y b ∧ n ≤ 400 ∧ Q (.bl b) H
theorem scSa : FnScope ["one", "other"] ["one", "other"] (defScope sSame) := ⟨rfl, rfl, rfl, by decide +kernel, rfl, by decide +kernel, by decide +kernel⟩
theorem ok_same (F : FunAt K mg "same" sSame) (mb : mg "bool" = none) : FnP P w K mg base 20 "same" ["one", "other"] spSame := by
  refine F.ok scSa (fun _ _ _ _ _ _ us hl => match us, hl with | [_, _], _ => rfl) (fun vs H Q E h => ?_) (fun f0 cdv A outer s H vs Q E hr h => ?_)
  · obtain ⟨x, y, n, b, rfl, _⟩ := h; rfl
  obtain ⟨x, y, n, b, rfl, he, hn, q⟩ := h
  have hun := hr.un
  refine ⟨_, pss_one (ps_ret (pe_callTy call_bool1 rfl mb PyProof.Rows.boot_bool (pa_cons (pe_cmpR op_eqB (pv 0) (pv 1) (nomark _)) pa_nil))), ?_⟩
  exact ⟨_, rfl, _, rfl, n, b, he, by show (A.deeper (PyProof.Rows.envOfC "same" (defScope sSame) s.heap.objs.size f0 cdv)).units + n + 1 < cLine; omega, .inr ⟨b, rfl, q⟩⟩
def stB (po : Option (List Tm)) (size place : Int) (th tl : Tm) : Bool := match po with
  | none => false
  | some os => decide (0 ≤ place ∧ place < size ∧ os.length = (Gb.turnsT size.toNat place.toNat).length ∧ Tm.nd "book" (.int size) (Gb.rise prT (Gb.turnsT size.toNat place.toNat).reverse os tl) = th)
def spStands (K : PySem.W.Frag) (mg : Str → Option Value) (lf : Srt) (B : Nat) : Sp := fun vs H Q _ => ∃ S f th vh tl vl pv po, ∃ size place : Int, vs = [.ref f, .int size, vh, .int place, vl, pv] ∧ SealAt K mg sNumd S H f ∧ Cap S H 50 ∧ isT S H th vh ∧ isT S H tl vl ∧ Gd lf B th ∧ Gd lf B tl ∧ Pap lf S H B pv po ∧ size ≤ 2 ^ 40 ∧ B ≤ 300 ∧
  ∀ H', Gr S 50 H H' → Q (.bl (stB po size place th tl)) H'
theorem Pap.notL {lf : Srt} {S : Sl} {H : Hp} {B : Nat} {pv : V} (h : Pap lf S H B pv none) : NotL H pv := by
  rcases h with h | ⟨b, ws, os, rfl, hb, _⟩
  · exact .inl h
  · exact .inr ⟨b, ws, rfl, hb⟩
theorem scLS : FnScope ["seal", "size", "head", "place", "leaf", "path", "top"] ["seal", "size", "head", "place", "leaf", "path"] (defScope sLStands) := ⟨rfl, rfl, rfl, by decide +kernel, rfl, by decide +kernel, by decide +kernel⟩
theorem ok_lstands {cP : Addr} (F : FunAt K mg "leaf_stands" sLStands) (Fr : FnX P w K mg base 3 "risen" ["seal", "leaf", "place", "size", "path"] (spRisen K mg cP)) (Fb : FnP P w K mg base 2 "book_seal" ["seal", "size", "top"] (spMark K mg "book")) (Fs : FnP P w K mg base 20 "same" ["one", "other"] spSame)
    (xc : XCls K cP) (hP : mg "BadPaper" = some (.ref cP)) (lf : Srt) (B : Nat) : FnP P w K mg base 21 "leaf_stands" ["seal", "size", "head", "place", "leaf", "path"] (spStands K mg lf B) := by
  refine F.ok scLS (fun _ _ _ _ _ _ us hl => match us, hl with | [_, _, _, _, _, _], _ => rfl) (fun vs H Q E h => ?_) (fun f0 cdv A outer s H vs Q E hr h => ?_)
  · obtain ⟨S, f, th, vh, tl, vl, pv, po, size, place, rfl, _⟩ := h; rfl
  obtain ⟨S, f, th, vh, tl, vl, pvv, po, size, place, rfl, hS, hc, ih, il, gh, gl, hp, hsz, hB, q⟩ := h
  have nd := scLS.nd
  refine ⟨_, pss_cons (ps_if (PW.pt (pw_or (pt_cmpR op_lt (pv 3) pe_int (nomark _)) (pw_or1 (pt_cmpR op_ge (pv 3) (pv 1) (nomark _))))) (pss_one (ps_ret pe_bl)) pss_nil) <|
    pss_cons (ps_try0 rfl ⟨rfl, rfl⟩ xc rfl hP
      (pssx_cons (psx_set (i := 6) nd rfl (Or.inl rfl) (pex_callN Fr (hr.mono (by omega)) rfl (pa_cons (pv 0) (pa_cons (pv 4) (pa_cons (pv 3) (pa_cons (pv 1) (pa_cons (pv 5) pa_nil))))))) pssx_nil)
      (fun e => pss_one (ps_ret pe_bl))) <|
    pss_one (ps_ret (pe_callN Fs hr rfl (pa_cons (pe_callN Fb (hr.mono (by omega)) rfl (pa_cons (pv 0) (pa_cons (pv 1) (pa_cons (pv 6) pa_nil)))) (pa_cons (pv 2) pa_nil)))), ?_⟩
  have no : ¬ (0 ≤ place ∧ place < size) → ∀ H', Gr S 50 H H' → Q (.bl false) H' := fun hn H' g => by
    have z := q H' g
    have e : stB po size place th tl = false := by
      cases po with
      | none => rfl
      | some os => exact decide_eq_false fun y => hn ⟨y.1, y.2.1⟩
    rw [e] at z; exact z
  refine ⟨_, rfl, _, _, rfl, rfl, _, rfl, ?_⟩
  refine ite2 (fun c => ?_) (fun c => ?_)
  · have c' : place < 0 := of_decide_eq_true c
    exact iteT (no (by omega) H ((Gr.refl hS.told).up (by omega)))
  have c0 : ¬ place < 0 := of_decide_eq_false (Bool.eq_false_iff.mpr c)
  refine ⟨_, rfl, _, rfl, _, _, rfl, rfl, _, rfl, ?_⟩
  refine ite2 (fun c => ?_) (fun c => ?_)
  · have c' : place ≥ size := of_decide_eq_true c
    exact no (by omega) H ((Gr.refl hS.told).up (by omega))
  have c1 : ¬ place ≥ size := of_decide_eq_false (Bool.eq_false_iff.mpr c)
  obtain ⟨pl, rfl⟩ : ∃ pl : Nat, place = (pl : Int) := ⟨place.toNat, by omega⟩
  obtain ⟨sz, rfl⟩ : ∃ sz : Nat, size = (sz : Int) := ⟨size.toNat, by omega⟩
  have hps : pl < sz := by omega
  have hs40 : sz ≤ 2 ^ 40 := by
    have e : ((2 ^ 40 : Nat) : Int) = (2 : Int) ^ 40 := by norm_cast
    omega
  have tl40 := Gb.turns_len 40 sz pl hs40
  refine ⟨_, rfl, _, rfl, _, rfl, _, rfl, _, rfl, S, f, tl, vl, pl, sz, pvv, rfl, hS, il, hps, hs40, ?_⟩
  have bad : ∀ H1, Gr S 0 H H1 → stB po (sz : Int) (pl : Int) th tl = false → Q (.bl false) H1 := fun H1 g e => by
    have z := q H1 (g.up (by omega))
    rw [e] at z; exact z
  cases po with
  | none => exact .inr ⟨.inr hp.notL, fun H1 g => ⟨cP, rfl, rfl, bad H1 g rfl⟩⟩
  | some os =>
    obtain ⟨b, ws, rfl, hb, it, hg⟩ := hp
    have wl := pr_len it
    by_cases hlen : ws.length = (Gb.turnsT sz pl).length
    · refine .inl ⟨b, ws, os, rfl, hb, it, hlen, hc.dn (by omega), fun v H1 g1 i1 => ?_⟩
      refine ⟨_, rfl, _, rfl, _, rfl, S, f, .int sz, _, _, _, rfl, hS.up g1.gn, hc.go g1.gn (by omega), rfl, i1, fun v2 H2 g2 i2 => ?_⟩
      have g12 := g1.trans g2
      have hS2 := hS.up g12.gn
      have hw : WsN lf (.nd "book" (.int sz) (Gb.rise prT (Gb.turnsT sz pl).reverse os tl)) := ws_book (ws_rise (fun t ht => (hg t ht).2) gl.2)
      have rd := rise_dep (B := B) (Gb.turnsT sz pl).reverse os tl 0 (fun t ht => (hg t ht).1) (by have := gl.1; omega)
      rw [List.length_reverse] at rd
      refine ⟨_, rfl, _, _, _, _, rfl, tree_eqB (g := gS lf) (s := .nd) (fun d e => ⟨hw, gh.2, hS2.ints d e⟩) i2 (isT_up g12.gn ih), ?_, ?_⟩
      · show max 0 (Gb.rise prT (Gb.turnsT sz pl).reverse os tl).dep + 1 ≤ 400
        omega
      · have z := q H2 (g12.up (by omega))
        have e : stB (some os) (sz : Int) (pl : Int) th tl = decide (Tm.nd "book" (.int sz) (Gb.rise prT (Gb.turnsT sz pl).reverse os tl) = th) := by
          show decide _ = decide _
          rw [decide_eq_decide]
          exact ⟨fun y => y.2.2.2, fun y => ⟨by omega, by omega, by rw [← pr_len it] at hlen; exact hlen, y⟩⟩
        rw [e] at z; exact z
    · refine .inr ⟨.inl ⟨b, ws, rfl, hb, hlen⟩, fun H1 g => ⟨cP, rfl, rfl, bad H1 g ?_⟩⟩
      exact decide_eq_false fun y => hlen (by rw [← wl]; exact y.2.2.1)
structure TxS (K : PySem.W.Frag) (mg : Str → Option Value) (C cC : Addr) : Prop where
  cl : Cls K C
  n1 : NoAttr K C "place"
  n2 : NoAttr K C "entry"
  n3 : NoAttr K C "behind"
  mgC : mg "Stands" = some (.ref C)
  mgB : mg "Claim" = some (.ref cC)
  fo : PySem.W.findIn K (.ref C) "__class__" = some (some (.builtin "object.__class__"))
  sp : PySem.W.specialIn K (.builtin "object.__class__") "__get__" = some (some (.builtin "getset_descriptor.__get__"))
  tk : PySem.W.takesIn K (.builtin "object.__class__") = some true
  mo : PySem.W.mroIn K C (.type "object") = some true
  kB : PySem.W.kitOne K (.ref C) (.ref cC) = some true
def flS (p : Int) (x : Str) (v : V) : List (Str × V) := [("place", .int p), ("entry", .str x), ("behind", v)]
theorem flS_new (p : Int) (x : Str) (v : V) : putF "behind" v (putF "entry" (.str x) (putF "place" (.int p) [])) = flS p x v := by
  have e : putF "entry" (.str x) (putF "place" (.int p) []) = ([("place", .int p), ("entry", .str x)] : List (Str × V)) := by
    show (if ("place" : Str) = "entry" then _ else (("place" : Str), V.int p) :: [(("entry" : Str), V.str x)]) = _
    rw [if_neg (by decide +kernel)]
  rw [e]
  show (if ("place" : Str) = "behind" then _ else (("place" : Str), V.int p) :: (if ("entry" : Str) = "behind" then _ else (("entry" : Str), V.str x) :: [(("behind" : Str), v)])) = _
  rw [if_neg (by decide +kernel), if_neg (by decide +kernel)]; rfl
theorem flS_2 (p : Int) (x : Str) : (putF "entry" (V.str x) (putF "place" (.int p) [])).length = 2 := by
  have e : putF "entry" (.str x) (putF "place" (.int p) []) = ([("place", .int p), ("entry", .str x)] : List (Str × V)) := by
    show (if ("place" : Str) = "entry" then _ else (("place" : Str), V.int p) :: [(("entry" : Str), V.str x)]) = _
    rw [if_neg (by decide +kernel)]
  rw [e]; rfl
def StAt (C : Addr) (H : Hp) (x : Addr) (p : Int) (z : Str) (v : V) : Prop := ∃ dx, H x = some (.ins C dx (flS p z v))
theorem StAt.up {C : Addr} {S : Sl} {H H' : Hp} {x : Addr} {p : Int} {z : Str} {v : V} {n : Nat} (h : StAt C H x p z v) (g : Gr S n H H') : StAt C H' x p z v := by
  obtain ⟨dx, h⟩ := h
  exact ⟨dx, g.same h (fun _ e => nomatch e)⟩
variable {C cC : Addr}
def spSI (C : Addr) : Sp := fun vs H Q _ => ∃ (p dx : Addr) (pl : Int) (z : Str) (v : V), vs = [.ref p, .int pl, .str z, v] ∧ H p = some (.ins C dx []) ∧ ∀ H', StAt C H' p pl z v → (∀ b o, H b = some o → b ≠ p → H' b = some o) → Q .non H'
theorem scSI : FnScope ["self", "place", "text", "table"] ["self", "place", "text", "table"] (defScope mSInit) := ⟨rfl, rfl, rfl, by decide +kernel, rfl, by decide +kernel, by decide +kernel⟩
theorem ok_sinit (F : MethAt K C "__init__" "Stands.__init__" mSInit) (T : TxS K mg C cC) : MtP P w K mg base C 1 "__init__" ["self", "place", "text", "table"] (spSI C) := by
  refine F.ok scSI (fun _ _ _ _ _ _ us hl => match us, hl with | [_, _, _, _], _ => rfl) (fun vs H Q E h => ?_) (fun f0 cdv A outer s H vs Q E hr h => ?_)
  · obtain ⟨p, dx, pl, z, v, rfl, _⟩ := h; rfl
  obtain ⟨p, dx, pl, z, v, rfl, hp, k⟩ := h
  refine ⟨_, pss_cons (ps_fld (pv 0) (pv 1) rfl) <| pss_cons (ps_fld (pv 0) (pv 2) rfl) <| pss_one (ps_fld (pv 0) (pv 3) rfl), ?_⟩
  refine ⟨_, rfl, _, rfl, p, C, dx, [], rfl, hp, T.cl, T.n1, (by show 0 < 1000; decide), ?_⟩
  refine ⟨_, rfl, _, rfl, p, C, dx, _, rfl, upd_same, T.cl, T.n2, (by show 1 < 1000; decide), ?_⟩
  refine ⟨_, rfl, _, rfl, p, C, dx, _, rfl, upd_same, T.cl, T.n3, (by rw [flS_2]; decide), ?_⟩
  refine k _ ⟨dx, ?_⟩ fun b o e hb => ?_
  · rw [upd_same, flS_new]
  · rw [upd_ne hb, upd_ne hb, upd_ne hb]; exact e
def spSJ (K : PySem.W.Frag) (mg : Str → Option Value) (C : Addr) (lf : Srt) (B : Nat) : Sp := fun vs H Q _ => ∃ S x f th vh ti vi pv po, ∃ size place : Int, ∃ z : Str, vs = [.ref x, .ref f, .int size, vh, pv] ∧ StAt C H x place z vi ∧ SealAt K mg sNumd S H f ∧ Cap S H 51 ∧ isT S H th vh ∧ isT S H ti vi ∧ Gd lf B th ∧ Gd lf B (.nd "leaf" (.str z) ti) ∧ Pap lf S H B pv po ∧ size ≤ 2 ^ 40 ∧ B ≤ 300 ∧
  ∀ H', Gr S 51 H H' → Q (.bl (stB po size place th (.nd "leaf" (.str z) ti))) H'
theorem scSJ : FnScope ["self", "seal", "size", "head", "paper", "leaf"] ["self", "seal", "size", "head", "paper"] (defScope mSJudged) := ⟨rfl, rfl, rfl, by decide +kernel, rfl, by decide +kernel, by decide +kernel⟩
theorem ok_sjudged (F : MethAt K C "judged" "Stands.judged" mSJudged) (T : TxS K mg C cC) (Fl : FnP P w K mg base 2 "leaf_seal" ["seal", "text", "table"] (spMark K mg "leaf")) (lf : Srt) (B : Nat) (Fs : FnP P w K mg base 21 "leaf_stands" ["seal", "size", "head", "place", "leaf", "path"] (spStands K mg lf B)) :
    MtP P w K mg base C 22 "judged" ["self", "seal", "size", "head", "paper"] (spSJ K mg C lf B) := by
  refine F.ok scSJ (fun _ _ _ _ _ _ us hl => match us, hl with | [_, _, _, _, _], _ => rfl) (fun vs H Q E h => ?_) (fun f0 cdv A outer s H vs Q E hr h => ?_)
  · obtain ⟨S, x, f, th, vh, ti, vi, pv, po, size, place, z, rfl, _⟩ := h; rfl
  obtain ⟨S, x, f, th, vh, ti, vi, pvv, po, size, place, z, rfl, ⟨dx, hx⟩, hS, hc, ih, ii, gh, gl, hp, hsz, hB, q⟩ := h
  have nd := scSJ.nd
  refine ⟨_, pss_cons (ps_set (i := 5) nd rfl (Or.inl rfl) (pe_callN Fl (hr.mono (by omega)) rfl (pa_cons (pv 1) (pa_cons (pe_fld (pv 0) rfl) (pa_cons (pe_fld (pv 0) rfl) pa_nil))))) <|
    pss_one (ps_ret (pe_callN Fs hr rfl (pa_cons (pv 1) (pa_cons (pv 2) (pa_cons (pv 3) (pa_cons (pe_fld (pv 0) rfl) (pa_cons (pv 5) (pa_cons (pv 4) pa_nil)))))))), ?_⟩
  refine ⟨_, rfl, _, rfl, x, C, dx, _, _, rfl, hx, T.cl, T.n2, rfl, _, rfl, x, C, dx, _, _, rfl, hx, T.cl, T.n3, rfl, S, f, .str z, ti, _, _, rfl, hS, hc.dn (by omega), rfl, ii, fun v H1 g1 i1 => ?_⟩
  have hx1 := g1.same hx (fun _ e => nomatch e)
  exact ⟨_, rfl, _, rfl, _, rfl, _, rfl, x, C, dx, _, _, rfl, hx1, T.cl, T.n1, rfl, _, rfl, _, rfl, S, f, th, vh, _, _, pvv, po, size, place, rfl, hS.up g1.gn, hc.go g1.gn (by omega), isT_up g1.gn ih, i1, gh, gl, hp.up g1, hsz, hB, fun H2 g2 => q H2 ((g1.trans g2).up (by omega))⟩
end
end My
namespace My
open PySem L2
section
variable {P : Program} {w : World} {K : PySem.W.Frag} {mg : Str → Option Value} {base : Heap}
def spGturns : Sp := fun vs H Q _ => ∃ old n : Nat, vs = [.int old, .int n] ∧ 1 ≤ old ∧ n ≤ 2 ^ 40 ∧ ∀ r, H r = none → Q (.ref r) (upd H r (.lst ((Gb.gturnsT n old).map tV)))
theorem scGt : FnScope ["old", "size", "turns", "first"] ["old", "size"] (defScope sGturns) := ⟨rfl, rfl, rfl, by decide +kernel, rfl, by decide +kernel, by decide +kernel⟩
theorem ok_gturns (F : FunAt K mg "growth_turns" sGturns) (Fs : FnP P w K mg base 1 "split" ["size"] spSplit) : FnP P w K mg base 2 "growth_turns" ["old", "size"] spGturns := by
  refine F.ok scGt (fun _ _ _ _ _ _ us hl => match us, hl with | [_, _], _ => rfl) (fun vs H Q E h => ?_) (fun f cdv A outer s H vs Q E hr h => ?_)
  · obtain ⟨p, n, rfl, _⟩ := h; rfl
  obtain ⟨p, n, rfl, hp, hn, q⟩ := h
  have nd := scGt.nd
  refine ⟨_, pss_cons (ps_set (i := 2) nd rfl (Or.inl rfl) (pe_lst pa_nil)) <|
    pss_cons (ps_while PassesOwn.never (pt_cmpR op_lt (pv 0) (pv 1) (nomark _)) <|
      pss_cons (ps_set (i := 3) nd rfl (Or.inl rfl) (pe_callN Fs hr rfl (pa_cons (pv 1) pa_nil))) <|
      pss_one (ps_if (pt_cmpR op_le (pv 0) (pv 3) (nomark _))
        (pss_cons (ps_expr (pe_bm PySem.F.plainAttrs_list PySem.F.slot_list_append PySem.F.type_list_append mt_append (pv 2) (pa_cons pe_str pa_nil))) <| pss_one (ps_set (i := 1) nd rfl (Or.inl rfl) (pv 3)))
        (pss_cons (ps_expr (pe_bm PySem.F.plainAttrs_list PySem.F.slot_list_append PySem.F.type_list_append mt_append (pv 2) (pa_cons pe_str pa_nil))) <| pss_cons (ps_set (i := 0) nd rfl (Or.inl rfl) (pe_op op_sub (pv 0) (pv 3))) <| pss_one (ps_set (i := 1) nd rfl (Or.inl rfl) (pe_op op_sub (pv 1) (pv 3)))))) <|
    pss_one (ps_ret (pv 2)), ?_⟩
  have tl := Gb.gturns_len 40 n p hn
  refine ⟨by show 0 ≤ sizeLine; decide, fun r hr0 => ?_⟩
  refine while_by (fun σ H' => ∃ p' n' : Nat, ∃ pre o3, σ = [some (.int p'), some (.int n'), some (.ref r), o3] ∧ H' = upd H r (.lst pre) ∧ pre ++ (Gb.gturnsT n' p').map tV = (Gb.gturnsT n p).map tV ∧ 1 ≤ p' ∧ n' ≤ n)
    (fun σ _ => match σ with | [_, some (.int k), _, _] => k.toNat | _ => 0) ⟨p, n, [], none, rfl, rfl, rfl, hp, Nat.le_refl _⟩ ?_ ?_
  · rintro σ H' ⟨p', n', pre, o3, rfl, rfl, hpre, hp', hn'⟩
    refine ⟨_, rfl, _, rfl, _, _, rfl, rfl, _, rfl, ?_⟩
    have plen : pre.length ≤ 40 := by
      have z := congrArg List.length hpre
      rw [List.length_append, List.length_map, List.length_map] at z
      omega
    refine ite2 (fun c => ?_) (fun c => ?_)
    · have c' : (p' : Int) < (n' : Int) := of_decide_eq_true c
      have h2 : 2 ≤ n' := by omega
      have x1 := Gb.spl_lt h2
      have x2 := Gb.spl_pos n'
      have big : n' < 2 ^ 60 := Nat.lt_of_le_of_lt (Nat.le_trans hn' hn) (by decide)
      refine ⟨_, rfl, _, rfl, by omega, by omega, ?_⟩
      rw [show ((n' : Nat) : Int).toNat = n' from rfl]
      refine ⟨_, rfl, _, rfl, _, _, rfl, rfl, _, rfl, ?_⟩
      refine ite2 (fun c => ?_) (fun c => ?_)
      · have c2 : (p' : Int) ≤ (Gb.spl n' : Nat) := of_decide_eq_true c
        refine ⟨_, rfl, .inl ⟨rfl, _, SqL.of (K := K) upd_same⟩, r, pre, _, rfl, rfl, upd_same, by rw [sizeLine_eq]; omega, ?_⟩
        refine ⟨_, rfl, ⟨p', Gb.spl n', pre ++ [tV true], _, rfl, by rw [upd_upd]; rfl, ?_, by omega, by omega⟩, ?_⟩
        · rw [← hpre, Gb.gturnsT_low (by omega) h2 (by omega)]; simp
        · show ((Gb.spl n' : Nat) : Int).toNat < ((n' : Nat) : Int).toNat
          omega
      · have c2 : ¬ (p' : Int) ≤ (Gb.spl n' : Nat) := of_decide_eq_false (Bool.eq_false_iff.mpr c)
        refine ⟨_, rfl, .inl ⟨rfl, _, SqL.of (K := K) upd_same⟩, r, pre, _, rfl, rfl, upd_same, by rw [sizeLine_eq]; omega, ?_⟩
        refine ⟨_, rfl, _, rfl, _, _, rfl, rfl, _, rfl, _, rfl, _, _, rfl, rfl, ⟨p' - Gb.spl n', n' - Gb.spl n', pre ++ [tV false], some (.int (Gb.spl n' : Nat)), ?_, by rw [upd_upd]; rfl, ?_, by omega, by omega⟩, ?_⟩
        · show [some (V.int ((p' : Int) - (Gb.spl n' : Nat))), some (V.int ((n' : Int) - (Gb.spl n' : Nat))), _, _] = _
          rw [show (p' : Int) - (Gb.spl n' : Nat) = ((p' - Gb.spl n' : Nat) : Int) by omega, show (n' : Int) - (Gb.spl n' : Nat) = ((n' - Gb.spl n' : Nat) : Int) by omega]
        · rw [← hpre, Gb.gturnsT_high (by omega) h2 (by omega)]; simp
        · show ((n' : Int) - (Gb.spl n' : Nat)).toNat < ((n' : Nat) : Int).toNat
          omega
    · have c' : ¬ (p' : Int) < (n' : Int) := of_decide_eq_false (Bool.eq_false_iff.mpr c)
      refine ⟨_, rfl, ?_⟩
      rw [Gb.gturnsT_end (.inl (show n' ≤ p' by omega))] at hpre
      have e : pre = (Gb.gturnsT n p).map tV := by simpa using hpre
      rw [e]
      exact q r hr0
  · rintro σ H' Q1 Q2 hq ⟨v, e1, v2, e4, i, j, e2, e3, k, e7, z⟩
    exact ⟨v, e1, v2, e4, i, j, e2, e3, k, e7, hq _ _ z⟩
def spGrown (K : PySem.W.Frag) (mg : Str → Option Value) (cP : Addr) : Sp := fun vs H Q E => ∃ S f, ∃ p n : Nat, ∃ pv, vs = [.ref f, .int p, .int n, pv] ∧ SealAt K mg sNumd S H f ∧ 1 ≤ p ∧ n ≤ 2 ^ 40 ∧
  ((∃ b ws g0 os, pv = .ref b ∧ H b = some (.lst ws) ∧ isTs S H (g0 :: os) ws ∧ os.length = (Gb.gturnsT n p).length ∧ Cap S H (2 * os.length) ∧ ∀ r v1 v2 H', Gr S (2 * os.length) H H' → H' r = some (.tup [v1, v2]) → isT S H' (Gb.riseG prT (Gb.gturnsT n p).reverse os (g0, g0)).1 v1 → isT S H' (Gb.riseG prT (Gb.gturnsT n p).reverse os (g0, g0)).2 v2 → Q (.ref r) H') ∨
   (((∃ b ws, pv = .ref b ∧ H b = some (.lst ws) ∧ ws.length ≠ (Gb.gturnsT n p).length + 1) ∨ NotL H pv) ∧ ∀ H', Gr S 0 H H' → E (.ref cP) none H'))
theorem scGrn : FnScope ["seal", "old", "size", "growth", "turns", "before", "after", "turn", "other"] ["seal", "old", "size", "growth"] (defScope sGrown) := ⟨rfl, rfl, rfl, by decide +kernel, rfl, by decide +kernel, by decide +kernel⟩
theorem ok_grown {cP : Addr} (F : FunAt K mg "grown" sGrown) (Ft : FnP P w K mg base 2 "growth_turns" ["old", "size"] spGturns) (Fp : FnP P w K mg base 2 "pair_seal" ["seal", "first", "rest"] (spPair K mg))
    (xc : XCls K cP) (hP : mg "BadPaper" = some (.ref cP)) (ml : mg "len" = none) (mli : mg "list" = none) (mi : mg "isinstance" = none) (mz : mg "zip" = none) (mre : mg "reversed" = none) : FnX P w K mg base 3 "grown" ["seal", "old", "size", "growth"] (spGrown K mg cP) := by
  refine F.okX scGrn (fun _ _ _ _ _ _ us hl => match us, hl with | [_, _, _, _], _ => rfl) (fun vs H Q E h => ?_) (fun f0 cdv A outer s H vs Q E hr h => ?_)
  · obtain ⟨S, f, p, n, pv, rfl, _⟩ := h; rfl
  obtain ⟨S, f, p, n, pvv, rfl, hS, hp, hn, h⟩ := h
  have nd := scGrn.nd
  refine ⟨_, pss_cons (ps_set (i := 4) nd rfl (Or.inl rfl) (pe_callN Ft hr rfl (pa_cons (pv 1) (pa_cons (pv 2) pa_nil)))) <|
    pss_cons (ps_if (pt_not (pt_val (pe_callB call_isinst rfl mi PyProof.Rows.boot_isinstance (pa_cons (pv 3) (pa_cons (pe_ty rfl mli PyProof.Rows.boot_list) pa_nil)))))
      (pss_one (ps_raise raises_cx hr.hd xc rfl hP (pa_cons pe_str pa_nil))) pss_nil) <|
    pss_cons (ps_if (pt_cmpR op_ne (pe_callB call_len_seq rfl ml PySem.boot_len (pa_cons (pv 3) pa_nil)) (pe_op op_add (pe_callB call_len_seq rfl ml PySem.boot_len (pa_cons (pv 4) pa_nil)) pe_int) (nomark _))
      (pss_one (ps_raise raises_cx hr.hd xc rfl hP (pa_cons pe_str pa_nil))) pss_nil) <|
    pss_cons (ps_set (i := 5) nd rfl (Or.inl rfl) (pe_ix ix_list (pv 3) pe_int (fun _ _ => rfl))) <|
    pss_cons (ps_set (i := 6) nd rfl (Or.inl rfl) (pe_ix ix_list (pv 3) pe_int (fun _ _ => rfl))) <|
    pss_cons (ps_for PassesOwn.leaving rfl (pi_zipRev rfl mz rfl mre (pv 4) (pe_slice sl_list (pv 3) (po_some pe_int) po_none)) (pg_tup rfl (pgs_cons (pg_name (i := 7) nd rfl (Or.inl rfl)) (pgs_cons (pg_name (i := 8) nd rfl (Or.inl rfl)) pgs_nil))) <|
      pss_one (ps_if (pt_cmpR op_eq (pv 7) pe_str (nomark _))
        (pss_one (ps_set (i := 6) nd rfl (Or.inl rfl) (pe_callN Fp hr rfl (pa_cons (pv 0) (pa_cons (pv 6) (pa_cons (pv 8) pa_nil))))))
        (pss_cons (ps_set (i := 5) nd rfl (Or.inl rfl) (pe_callN Fp hr rfl (pa_cons (pv 0) (pa_cons (pv 8) (pa_cons (pv 5) pa_nil))))) <| pss_one (ps_set (i := 6) nd rfl (Or.inl rfl) (pe_callN Fp hr rfl (pa_cons (pv 0) (pa_cons (pv 8) (pa_cons (pv 6) pa_nil)))))))) <|
    pss_one (ps_ret (pe_tup (pa_cons (pv 5) (pa_cons (pv 6) pa_nil)))), ?_⟩
  refine ⟨_, rfl, _, rfl, p, n, rfl, hp, hn, fun r hr0 => ?_⟩
  have g1 : Gr S 0 H (upd H r (.lst ((Gb.gturnsT n p).map tV))) := .new hS.told hr0
  rcases h with ⟨b, ws, g0, os, rfl, hb, hos, hlen, hc, q⟩ | ⟨⟨b, ws, rfl, hb, hne⟩ | hnl, q⟩
  · have hb1 := g1.lst hb
    have ho := pr_len hos
    rw [List.length_cons] at ho
    refine ⟨_, rfl, _, _, _, _, rfl, .lst hb1, kit_ll, _, rfl, ?_⟩
    refine iteF ?_
    refine ⟨_, rfl, b, ws, rfl, .inl (SqL.of hb1), _, rfl, r, _, rfl, .inl (SqL.of upd_same), _, _, rfl, rfl, rfl, _, rfl, ?_⟩
    rw [List.length_map, decide_eq_true (show V.int (ws.length : Int) = V.int (((Gb.gturnsT n p).length : Int) + 1) from congrArg V.int (by omega))]
    refine iteF ?_
    obtain ⟨w0, wr, rfl, i0, ir⟩ : ∃ w0 wr, ws = w0 :: wr ∧ isT S H g0 w0 ∧ isTs S H os wr := by
      cases hos with
      | cons a t => exact ⟨_, _, rfl, a, t⟩
    refine ⟨_, rfl, b, _, _, w0, rfl, rfl, SqL.of hb1, atI_nat (j := 0) rfl, _, rfl, b, _, _, w0, rfl, rfl, SqL.of hb1, atI_nat (j := 0) rfl, ?_⟩
    refine ⟨_, rfl, r, _, rfl, SqL.of upd_same, _, rfl, _, rfl, b, _, rfl, SqL.of hb1, fun p2 hp2 => ?_⟩
    have ec : cutV (w0 :: wr) (some (1 : Int)) none = wr := cut_drop (xs := w0 :: wr) (k := 1)
    rw [ec]
    have g2 : Gr S 0 _ (upd (upd H r (.lst ((Gb.gturnsT n p).map tV))) p2 (.lst wr)) := .new g1.gn.told2 hp2
    have g12 := g1.trans g2
    have hr2 := g2.lst (show upd H r (.lst ((Gb.gturnsT n p).map tV)) r = some (.lst ((Gb.gturnsT n p).map tV)) from upd_same)
    have ol := pr_len ir
    refine ⟨p2, wr, rfl, SqL.of hr2, SqL.of upd_same, by rw [List.length_map]; omega, ?_⟩
    have hc2 : Cap S (upd (upd H r (.lst ((Gb.gturnsT n p).map tV))) p2 (.lst wr)) (2 * os.length) := hc.go g12.gn (by omega)
    refine for_zipR (by rw [List.length_map]; omega) (fun i σ H' => Gr S (2 * i) (upd (upd H r (.lst ((Gb.gturnsT n p).map tV))) p2 (.lst wr)) H' ∧ ∃ v1 v2 o7 o8, σ = [some (.ref f), some (.int p), some (.int n), some (.ref b), some (.ref r), some v1, some v2, o7, o8] ∧
        isT S H' (Gb.riseG prT ((Gb.gturnsT n p).reverse.take i) (os.take i) (g0, g0)).1 v1 ∧ isT S H' (Gb.riseG prT ((Gb.gturnsT n p).reverse.take i) (os.take i) (g0, g0)).2 v2)
      ⟨.refl g12.gn.told2, w0, w0, none, none, rfl, isT_up g12.gn i0, isT_up g12.gn i0⟩ (fun i σ H' _ h => ⟨SqL.of (h.1.lst hr2), SqL.of (h.1.lst upd_same)⟩) ?_ ?_
    · rintro i u v pp σ H2 hi hu hv hpp ⟨g3, v1, v2, o7, o8, rfl, it1, it2⟩
      rw [List.length_map] at hi hu
      obtain ⟨tb, htb, rfl⟩ : ∃ tb, (Gb.gturnsT n p).reverse[i]? = some tb ∧ u = tV tb := by
        rw [List.getElem?_map] at hu
        rw [List.getElem?_reverse hi]
        cases z : (Gb.gturnsT n p)[(Gb.gturnsT n p).length - 1 - i]? with
        | none => rw [z] at hu; cases hu
        | some tb => rw [z] at hu; exact ⟨tb, rfl, (Option.some.inj hu).symm⟩
      obtain ⟨to, hto, ito⟩ := pr_get2 ir hv
      have g4 : Gr S 0 H2 (upd H2 pp (.tup [tV tb, v])) := .new g3.gn.told2 hpp
      have g14 := (g12.trans g3).trans g4
      have hS4 := hS.up g14.gn
      have c4 : Cap S (upd H2 pp (.tup [tV tb, v])) 2 := hc.go g14.gn (by omega)
      have j1 := isT_up g4.gn it1
      have j2 := isT_up g4.gn it2
      have ioth := isT_up g14.gn ito
      refine ⟨pp, _, rfl, SqT.of upd_same, rfl, _, _, rfl, _, _, rfl, rfl, _, rfl, rfl, _, rfl, ?_⟩
      have step := Gb.riseG_take prT (p := (g0, g0)) (by rw [List.length_reverse]; omega) htb hto
      cases tb with
      | true =>
        rw [show decide (tV true = V.str "first") = true from rfl]
        refine iteT ?_
        refine ⟨_, rfl, _, rfl, _, rfl, S, f, _, _, _, _, rfl, hS4, c4.dn (by omega), j2, ioth, fun v3 H3 g5 i3 => ⟨(g3.trans (g4.trans g5)).up (by omega), v1, v3, _, _, rfl, ?_, ?_⟩⟩
        · rw [step]; exact isT_up g5.gn j1
        · rw [step]; exact i3
      | false =>
        rw [show decide (tV false = V.str "first") = false from by decide]
        refine iteF ?_
        refine ⟨_, rfl, _, rfl, _, rfl, S, f, _, _, _, _, rfl, hS4, c4.dn (by omega), ioth, j1, fun v3 H3 g5 i3 => ?_⟩
        refine ⟨_, rfl, _, rfl, _, rfl, S, f, _, _, _, _, rfl, hS4.up g5.gn, c4.go g5.gn (by omega), isT_up g5.gn ioth, isT_up g5.gn j2, fun v4 H4 g6 i4 => ⟨(g3.trans (g4.trans (g5.trans g6))).up (by omega), v3, v4, _, _, rfl, ?_, ?_⟩⟩
        · rw [step]; exact isT_up g6.gn i3
        · rw [step]; exact i4
    · rintro σ H2 ⟨g3, v1, v2, o7, o8, rfl, it1, it2⟩
      rw [List.length_map] at g3 it1 it2
      rw [List.take_of_length_le (by rw [List.length_reverse]; omega), List.take_of_length_le (by omega)] at it1 it2
      refine ⟨_, rfl, _, rfl, (by show 2 ≤ sizeLine; decide), fun p4 hp4 => ?_⟩
      have g4 : Gr S 0 H2 (upd H2 p4 (.tup [v1, v2])) := .new g3.gn.told2 hp4
      exact q p4 v1 v2 _ (((g12.trans g3).trans g4).up (by omega)) upd_same (isT_up g4.gn it1) (isT_up g4.gn it2)
  · have hb1 := g1.lst hb
    refine ⟨_, rfl, _, _, _, _, rfl, .lst hb1, kit_ll, _, rfl, ?_⟩
    refine iteF ?_
    refine ⟨_, rfl, b, ws, rfl, .inl (SqL.of hb1), _, rfl, r, _, rfl, .inl (SqL.of upd_same), _, _, rfl, rfl, rfl, _, rfl, ?_⟩
    rw [List.length_map, decide_eq_false (show ¬ V.int (ws.length : Int) = V.int (((Gb.gturnsT n p).length : Int) + 1) from fun z => hne (by injection z with z; omega))]
    refine iteT ?_
    exact ⟨by show 1 ≤ sizeLine; decide, q _ g1⟩
  · obtain ⟨T, hT, hk⟩ := (hnl.new (o := .lst ((Gb.gturnsT n p).map tV)) hr0).ty K
    refine ⟨_, rfl, _, _, _, _, rfl, hT, hk, _, rfl, ?_⟩
    refine iteT ?_
    exact ⟨by show 1 ≤ sizeLine; decide, q _ g1⟩
end
abbrev mtT : Tm := .nd "book" (.int 0) nlT
def grB (po : Option (List Tm)) (size old : Int) (th te : Tm) : Bool := match po with
  | none => false
  | some [] => decide (old = 0 ∧ (size = 0 → mtT = th) ∧ mtT = te)
  | some (g0 :: os) => decide (0 < old ∧ old ≤ size ∧ os.length = (Gb.gturnsT size.toNat old.toNat).length ∧ Tm.nd "book" (.int old) (Gb.riseG prT (Gb.gturnsT size.toNat old.toNat).reverse os (g0, g0)).1 = te ∧ Tm.nd "book" (.int size) (Gb.riseG prT (Gb.gturnsT size.toNat old.toNat).reverse os (g0, g0)).2 = th)
theorem gr_cons0 {g0 : Tm} {os : List Tm} {size : Int} {th te : Tm} : grB (some (g0 :: os)) size 0 th te = false := by unfold grB; exact decide_eq_false fun y => absurd y.1 (by omega)
theorem gr_nil1 {size old : Int} {th te : Tm} (h : old ≠ 0) : grB (some []) size old th te = false := by unfold grB; exact decide_eq_false fun y => h y.1
structure TxG (K : PySem.W.Frag) (mg : Str → Option Value) (C cC : Addr) : Prop where
  cl : Cls K C
  n1 : NoAttr K C "old"
  n2 : NoAttr K C "early"
  mgC : mg "Grows" = some (.ref C)
  mgB : mg "Claim" = some (.ref cC)
  fo : PySem.W.findIn K (.ref C) "__class__" = some (some (.builtin "object.__class__"))
  sp : PySem.W.specialIn K (.builtin "object.__class__") "__get__" = some (some (.builtin "getset_descriptor.__get__"))
  tk : PySem.W.takesIn K (.builtin "object.__class__") = some true
  mo : PySem.W.mroIn K C (.type "object") = some true
  kB : PySem.W.kitOne K (.ref C) (.ref cC) = some true
def flG (p : Int) (v : V) : List (Str × V) := [("old", .int p), ("early", v)]
theorem flG_new (p : Int) (v : V) : putF "early" v (putF "old" (.int p) []) = flG p v := by
  show (if ("old" : Str) = "early" then _ else (("old" : Str), V.int p) :: [(("early" : Str), v)]) = _
  rw [if_neg (by decide +kernel)]; rfl
def GrAt (C : Addr) (H : Hp) (x : Addr) (p : Int) (v : V) : Prop := ∃ dx, H x = some (.ins C dx (flG p v))
theorem GrAt.up {C : Addr} {S : Sl} {H H' : Hp} {x : Addr} {p : Int} {v : V} {n : Nat} (h : GrAt C H x p v) (g : Gr S n H H') : GrAt C H' x p v := by
  obtain ⟨dx, h⟩ := h
  exact ⟨dx, g.same h (fun _ e => nomatch e)⟩
section
variable {P : Program} {w : World} {K : PySem.W.Frag} {mg : Str → Option Value} {base : Heap} {C cC : Addr}
def spGI (C : Addr) : Sp := fun vs H Q _ => ∃ (p dx : Addr) (pl : Int) (v : V), vs = [.ref p, .int pl, v] ∧ H p = some (.ins C dx []) ∧ ∀ H', GrAt C H' p pl v → (∀ b o, H b = some o → b ≠ p → H' b = some o) → Q .non H'
theorem scGI : FnScope ["self", "old", "head"] ["self", "old", "head"] (defScope mGInit) := ⟨rfl, rfl, rfl, by decide +kernel, rfl, by decide +kernel, by decide +kernel⟩
theorem ok_ginit (F : MethAt K C "__init__" "Grows.__init__" mGInit) (T : TxG K mg C cC) : MtP P w K mg base C 1 "__init__" ["self", "old", "head"] (spGI C) := by
  refine F.ok scGI (fun _ _ _ _ _ _ us hl => match us, hl with | [_, _, _], _ => rfl) (fun vs H Q E h => ?_) (fun f0 cdv A outer s H vs Q E hr h => ?_)
  · obtain ⟨p, dx, pl, v, rfl, _⟩ := h; rfl
  obtain ⟨p, dx, pl, v, rfl, hp, k⟩ := h
  refine ⟨_, pss_cons (ps_fld (pv 0) (pv 1) rfl) <| pss_one (ps_fld (pv 0) (pv 2) rfl), ?_⟩
  refine ⟨_, rfl, _, rfl, p, C, dx, [], rfl, hp, T.cl, T.n1, (by show 0 < 1000; decide), ?_⟩
  refine ⟨_, rfl, _, rfl, p, C, dx, _, rfl, upd_same, T.cl, T.n2, (by show 1 < 1000; decide), ?_⟩
  refine k _ ⟨dx, ?_⟩ fun b o e hb => ?_
  · rw [upd_same, flG_new]
  · rw [upd_ne hb, upd_ne hb]; exact e
def spGN (K : PySem.W.Frag) (mg : Str → Option Value) (C : Addr) (lf : Srt) (B : Nat) : Sp := fun vs H Q _ => ∃ S x f th vh te ve pv po, ∃ size : Nat, vs = [.ref x, .ref f, .int size, vh, pv] ∧ GrAt C H x 0 ve ∧ SealAt K mg sNumd S H f ∧ Cap S H 2 ∧ isT S H th vh ∧ isT S H te ve ∧ Gd lf B th ∧ Gd lf B te ∧ Pap lf S H B pv po ∧ B ≤ 300 ∧
  ∀ H', Gr S 2 H H' → Q (.bl (grB po size 0 th te)) H'
theorem scGN : FnScope ["self", "seal", "size", "head", "paper", "empty"] ["self", "seal", "size", "head", "paper"] (defScope mGNone) := ⟨rfl, rfl, rfl, by decide +kernel, rfl, by decide +kernel, by decide +kernel⟩
theorem gd_mt {lf : Srt} {B : Nat} (h : 2 ≤ B) : Gd lf B mtT := ⟨h, ws_book ws_nl⟩
theorem ok_gnone (F : MethAt K C "judged_from_none" "Grows.judged_from_none" mGNone) (T : TxG K mg C cC) (Fn : FnP P w K mg base 2 "none_seal" ["seal"] (spNone K mg)) (Fb : FnP P w K mg base 2 "book_seal" ["seal", "size", "top"] (spMark K mg "book")) (Fs : FnP P w K mg base 20 "same" ["one", "other"] spSame) (ml : mg "len" = none) (mli : mg "list" = none) (mi : mg "isinstance" = none) (lf : Srt) (B : Nat) :
    MtP P w K mg base C 21 "judged_from_none" ["self", "seal", "size", "head", "paper"] (spGN K mg C lf B) := by
  refine F.ok scGN (fun _ _ _ _ _ _ us hl => match us, hl with | [_, _, _, _, _], _ => rfl) (fun vs H Q E h => ?_) (fun f0 cdv A outer s H vs Q E hr h => ?_)
  · obtain ⟨S, x, f, th, vh, te, ve, pv, po, size, rfl, _⟩ := h; rfl
  obtain ⟨S, x, f, th, vh, te, ve, pvv, po, size, rfl, ⟨dx, hx⟩, hS, hc, ih, ie, gh, ge, hp, hB, q⟩ := h
  have nd := scGN.nd
  refine ⟨_, pss_cons (ps_if (PW.pt (pw_or (pt_not (pt_val (pe_callB call_isinst rfl mi PyProof.Rows.boot_isinstance (pa_cons (pv 4) (pa_cons (pe_ty rfl mli PyProof.Rows.boot_list) pa_nil))))) (pw_or1 (pt_cmpR op_gt (pe_callB call_len_seq rfl ml PySem.boot_len (pa_cons (pv 4) pa_nil)) pe_int (nomark _))))) (pss_one (ps_ret pe_bl)) pss_nil) <|
    pss_cons (ps_set (i := 5) nd rfl (Or.inl rfl) (pe_callN Fb (hr.mono (by omega)) rfl (pa_cons (pv 1) (pa_cons pe_int (pa_cons (pe_callN Fn (hr.mono (by omega)) rfl (pa_cons (pv 1) pa_nil)) pa_nil))))) <|
    pss_cons (ps_if (PW.pt (pw_and (pt_cmpR op_eq (pv 2) pe_int (nomark _)) (pw_and1 (pt_not (pt_val (pe_callN Fs hr rfl (pa_cons (pv 5) (pa_cons (pv 3) pa_nil)))))))) (pss_one (ps_ret pe_bl)) pss_nil) <|
    pss_one (ps_ret (pe_callN Fs hr rfl (pa_cons (pv 5) (pa_cons (pe_fld (pv 0) rfl) pa_nil)))), ?_⟩
  have r0 : Gr S 2 H H := (Gr.refl hS.told).up (by omega)
  cases po with
  | none =>
    obtain ⟨Ty, hT, hkT⟩ := hp.notL.ty K
    exact ⟨_, rfl, _, _, _, false, rfl, hT, hkT, _, rfl, iteT (iteT (q H r0))⟩
  | some os =>
    obtain ⟨b, ws, rfl, hb, it, hg⟩ := hp
    have wl := pr_len it
    refine ⟨_, rfl, _, _, _, true, rfl, .lst hb, kit_ll, _, rfl, iteF ?_⟩
    refine ⟨_, rfl, b, ws, rfl, .inl (SqL.of hb), _, _, rfl, rfl, _, rfl, ?_⟩
    refine ite2 (fun c => ?_) (fun c => ?_)
    · have c' : ((ws.length : Nat) : Int) > 0 := of_decide_eq_true c
      have z := q H r0
      cases os with
      | nil => simp at wl; omega
      | cons g0 os => rw [gr_cons0] at z; exact z
    have c' : ¬ ((ws.length : Nat) : Int) > 0 := of_decide_eq_false (Bool.eq_false_iff.mpr c)
    have eo : os = [] := List.eq_nil_of_length_eq_zero (by omega)
    subst eo
    refine ⟨_, rfl, _, rfl, S, f, rfl, hS, hc.dn (by omega), fun v1 H1 g1 i1 => ?_⟩
    refine ⟨S, f, .int 0, _, _, _, rfl, hS.up g1.gn, hc.go g1.gn (by omega), rfl, i1, fun v2 H2 g2 i2 => ?_⟩
    have g12 := g1.trans g2
    have hS2 := hS.up g12.gn
    have hx2 := g12.same hx (fun _ e => nomatch e)
    have fin : (size = 0 → mtT = th) → _ := fun hz => (show tRet (tCall spSame [] E0 (tCons (tVar 5) (tCons (tFld K (tVar 0) "early") tNil))) { nx := fun _ H' => Q .non H', rt := Q } [some (.ref x), some (.ref f), some (.int size), some vh, some (.ref b), some v2] H2 from by
      refine ⟨_, rfl, _, rfl, x, C, dx, _, _, rfl, hx2, T.cl, T.n2, rfl, _, _, _, _, rfl, tree_eqB (g := gS lf) (s := .nd) (fun d e => ⟨(gd_mt (B := 2) (Nat.le_refl _)).2, ge.2, hS2.ints d e⟩) i2 (isT_up g12.gn ie), by show 2 ≤ 400; omega, ?_⟩
      have z := q H2 (g12.up (by omega))
      have e : grB (some []) (size : Int) 0 th te = decide (mtT = te) := by
        show decide _ = decide _
        rw [decide_eq_decide]
        exact ⟨fun y => y.2.2, fun y => ⟨rfl, fun e => hz (by omega), y⟩⟩
      rw [e] at z; exact z)
    refine ⟨_, rfl, rfl, _, rfl, ?_⟩
    refine ite2 (fun c => ?_) (fun c => ?_)
    rotate_left
    · have c' : ¬ V.int (size : Int) = V.int 0 := of_decide_eq_false (Bool.eq_false_iff.mpr c)
      exact iteF (fin fun z => absurd (by rw [z]; rfl) c')
    have c' : V.int (size : Int) = V.int 0 := of_decide_eq_true c
    have hz : size = 0 := by injection c' with c'; omega
    subst hz
    refine ⟨_, rfl, _, rfl, _, _, _, _, rfl, tree_eqB (g := gS lf) (s := .nd) (fun d e => ⟨(gd_mt (B := 2) (Nat.le_refl _)).2, gh.2, hS2.ints d e⟩) i2 (isT_up g12.gn ih), by show 2 ≤ 400; omega, _, rfl, ?_⟩
    by_cases hth : mtT = th
    · rw [decide_eq_true hth]
      exact iteF (fin fun _ => hth)
    · rw [decide_eq_false hth]
      refine iteT ?_
      have z := q H2 (g12.up (by omega))
      rw [show grB (some []) ((0 : Nat) : Int) 0 th te = false from decide_eq_false fun y => hth (y.2.1 rfl)] at z
      exact z
def spGJ (K : PySem.W.Frag) (mg : Str → Option Value) (C : Addr) (lf : Srt) (B : Nat) : Sp := fun vs H Q _ => ∃ S x f th vh te ve pv po, ∃ size : Nat, ∃ old : Int, vs = [.ref x, .ref f, .int size, vh, pv] ∧ GrAt C H x old ve ∧ SealAt K mg sNumd S H f ∧ Cap S H 90 ∧ isT S H th vh ∧ isT S H te ve ∧ Gd lf B th ∧ Gd lf B te ∧ Pap lf S H B pv po ∧ size ≤ 2 ^ 40 ∧ B ≤ 300 ∧
  ∀ H', Gr S 90 H H' → Q (.bl (grB po size old th te)) H'
theorem scGJ : FnScope ["self", "seal", "size", "head", "paper", "tops"] ["self", "seal", "size", "head", "paper"] (defScope mGJudged) := ⟨rfl, rfl, rfl, by decide +kernel, rfl, by decide +kernel, by decide +kernel⟩
theorem riseG_dep {B : Nat} : ∀ (us : List Bool) (os : List Tm) (p : Tm × Tm) (k : Nat), (∀ t ∈ os, t.dep ≤ B) → p.1.dep ≤ B + k → p.2.dep ≤ B + k → (Gb.riseG prT us os p).1.dep ≤ B + k + us.length ∧ (Gb.riseG prT us os p).2.dep ≤ B + k + us.length
  | [], _, p, k, _, h1, h2 => by unfold Gb.riseG; exact ⟨by omega, by omega⟩
  | u :: us, [], p, k, _, h1, h2 => by unfold Gb.riseG; exact ⟨by omega, by omega⟩
  | u :: us, o :: os, p, k, h, h1, h2 => by
    show (Gb.riseG prT us os (Gb.stepG prT u o p)).1.dep ≤ _ ∧ (Gb.riseG prT us os (Gb.stepG prT u o p)).2.dep ≤ _
    have ho := h o List.mem_cons_self
    have z := riseG_dep us os (Gb.stepG prT u o p) (k + 1) (fun t ht => h t (List.mem_cons_of_mem _ ht)) (by
      cases u
      · show max o.dep p.1.dep + 1 ≤ _; omega
      · show p.1.dep ≤ _; omega) (by
      cases u
      · show max o.dep p.2.dep + 1 ≤ _; omega
      · show max p.2.dep o.dep + 1 ≤ _; omega)
    rw [List.length_cons]
    exact ⟨by omega, by omega⟩
theorem ok_gjudged {cP : Addr} (F : MethAt K C "judged" "Grows.judged" mGJudged) (T : TxG K mg C cC) (Fg : FnX P w K mg base 3 "grown" ["seal", "old", "size", "growth"] (spGrown K mg cP)) (Fb : FnP P w K mg base 2 "book_seal" ["seal", "size", "top"] (spMark K mg "book")) (Fs : FnP P w K mg base 20 "same" ["one", "other"] spSame) (lf : Srt) (B : Nat)
    (Mn : MtP P w K mg base C 21 "judged_from_none" ["self", "seal", "size", "head", "paper"] (spGN K mg C lf B)) (xc : XCls K cP) (hP : mg "BadPaper" = some (.ref cP)) : MtP P w K mg base C 22 "judged" ["self", "seal", "size", "head", "paper"] (spGJ K mg C lf B) := by
  refine F.ok scGJ (fun _ _ _ _ _ _ us hl => match us, hl with | [_, _, _, _, _], _ => rfl) (fun vs H Q E h => ?_) (fun f0 cdv A outer s H vs Q E hr h => ?_)
  · obtain ⟨S, x, f, th, vh, te, ve, pv, po, size, old, rfl, _⟩ := h; rfl
  obtain ⟨S, x, f, th, vh, te, ve, pvv, po, size, old, rfl, hgr, hS, hc, ih, ie, gh, ge, hp, hsz, hB, q⟩ := h
  obtain ⟨dx, hx⟩ := id hgr
  have nd := scGJ.nd
  refine ⟨_, pss_cons (ps_if (PW.pt (pw_or (pt_cmpR op_lt (pe_fld (pv 0) rfl) pe_int (nomark _)) (pw_or1 (pt_cmpR op_gt (pe_fld (pv 0) rfl) (pv 2) (nomark _))))) (pss_one (ps_ret pe_bl)) pss_nil) <|
    pss_cons (ps_if (pt_cmpR op_eq (pe_fld (pv 0) rfl) pe_int (nomark _)) (pss_one (ps_ret (pe_methN Mn (pv 0) T.cl (hr.mono (by omega)) (pa_cons (pv 1) (pa_cons (pv 2) (pa_cons (pv 3) (pa_cons (pv 4) pa_nil))))))) pss_nil) <|
    pss_cons (ps_try0 rfl ⟨rfl, rfl⟩ xc rfl hP
      (pssx_cons (psx_set (i := 5) nd rfl (Or.inl rfl) (pex_callN Fg (hr.mono (by omega)) rfl (pa_cons (pv 1) (pa_cons (pe_fld (pv 0) rfl) (pa_cons (pv 2) (pa_cons (pv 4) pa_nil)))))) pssx_nil)
      (fun e => pss_one (ps_ret pe_bl))) <|
    pss_one (ps_ret (pe_and (pe_callN Fs (hr.mono (by omega)) rfl (pa_cons (pe_callN Fb (hr.mono (by omega)) rfl (pa_cons (pv 1) (pa_cons (pe_fld (pv 0) rfl) (pa_cons (pe_ix ix_tup (pv 5) pe_int (fun _ _ => rfl)) pa_nil)))) (pa_cons (pe_fld (pv 0) rfl) pa_nil)))
      (pe_one (pe_callN Fs (hr.mono (by omega)) rfl (pa_cons (pe_callN Fb (hr.mono (by omega)) rfl (pa_cons (pv 1) (pa_cons (pv 2) (pa_cons (pe_ix ix_tup (pv 5) pe_int (fun _ _ => rfl)) pa_nil)))) (pa_cons (pv 3) pa_nil)))))), ?_⟩
  have no : ∀ H', Gr S 90 H H' → grB po size old th te = false → Q (.bl false) H' := fun H' g e => by
    have z := q H' g
    rw [e] at z; exact z
  have r0 : Gr S 90 H H := (Gr.refl hS.told).up (by omega)
  have out : ¬ (0 ≤ old ∧ old ≤ (size : Int)) → grB po size old th te = false := fun hn => by
    match po with
    | none => rfl
    | some [] => exact decide_eq_false fun y => hn (by omega)
    | some (g0 :: os) => exact decide_eq_false fun y => hn (by omega)
  refine ⟨_, rfl, x, C, dx, _, _, rfl, hx, T.cl, T.n1, rfl, _, _, rfl, rfl, _, rfl, ?_⟩
  refine ite2 (fun c => ?_) (fun c => ?_)
  · have c' : old < 0 := of_decide_eq_true c
    exact iteT (no H r0 (out (by omega)))
  have c0 : ¬ old < 0 := of_decide_eq_false (Bool.eq_false_iff.mpr c)
  refine ⟨_, rfl, x, C, dx, _, _, rfl, hx, T.cl, T.n1, rfl, _, rfl, _, _, rfl, rfl, _, rfl, ?_⟩
  refine ite2 (fun c => ?_) (fun c => ?_)
  · have c' : old > (size : Int) := of_decide_eq_true c
    exact no H r0 (out (by omega))
  have c1 : ¬ old > (size : Int) := of_decide_eq_false (Bool.eq_false_iff.mpr c)
  refine ⟨_, rfl, x, C, dx, _, _, rfl, hx, T.cl, T.n1, rfl, rfl, _, rfl, ?_⟩
  refine ite2 (fun c => ?_) (fun c => ?_)
  · have c' : V.int old = V.int 0 := of_decide_eq_true c
    obtain rfl : old = 0 := by injection c' with c'
    exact ⟨_, rfl, x, dx, _, rfl, hx, rfl, _, rfl, _, rfl, _, rfl, _, rfl, S, x, f, th, vh, te, ve, pvv, po, size, rfl, hgr, hS, hc.dn (by omega), ih, ie, gh, ge, hp, hB, fun H' g => q H' (g.up (by omega))⟩
  have c2 : ¬ V.int old = V.int 0 := of_decide_eq_false (Bool.eq_false_iff.mpr c)
  have c3 : old ≠ 0 := fun z => c2 (by rw [z])
  obtain ⟨od, rfl⟩ : ∃ od : Nat, old = (od : Int) := ⟨old.toNat, by omega⟩
  have tl40 := Gb.gturns_len 40 size od hsz
  refine ⟨_, rfl, _, rfl, x, C, dx, _, _, rfl, hx, T.cl, T.n1, rfl, _, rfl, _, rfl, S, f, od, size, pvv, rfl, hS, by omega, hsz, ?_⟩
  match po, hp, q, no with
  | none, hp, q, no => exact .inr ⟨.inr hp.notL, fun H1 g => ⟨cP, rfl, rfl, no H1 (g.up (by omega)) rfl⟩⟩
  | some [], hp, q, no =>
    obtain ⟨b, ws, rfl, hb, it, hg⟩ := hp
    have wl := pr_len it
    exact .inr ⟨.inl ⟨b, ws, rfl, hb, by rw [← wl]; simp⟩, fun H1 g => ⟨cP, rfl, rfl, no H1 (g.up (by omega)) (gr_nil1 c3)⟩⟩
  | some (g0 :: os), hp, q, no =>
    obtain ⟨b, ws, rfl, hb, it, hg⟩ := hp
    have wl := pr_len it
    rw [List.length_cons] at wl
    by_cases hlen : os.length = (Gb.gturnsT size od).length
    rotate_left
    · exact .inr ⟨.inl ⟨b, ws, rfl, hb, by omega⟩, fun H1 g => ⟨cP, rfl, rfl, no H1 (g.up (by omega)) (decide_eq_false fun y => hlen y.2.2.1)⟩⟩
    refine .inl ⟨b, ws, g0, os, rfl, hb, it, hlen, hc.dn (by omega), fun r v1 v2 H1 g1 hr1 i1 i2 => ?_⟩
    have hx1 := g1.same hx (fun _ e => nomatch e)
    have gg0 := hg g0 List.mem_cons_self
    have gos : ∀ t ∈ os, Gd lf B t := fun t ht => hg t (List.mem_cons_of_mem _ ht)
    obtain ⟨w1, w2⟩ := Gb.riseG_all prT (Pd := WsN lf) (fun _ _ a b => ws_pr a b) (Gb.gturnsT size od).reverse os (g0, g0) (fun t ht => (gos t ht).2) gg0.2 gg0.2
    obtain ⟨d1, d2⟩ := riseG_dep (B := B) (Gb.gturnsT size od).reverse os (g0, g0) 0 (fun t ht => (gos t ht).1) gg0.1 gg0.1
    rw [List.length_reverse] at d1 d2
    have eB : grB (some (g0 :: os)) (size : Int) (od : Int) th te = (decide (Tm.nd "book" (.int od) (Gb.riseG prT (Gb.gturnsT size od).reverse os (g0, g0)).1 = te) && decide (Tm.nd "book" (.int size) (Gb.riseG prT (Gb.gturnsT size od).reverse os (g0, g0)).2 = th)) := by
      rw [Bool.eq_iff_iff, Bool.and_eq_true, decide_eq_true_eq, decide_eq_true_eq]
      show decide _ = true ↔ _
      rw [decide_eq_true_eq]
      exact ⟨fun y => y.2.2.2, fun y => ⟨by omega, by omega, hlen, y⟩⟩
    generalize hr1e : (Gb.riseG prT (Gb.gturnsT size od).reverse os (g0, g0)).1 = r1 at i1 w1 d1 eB
    generalize hr2e : (Gb.riseG prT (Gb.gturnsT size od).reverse os (g0, g0)).2 = r2 at i2 w2 d2 eB
    refine ⟨_, rfl, _, rfl, x, C, dx, _, _, rfl, hx1, T.cl, T.n1, rfl, _, rfl, r, _, _, _, rfl, rfl, .inl (.inl hr1), atI_nat (j := 0) rfl, S, f, .int od, _, _, _, rfl, hS.up g1.gn, hc.go g1.gn (by omega), rfl, i1, fun v3 H2 g2 i3 => ?_⟩
    have g12 := g1.trans g2
    have hS2 := hS.up g12.gn
    have hx2 := g12.same hx (fun _ e => nomatch e)
    have hr2 := g2.gn.keep _ _ hr1 rfl
    refine ⟨_, rfl, x, C, dx, _, _, rfl, hx2, T.cl, T.n2, rfl, _, _, _, _, rfl, tree_eqB (g := gS lf) (s := .nd) (fun d e => ⟨ws_book w1, ge.2, hS2.ints d e⟩) i3 (isT_up g12.gn ie), by show max 0 r1.dep + 1 ≤ 400; omega, _, rfl, ?_⟩
    refine ite2 (fun c => ?_) (fun c => ?_)
    rotate_left
    · have z := q H2 (g12.up (by omega))
      rw [eB, Bool.eq_false_iff.mpr c, Bool.false_and] at z
      exact z
    refine ⟨_, rfl, _, rfl, _, rfl, r, _, _, _, rfl, rfl, .inl (.inl hr2), atI_nat (j := 1) rfl, S, f, .int size, _, _, _, rfl, hS2, hc.go g12.gn (by omega), rfl, isT_up g2.gn i2, fun v4 H3 g3 i4 => ?_⟩
    have g13 := g12.trans g3
    have hS3 := hS.up g13.gn
    refine ⟨_, rfl, _, _, _, _, rfl, tree_eqB (g := gS lf) (s := .nd) (fun d e => ⟨ws_book w2, gh.2, hS3.ints d e⟩) i4 (isT_up g13.gn ih), by show max 0 r2.dep + 1 ≤ 400; omega, ?_⟩
    have z := q H3 (g13.up (by omega))
    rw [eB, c, Bool.true_and] at z
    exact z
end
end My
namespace My
open PySem L2
def endT : Option (Int × Str) → Tm
  | none => nlT
  | some e => .nd "row" (.int e.1) (.str e.2)
def topW (key : Int) : Nat → List Tm → Tm → Tm
  | _, [], e => e
  | 0, _ :: _, e => e
  | D + 1, o :: os, e => if bitAt key D = 0 then fkT (topW key D os e) o else fkT o (topW key D os e)
theorem endT_inj : ∀ {e e' : Option (Int × Str)}, endT e = endT e' → e = e'
  | none, none, _ => rfl
  | none, some e, h => by
    have h : Tm.nd "none" (.int 0) (.int 0) = .nd "row" (.int e.1) (.str e.2) := h
    injection h with h; exact absurd h (by decide +kernel)
  | some e, none, h => by
    have h : Tm.nd "row" (.int e.1) (.str e.2) = .nd "none" (.int 0) (.int 0) := h
    injection h with h; exact absurd h (by decide +kernel)
  | some (k, x), some (k', x'), h => by
    have h : Tm.nd "row" (.int k) (.str x) = .nd "row" (.int k') (.str x') := h
    injection h with _ h1 h2
    injection h1 with h1
    injection h2 with h2
    rw [h1, h2]
theorem end_fork {e : Option (Int × Str)} {a b : Tm} : endT e ≠ fkT a b := fun h => by
  cases e with
  | none =>
    have h : Tm.nd "none" (.int 0) (.int 0) = .nd "fork" a b := h
    injection h with h; exact absurd h (by decide +kernel)
  | some e =>
    have h : Tm.nd "row" (.int e.1) (.str e.2) = .nd "fork" a b := h
    injection h with h; exact absurd h (by decide +kernel)
theorem topW_cons {key : Int} {D : Nat} {o : Tm} {os : List Tm} {e : Tm} : topW key (D + 1) (o :: os) e = if bitAt key D = 0 then fkT (topW key D os e) o else fkT o (topW key D os e) := by rw [topW]
theorem topW_nil {key : Int} {D : Nat} {e : Tm} : topW key D [] e = e := by cases D <;> rw [topW]
theorem topW_inj {key : Int} : ∀ (D : Nat) (os os' : List Tm) (e e' : Option (Int × Str)), os.length ≤ D → os'.length ≤ D → topW key D os (endT e) = topW key D os' (endT e') → os = os' ∧ e = e'
  | D, [], [], e, e', _, _, h => by rw [topW_nil, topW_nil] at h; exact ⟨rfl, endT_inj h⟩
  | 0, o :: os, _, e, e', h1, _, _ => by simp at h1
  | 0, _, o :: os, e, e', _, h1, _ => by simp at h1
  | D + 1, [], o :: os, e, e', _, _, h => by
    rw [topW_nil, topW_cons] at h
    split at h
    · exact absurd h end_fork
    · exact absurd h end_fork
  | D + 1, o :: os, [], e, e', _, _, h => by
    rw [topW_nil, topW_cons] at h
    split at h
    · exact absurd h.symm end_fork
    · exact absurd h.symm end_fork
  | D + 1, o :: os, o' :: os', e, e', h1, h2, h => by
    rw [topW_cons, topW_cons] at h
    have l1 : os.length ≤ D := by simp at h1; omega
    have l2 : os'.length ≤ D := by simp at h2; omega
    split at h
    · injection h with _ z1 z2
      obtain ⟨r1, r2⟩ := topW_inj D os os' e e' l1 l2 z1
      exact ⟨by rw [z2, r1], r2⟩
    · injection h with _ z1 z2
      obtain ⟨r1, r2⟩ := topW_inj D os os' e e' l1 l2 z2
      exact ⟨by rw [z1, r1], r2⟩
def fitB (key : Int) (D n : Nat) (en : Option (Int × Str)) : Bool := decide (0 ≤ key ∧ key < 2 ^ D) && decide (n ≤ D) && (match en with | none => true | some e => decide (e.1 / 2 ^ (D - n) = key / 2 ^ (D - n)))
abbrev tblT (D : Nat) (t : Tm) : Tm := .nd "table" (.int (D : Int)) t
def wsB (po : Option (List Tm)) (size place : Int) (th : Tm) (key : Int) (D : Nat) (z : Str) (tt : Tm) (os : List Tm) (en : Option (Int × Str)) : Bool :=
  fitB key D os.length en && (decide (tblT D (topW key D os (endT en)) = tt) && stB po size place th (.nd "leaf" (.str z) (tblT D (topW key D os (endT en)))))
def hoB (po : Option (List Tm)) (size place : Int) (th : Tm) (key : Int) (x : Str) (D : Nat) (z : Str) (tt : Tm) (os : List Tm) (en : Option (Int × Str)) : Bool :=
  decide (en = some (key, x)) && wsB po size place th key D z tt os en
def laB (po : Option (List Tm)) (size place : Int) (th : Tm) (key : Int) (D : Nat) (z : Str) (tt : Tm) (os : List Tm) (en : Option (Int × Str)) : Bool :=
  (match en with | none => true | some e => !decide (e.1 = key)) && wsB po size place th key D z tt os en
theorem fit_len {key : Int} {D n : Nat} {en : Option (Int × Str)} (h : fitB key D n en = true) : n ≤ D := by
  unfold fitB at h
  simp only [Bool.and_eq_true, decide_eq_true_eq] at h
  exact h.1.2
theorem gS_row (lf : Srt) : gS lf "row" = (.int, .str) := by unfold gS; rw [if_neg (by decide), if_neg (by decide), if_neg (by decide), if_pos rfl]
theorem gS_fork (lf : Srt) : gS lf "fork" = (.nd, .nd) := by unfold gS; rw [if_neg (by decide), if_neg (by decide), if_neg (by decide), if_neg (by decide), if_pos rfl]
theorem gS_tabl (lf : Srt) : gS lf "table" = (.int, .nd) := by unfold gS; rw [if_neg (by decide), if_neg (by decide), if_neg (by decide), if_neg (by decide), if_neg (by decide), if_pos rfl]
theorem ws_row {lf : Srt} {k : Int} {x : Str} : WsN lf (.nd "row" (.int k) (.str x)) := ⟨rfl, by rw [gS_row]; rfl, by rw [gS_row]; rfl⟩
theorem ws_fk {lf : Srt} {a b : Tm} (h : WsN lf a) (h' : WsN lf b) : WsN lf (fkT a b) := ⟨rfl, by rw [gS_fork]; exact h, by rw [gS_fork]; exact h'⟩
theorem ws_tbl {lf : Srt} {n : Nat} {a : Tm} (h : WsN lf a) : WsN lf (tblT n a) := ⟨rfl, by rw [gS_tabl]; rfl, by rw [gS_tabl]; exact h⟩
theorem ws_end {lf : Srt} {e : Option (Int × Str)} : WsN lf (endT e) := by
  cases e with
  | none => exact ws_nl
  | some e => exact ws_row
theorem topW_gd {lf : Srt} {B : Nat} (hB : 1 ≤ B) {key : Int} {e : Option (Int × Str)} : ∀ (D : Nat) (os : List Tm), (∀ t ∈ os, Gd lf B t) → Gd lf (B + D) (topW key D os (endT e))
  | D, [], _ => by
    rw [topW_nil]
    refine ⟨?_, ws_end⟩
    cases e <;> (show (1 : Nat) ≤ _; omega)
  | 0, o :: os, _ => by
    rw [topW]
    refine ⟨?_, ws_end⟩
    cases e <;> (show (1 : Nat) ≤ _; omega)
  | D + 1, o :: os, h => by
    have z := topW_gd hB (key := key) (e := e) D os fun t ht => h t (List.mem_cons_of_mem _ ht)
    have y := h o List.mem_cons_self
    rw [topW_cons]
    split
    · exact ⟨by show max _ _ + 1 ≤ _; have := z.1; have := y.1; omega, ws_fk z.2 y.2⟩
    · exact ⟨by show max _ _ + 1 ≤ _; have := z.1; have := y.1; omega, ws_fk y.2 z.2⟩
theorem Gd.mono {lf : Srt} {B B' : Nat} {t : Tm} (h : Gd lf B t) (hb : B ≤ B') : Gd lf B' t := ⟨Nat.le_trans h.1 hb, h.2⟩
theorem Pap.mono {lf : Srt} {S : Sl} {H : Hp} {B B' : Nat} {pv : V} {po : Option (List Tm)} (h : Pap lf S H B pv po) (hb : B ≤ B') : Pap lf S H B' pv po := by
  cases po with
  | some os =>
    obtain ⟨b, ws, rfl, hb', it, hg⟩ := h
    exact ⟨b, ws, rfl, hb', it, fun t ht => (hg t ht).mono hb⟩
  | none =>
    rcases h with h | ⟨b, ws, os, rfl, hb', it, hg⟩
    · exact .inl h
    · exact .inr ⟨b, ws, os, rfl, hb', it, fun t ht => (hg t ht).mono hb⟩
end My
namespace My
open PySem L2
def EndAt (H : Hp) (v : V) : Option (Int × Str) → Prop
  | none => v = .non
  | some e => ∃ p, v = .ref p ∧ H p = some (.tup [.int e.1, .str e.2])
def WayAt (S : Sl) (H : Hp) (v : V) (os : List Tm) (en : Option (Int × Str)) : Prop := ∃ p a ws ve, v = .ref p ∧ H p = some (.tup [.ref a, ve]) ∧ H a = some (.lst ws) ∧ isTs S H os ws ∧ EndAt H ve en
def KPap (lf : Srt) (S : Sl) (H : Hp) (B : Nat) (v : V) (z : Str) (tt : Tm) (po : Option (List Tm)) (os : List Tm) (en : Option (Int × Str)) : Prop :=
  ∃ p vt vp vw, v = .ref p ∧ H p = some (.tup [.str z, vt, vp, vw]) ∧ isT S H tt vt ∧ Gd lf B tt ∧ Pap lf S H B vp po ∧ WayAt S H vw os en ∧ ∀ t ∈ os, Gd lf B t
theorem EndAt.up {S : Sl} {n : Nat} {H H' : Hp} {v : V} {en : Option (Int × Str)} (h : EndAt H v en) (g : Gn S n H H') : EndAt H' v en := by
  cases en with
  | none => exact h
  | some e => obtain ⟨p, e1, e2⟩ := h; exact ⟨p, e1, g.keep _ _ e2 rfl⟩
theorem WayAt.up {S : Sl} {n : Nat} {H H' : Hp} {v : V} {os : List Tm} {en : Option (Int × Str)} (h : WayAt S H v os en) (g : Gr S n H H') : WayAt S H' v os en := by
  obtain ⟨p, a, ws, ve, h1, h2, h3, h4, h5⟩ := h
  exact ⟨p, a, ws, ve, h1, g.gn.keep _ _ h2 rfl, g.lst h3, isTs_up g.gn h4, h5.up g.gn⟩
theorem KPap.up {lf : Srt} {S : Sl} {n : Nat} {H H' : Hp} {B : Nat} {v : V} {z : Str} {tt : Tm} {po : Option (List Tm)} {os : List Tm} {en : Option (Int × Str)} (h : KPap lf S H B v z tt po os en) (g : Gr S n H H') : KPap lf S H' B v z tt po os en := by
  obtain ⟨p, vt, vp, vw, h1, h2, h3, h4, h5, h6, h7⟩ := h
  exact ⟨p, vt, vp, vw, h1, g.gn.keep _ _ h2 rfl, isT_up g.gn h3, h4, h5.up g, h6.up g, h7⟩
theorem kit_same {K : PySem.W.Frag} {T : String} : PySem.W.kitOne K (.type T) (.type T) = some true := by unfold PySem.W.kitOne; rw [if_pos (by simp)]
theorem kit_ib {K : PySem.W.Frag} : PySem.W.kitOne K (.type "int") (.type "bool") = some false := by unfold PySem.W.kitOne; rw [if_neg (by simp)]; kernel_rfl
section
variable {P : Program} {w : World} {K : PySem.W.Frag} {mg : Str → Option Value} {base : Heap}
def spIsNum : Sp := fun vs H Q _ => ∃ i : Int, vs = [.int i] ∧ Q (.bl true) H
theorem scIN : FnScope ["thing"] ["thing"] (defScope sIsNum) := ⟨rfl, rfl, rfl, by decide +kernel, rfl, by decide +kernel, by decide +kernel⟩
theorem ok_isnum (F : FunAt K mg "is_number" sIsNum) (mi : mg "isinstance" = none) (mn : mg "int" = none) (mb : mg "bool" = none) : FnP P w K mg base 1 "is_number" ["thing"] spIsNum := by
  refine F.ok scIN (fun _ _ _ _ _ _ us hl => match us, hl with | [_], _ => rfl) (fun vs H Q E h => ?_) (fun f0 cdv A outer s H vs Q E hr h => ?_)
  · obtain ⟨i, rfl, _⟩ := h; rfl
  obtain ⟨i, rfl, q⟩ := h
  refine ⟨_, pss_one (ps_ret (pe_and (pe_callB call_isinst rfl mi PyProof.Rows.boot_isinstance (pa_cons (pv 0) (pa_cons (pe_ty rfl mn PyProof.Rows.boot_int) pa_nil))) (pe_one (pe_not (pe_callB call_isinst rfl mi PyProof.Rows.boot_isinstance (pa_cons (pv 0) (pa_cons (pe_ty rfl mb PyProof.Rows.boot_bool) pa_nil))))))), ?_⟩
  refine ⟨_, rfl, _, _, _, true, rfl, .int i, kit_same, _, rfl, iteT ?_⟩
  exact ⟨_, rfl, _, _, _, false, rfl, .int i, kit_ib, _, rfl, q⟩
def spIsEnd : Sp := fun vs H Q _ => ∃ v en, vs = [v] ∧ EndAt H v en ∧ Q (.bl true) H
theorem scIE : FnScope ["thing"] ["thing"] (defScope sIsEnd) := ⟨rfl, rfl, rfl, by decide +kernel, rfl, by decide +kernel, by decide +kernel⟩
theorem ok_isend (F : FunAt K mg "is_end" sIsEnd) (Fn : FnP P w K mg base 1 "is_number" ["thing"] spIsNum) (ml : mg "len" = none) (mi : mg "isinstance" = none) (mt : mg "tuple" = none) (ms : mg "str" = none) : FnP P w K mg base 2 "is_end" ["thing"] spIsEnd := by
  refine F.ok scIE (fun _ _ _ _ _ _ us hl => match us, hl with | [_], _ => rfl) (fun vs H Q E h => ?_) (fun f0 cdv A outer s H vs Q E hr h => ?_)
  · obtain ⟨v, en, rfl, _⟩ := h; rfl
  obtain ⟨v, en, rfl, he, q⟩ := h
  refine ⟨_, pss_cons (ps_if (pt_cmpR op_isN (pv 0) pe_non (nomark _)) (pss_one (ps_ret pe_bl)) pss_nil) <|
    pss_one (ps_ret (pe_and (pe_callB call_isinst rfl mi PyProof.Rows.boot_isinstance (pa_cons (pv 0) (pa_cons (pe_ty rfl mt PyProof.Rows.boot_tuple) pa_nil))) (pe_and (pe_cmpR op_eq (pe_callB call_len_seq rfl ml PySem.boot_len (pa_cons (pv 0) pa_nil)) pe_int (nomark _)) (pe_and (pe_callN Fn hr rfl (pa_cons (pe_ix ix_tup (pv 0) pe_int (fun _ _ => rfl)) pa_nil)) (pe_one (pe_callB call_isinst rfl mi PyProof.Rows.boot_isinstance (pa_cons (pe_ix ix_tup (pv 0) pe_int (fun _ _ => rfl)) (pa_cons (pe_ty rfl ms PyProof.Rows.boot_str) pa_nil)))))))), ?_⟩
  cases en with
  | none =>
    obtain rfl : v = V.non := he
    refine ⟨_, rfl, rfl, _, rfl, ?_⟩
    rw [decide_eq_true rfl]
    exact iteT q
  | some e =>
    obtain ⟨p, rfl, hp⟩ := he
    refine ⟨_, rfl, rfl, _, rfl, ?_⟩
    rw [decide_eq_false (fun h => nomatch h)]
    refine iteF ?_
    refine ⟨_, rfl, _, _, _, true, rfl, .tup hp, kit_same, _, rfl, iteT ?_⟩
    refine ⟨_, rfl, p, _, rfl, .inr (.inl (.inl hp)), rfl, _, rfl, ?_⟩
    refine iteT ?_
    refine ⟨_, rfl, p, _, _, _, rfl, rfl, .inl (.inl hp), atI_nat (j := 0) rfl, e.1, rfl, _, rfl, iteT ?_⟩
    exact ⟨_, rfl, p, _, _, _, rfl, rfl, .inl (.inl hp), atI_nat (j := 1) rfl, _, _, _, true, rfl, .str e.2, kit_same, q⟩
def spIsWay (S : Sl) : Sp := fun vs H Q _ => ∃ v os en, vs = [v] ∧ WayAt S H v os en ∧ Q (.bl true) H
theorem scIW : FnScope ["thing"] ["thing"] (defScope sIsWay) := ⟨rfl, rfl, rfl, by decide +kernel, rfl, by decide +kernel, by decide +kernel⟩
theorem ok_isway (S : Sl) (F : FunAt K mg "is_way" sIsWay) (Fe : FnP P w K mg base 2 "is_end" ["thing"] spIsEnd) (ml : mg "len" = none) (mi : mg "isinstance" = none) (mt : mg "tuple" = none) (mli : mg "list" = none) : FnP P w K mg base 3 "is_way" ["thing"] (spIsWay S) := by
  refine F.ok scIW (fun _ _ _ _ _ _ us hl => match us, hl with | [_], _ => rfl) (fun vs H Q E h => ?_) (fun f0 cdv A outer s H vs Q E hr h => ?_)
  · obtain ⟨v, os, en, rfl, _⟩ := h; rfl
  obtain ⟨v, os, en, rfl, ⟨p, a, ws, ve, rfl, hp, ha, it, he⟩, q⟩ := h
  refine ⟨_, pss_one (ps_ret (pe_and (pe_callB call_isinst rfl mi PyProof.Rows.boot_isinstance (pa_cons (pv 0) (pa_cons (pe_ty rfl mt PyProof.Rows.boot_tuple) pa_nil))) (pe_and (pe_cmpR op_eq (pe_callB call_len_seq rfl ml PySem.boot_len (pa_cons (pv 0) pa_nil)) pe_int (nomark _)) (pe_and (pe_callB call_isinst rfl mi PyProof.Rows.boot_isinstance (pa_cons (pe_ix ix_tup (pv 0) pe_int (fun _ _ => rfl)) (pa_cons (pe_ty rfl mli PyProof.Rows.boot_list) pa_nil))) (pe_one (pe_callN Fe hr rfl (pa_cons (pe_ix ix_tup (pv 0) pe_int (fun _ _ => rfl)) pa_nil))))))), ?_⟩
  refine ⟨_, rfl, _, _, _, true, rfl, .tup hp, kit_same, _, rfl, iteT ?_⟩
  refine ⟨_, rfl, p, _, rfl, .inr (.inl (.inl hp)), rfl, _, rfl, ?_⟩
  refine iteT ?_
  refine ⟨_, rfl, p, _, _, _, rfl, rfl, .inl (.inl hp), atI_nat (j := 0) rfl, _, _, _, true, rfl, .lst ha, kit_same, _, rfl, iteT ?_⟩
  exact ⟨_, rfl, p, _, _, _, rfl, rfl, .inl (.inl hp), atI_nat (j := 1) rfl, ve, en, rfl, he, q⟩
def spIsKP (lf : Srt) (S : Sl) (B : Nat) : Sp := fun vs H Q _ => ∃ v z tt po os en, vs = [v] ∧ KPap lf S H B v z tt po os en ∧ Q (.bl true) H
theorem scIK : FnScope ["thing"] ["thing"] (defScope sIsKP) := ⟨rfl, rfl, rfl, by decide +kernel, rfl, by decide +kernel, by decide +kernel⟩
theorem ok_iskp (lf : Srt) (S : Sl) (B : Nat) (F : FunAt K mg "is_key_paper" sIsKP) (Fw : FnP P w K mg base 3 "is_way" ["thing"] (spIsWay S)) (ml : mg "len" = none) (mi : mg "isinstance" = none) (mt : mg "tuple" = none) (ms : mg "str" = none) : FnP P w K mg base 4 "is_key_paper" ["thing"] (spIsKP lf S B) := by
  refine F.ok scIK (fun _ _ _ _ _ _ us hl => match us, hl with | [_], _ => rfl) (fun vs H Q E h => ?_) (fun f0 cdv A outer s H vs Q E hr h => ?_)
  · obtain ⟨v, z, tt, po, os, en, rfl, _⟩ := h; rfl
  obtain ⟨v, z, tt, po, os, en, rfl, ⟨p, vt, vp, vw, rfl, hp, it, gt, hpp, hw, hg⟩, q⟩ := h
  refine ⟨_, pss_one (ps_ret (pe_and (pe_callB call_isinst rfl mi PyProof.Rows.boot_isinstance (pa_cons (pv 0) (pa_cons (pe_ty rfl mt PyProof.Rows.boot_tuple) pa_nil))) (pe_and (pe_cmpR op_eq (pe_callB call_len_seq rfl ml PySem.boot_len (pa_cons (pv 0) pa_nil)) pe_int (nomark _)) (pe_and (pe_callB call_isinst rfl mi PyProof.Rows.boot_isinstance (pa_cons (pe_ix ix_tup (pv 0) pe_int (fun _ _ => rfl)) (pa_cons (pe_ty rfl ms PyProof.Rows.boot_str) pa_nil))) (pe_one (pe_callN Fw hr rfl (pa_cons (pe_ix ix_tup (pv 0) pe_int (fun _ _ => rfl)) pa_nil))))))), ?_⟩
  refine ⟨_, rfl, _, _, _, true, rfl, .tup hp, kit_same, _, rfl, iteT ?_⟩
  refine ⟨_, rfl, p, _, rfl, .inr (.inl (.inl hp)), rfl, _, rfl, ?_⟩
  refine iteT ?_
  refine ⟨_, rfl, p, _, _, _, rfl, rfl, .inl (.inl hp), atI_nat (j := 0) rfl, _, _, _, true, rfl, .str z, kit_same, _, rfl, iteT ?_⟩
  exact ⟨_, rfl, p, _, _, _, rfl, rfl, .inl (.inl hp), atI_nat (j := 3) rfl, vw, os, en, rfl, hw, q⟩
def spFit (S : Sl) : Sp := fun vs H Q _ => ∃ (key : Int) (D : Nat), ∃ v os en, vs = [.int key, .int D, v] ∧ WayAt S H v os en ∧ os.length ≤ 1000 ∧ Q (.bl (fitB key D os.length en)) H
theorem scFt : FnScope ["key", "depth", "way", "steps", "left"] ["key", "depth", "way"] (defScope sWayFits) := ⟨rfl, rfl, rfl, by decide +kernel, rfl, by decide +kernel, by decide +kernel⟩
theorem ok_fit (S : Sl) (F : FunAt K mg "way_fits" sWayFits) (Fi : FnP P w K mg base 1 "in_depth" ["key", "depth"] spInD) (ml : mg "len" = none) : FnP P w K mg base 2 "way_fits" ["key", "depth", "way"] (spFit S) := by
  refine F.ok scFt (fun _ _ _ _ _ _ us hl => match us, hl with | [_, _, _], _ => rfl) (fun vs H Q E h => ?_) (fun f0 cdv A outer s H vs Q E hr h => ?_)
  · obtain ⟨key, D, v, os, en, rfl, _⟩ := h; rfl
  obtain ⟨key, D, v, os, en, rfl, ⟨p, a, ws, ve, rfl, hp, ha, it, he⟩, hl, q⟩ := h
  have nd := scFt.nd
  have wl := pr_len it
  refine ⟨_, pss_cons (ps_set (i := 3) nd rfl (Or.inl rfl) (pe_callB call_len_seq rfl ml PySem.boot_len (pa_cons (pe_ix ix_tup (pv 2) pe_int (fun _ _ => rfl)) pa_nil))) <|
    pss_cons (ps_if (PW.pt (pw_or (pt_not (pt_val (pe_callN Fi hr rfl (pa_cons (pv 0) (pa_cons (pv 1) pa_nil))))) (pw_or1 (pt_cmpR op_gt (pv 3) (pv 1) (nomark _))))) (pss_one (ps_ret pe_bl)) pss_nil) <|
    pss_cons (ps_if (pt_cmpR op_isN (pe_ix ix_tup (pv 2) pe_int (fun _ _ => rfl)) pe_non (nomark _)) (pss_one (ps_ret pe_bl)) pss_nil) <|
    pss_cons (ps_set (i := 4) nd rfl (Or.inl rfl) (pe_op op_sub (pv 1) (pv 3))) <|
    pss_one (ps_ret (pe_cmpR op_eq (pe_op op_shr (pe_ix ix_tup (pe_ix ix_tup (pv 2) pe_int (fun _ _ => rfl)) pe_int (fun _ _ => rfl)) (pv 4)) (pe_op op_shr (pv 0) (pv 4)) (nomark _))), ?_⟩
  refine ⟨_, rfl, p, _, _, _, rfl, rfl, .inl (.inl hp), atI_nat (j := 0) rfl, a, ws, rfl, .inl (SqL.of ha), ?_⟩
  rw [← wl]
  refine ⟨_, rfl, _, rfl, key, D, rfl, _, rfl, ?_⟩
  unfold fitB at q
  refine ite2 (fun c => ?_) (fun c => ?_)
  · have c' : decide (0 ≤ key ∧ key < 2 ^ D) = false := by simpa only [Bool.not_eq_true'] using c
    rw [c'] at q
    exact iteT q
  have c0 : decide (0 ≤ key ∧ key < 2 ^ D) = true := by
    cases hd : decide (0 ≤ key ∧ key < 2 ^ D) with
    | true => rfl
    | false => exact absurd (by rw [hd]; rfl) c
  rw [c0, Bool.true_and] at q
  refine ⟨_, rfl, _, rfl, _, _, rfl, rfl, _, rfl, ?_⟩
  refine ite2 (fun c => ?_) (fun c => ?_)
  · have c' : (D : Int) < (os.length : Int) := of_decide_eq_true c
    rw [decide_eq_false (show ¬ os.length ≤ D by omega)] at q
    exact q
  have c1 : ¬ (D : Int) < (os.length : Int) := of_decide_eq_false (Bool.eq_false_iff.mpr c)
  rw [decide_eq_true (show os.length ≤ D by omega), Bool.true_and] at q
  refine ⟨_, rfl, p, _, _, _, rfl, rfl, .inl (.inl hp), atI_nat (j := 1) rfl, rfl, _, rfl, ?_⟩
  cases en with
  | none =>
    obtain rfl : ve = V.non := he
    rw [decide_eq_true rfl]
    exact iteT q
  | some e =>
    obtain ⟨pe, rfl, hpe⟩ := he
    rw [decide_eq_false (fun h => nomatch h)]
    refine iteF ?_
    have el : (D : Int) - (os.length : Int) = ((D - os.length : Nat) : Int) := by omega
    refine ⟨_, rfl, _, rfl, _, _, rfl, rfl, ?_⟩
    dsimp only [gName]
    rw [el]
    refine ⟨_, rfl, p, _, _, _, rfl, rfl, .inl (.inl hp), atI_nat (j := 1) rfl, pe, _, _, _, rfl, rfl, .inl (.inl hpe), atI_nat (j := 0) rfl, _, rfl, _, _, rfl, rfl, by omega, _, rfl, _, rfl, _, _, rfl, rfl, by omega, rfl, ?_⟩
    have e2 : decide (V.int (e.1 / 2 ^ (D - os.length)) = V.int (key / 2 ^ (D - os.length))) = decide (e.1 / 2 ^ (D - os.length) = key / 2 ^ (D - os.length)) := by
      rw [decide_eq_decide]
      exact ⟨fun h => by injection h, fun h => by rw [h]⟩
    have q' : Q (.bl (decide (e.1 / 2 ^ (D - os.length) = key / 2 ^ (D - os.length)))) H := q
    rw [← e2] at q'
    exact q'
def spTopW (K : PySem.W.Frag) (mg : Str → Option Value) : Sp := fun vs H Q _ => ∃ (S : Sl) (f : Addr) (key : Int) (D : Nat) (v : V) (os : List Tm) (en : Option (Int × Str)), vs = [.ref f, .int key, .int D, v] ∧ SealAt K mg sNumd S H f ∧ WayAt S H v os en ∧ os.length ≤ D ∧ D ≤ 20 ∧ Cap S H 25 ∧
  ∀ v' H', Gr S 25 H H' → isT S H' (topW key D os (endT en)) v' → Q v' H'
theorem scTW : FnScope ["seal", "key", "depth", "way", "top", "bit", "other"] ["seal", "key", "depth", "way"] (defScope sTopW) := ⟨rfl, rfl, rfl, by decide +kernel, rfl, by decide +kernel, by decide +kernel⟩
theorem ok_topW (F : FunAt K mg "top_of_way" sTopW) (Fn : FnP P w K mg base 2 "none_seal" ["seal"] (spNone K mg)) (Fr : FnP P w K mg base 2 "row_seal" ["seal", "key", "value"] (spMark K mg "row")) (Ff : FnP P w K mg base 2 "fork_seal" ["seal", "low", "high"] (spMark K mg "fork")) (ml : mg "len" = none) (mre : mg "reversed" = none) : FnP P w K mg base 3 "top_of_way" ["seal", "key", "depth", "way"] (spTopW K mg) := by
  refine F.ok scTW (fun _ _ _ _ _ _ us hl => match us, hl with | [_, _, _, _], _ => rfl) (fun vs H Q E h => ?_) (fun f0 cdv A outer s H vs Q E hr h => ?_)
  · obtain ⟨S, f, key, D, v, os, en, rfl, _⟩ := h; rfl
  obtain ⟨S, f, key, D, v, os, en, rfl, hS, hw, hl, hD, hc, q⟩ := h
  have nd := scTW.nd
  refine ⟨_, pss_cons (ps_if (pt_cmpR op_isN (pe_ix ix_tup (pv 3) pe_int (fun _ _ => rfl)) pe_non (nomark _)) (pss_one (ps_set (i := 4) nd rfl (Or.inl rfl) (pe_callN Fn hr rfl (pa_cons (pv 0) pa_nil)))) (pss_one (ps_set (i := 4) nd rfl (Or.inl rfl) (pe_callN Fr hr rfl (pa_cons (pv 0) (pa_cons (pe_ix ix_tup (pe_ix ix_tup (pv 3) pe_int (fun _ _ => rfl)) pe_int (fun _ _ => rfl)) (pa_cons (pe_ix ix_tup (pe_ix ix_tup (pv 3) pe_int (fun _ _ => rfl)) pe_int (fun _ _ => rfl)) pa_nil))))))) <|
    pss_cons (ps_set (i := 5) nd rfl (Or.inl rfl) (pe_op op_sub (pv 2) (pe_callB call_len_seq rfl ml PySem.boot_len (pa_cons (pe_ix ix_tup (pv 3) pe_int (fun _ _ => rfl)) pa_nil)))) <|
    pss_cons (ps_for PassesOwn.never rfl (pi_rev rfl mre (pa_cons (pe_ix ix_tup (pv 3) pe_int (fun _ _ => rfl)) pa_nil)) (pg_name (i := 6) nd rfl (Or.inl rfl)) <|
      pss_cons (ps_if (pt_cmpR op_eq (pe_op op_and (pe_op op_shr (pv 1) (pv 5)) pe_int) pe_int (nomark _)) (pss_one (ps_set (i := 4) nd rfl (Or.inl rfl) (pe_callN Ff hr rfl (pa_cons (pv 0) (pa_cons (pv 4) (pa_cons (pv 6) pa_nil)))))) (pss_one (ps_set (i := 4) nd rfl (Or.inl rfl) (pe_callN Ff hr rfl (pa_cons (pv 0) (pa_cons (pv 6) (pa_cons (pv 4) pa_nil))))))) <|
      pss_one (ps_set (i := 5) nd rfl (Or.inl rfl) (pe_op op_add (pv 5) pe_int))) <|
    pss_one (ps_ret (pv 4)), ?_⟩
  obtain ⟨p, a, ws, ve, e1, hp, ha, it, he⟩ := id hw
  subst e1
  have wl := pr_len it
  refine joinS (fun σ' H' => Gr S 1 H H' ∧ ∃ v4, isT S H' (endT en) v4 ∧ σ' = [some (.ref f), some (.int key), some (.int D), some (.ref p), some v4, none, none]) (fun D' hD' => ?_) ?_
  · refine ⟨_, rfl, p, _, _, _, rfl, rfl, .inl (.inl hp), atI_nat (j := 1) rfl, rfl, _, rfl, ?_⟩
    cases en with
    | none =>
      obtain rfl : ve = V.non := he
      rw [decide_eq_true rfl]
      exact iteT ⟨_, rfl, S, f, rfl, hS, hc.dn (by omega), fun v1 H1 g1 i1 => hD' _ _ ⟨g1, v1, i1, rfl⟩⟩
    | some e =>
      obtain ⟨pe, rfl, hpe⟩ := he
      rw [decide_eq_false (fun h => nomatch h)]
      refine iteF ⟨_, rfl, _, rfl, p, _, _, _, rfl, rfl, .inl (.inl hp), atI_nat (j := 1) rfl, pe, _, _, _, rfl, rfl, .inl (.inl hpe), atI_nat (j := 0) rfl, _, rfl, p, _, _, _, rfl, rfl, .inl (.inl hp), atI_nat (j := 1) rfl, pe, _, _, _, rfl, rfl, .inl (.inl hpe), atI_nat (j := 1) rfl, ?_⟩
      exact ⟨S, f, .int e.1, .str e.2, _, _, rfl, hS, hc.dn (by omega), rfl, rfl, fun v1 H1 g1 i1 => hD' _ _ ⟨g1, v1, i1, rfl⟩⟩
  rintro σ' H1 ⟨g1, v4, i4, rfl⟩
  have hw1 := hw.up g1
  have ha1 := g1.lst ha
  have hp1 := g1.gn.keep _ _ hp rfl
  have it1 := isTs_up g1.gn it
  refine ⟨_, rfl, _, rfl, p, _, _, _, rfl, rfl, .inl (.inl hp1), atI_nat (j := 0) rfl, a, ws, rfl, .inl (SqL.of ha1), _, _, rfl, rfl, ?_⟩
  dsimp only [gName]
  rw [← wl, show (D : Int) - (os.length : Int) = ((D - os.length : Nat) : Int) by omega]
  refine ⟨_, rfl, p, _, _, _, rfl, rfl, .inl (.inl hp1), atI_nat (j := 0) rfl, a, ws, rfl, SqL.of ha1, ?_⟩
  refine for_rev (xs := ws) (fun i σ H' => Gr S i H1 H' ∧ i ≤ os.length ∧ ∃ v4 o6, isT S H' (topW key (D - os.length + i) (os.drop (os.length - i)) (endT en)) v4 ∧ σ = [some (.ref f), some (.int key), some (.int D), some (.ref p), some v4, some (.int ((D - os.length + i : Nat) : Int)), o6]) ⟨.refl g1.gn.told2, Nat.zero_le _, v4, none, ?_, rfl⟩ (fun i σ H' _ h => SqL.of (h.1.lst ha1)) ?_ ?_
  · rw [Nat.sub_zero, List.drop_length, topW_nil]; exact i4
  · rintro i x σ H2 hi hx ⟨g2, hi2, v5, o6, i5, rfl⟩
    have hio : i < os.length := by omega
    have ex : ws[os.length - 1 - i]? = some x := by rw [wl]; exact hx
    obtain ⟨t, et, ixt⟩ := pr_get2 it1 ex
    have hS2 := hS.up (g1.trans g2).gn
    have ed : os.drop (os.length - (i + 1)) = t :: os.drop (os.length - i) := by
      rw [show os.length - (i + 1) = os.length - 1 - i by omega]
      rw [List.drop_eq_getElem_cons (by omega)]
      rw [List.getElem?_eq_getElem (by omega)] at et
      rw [Option.some.inj et, show os.length - 1 - i + 1 = os.length - i by omega]
    have et2 : topW key (D - os.length + (i + 1)) (os.drop (os.length - (i + 1))) (endT en) = if bitAt key (D - os.length + i) = 0 then fkT (topW key (D - os.length + i) (os.drop (os.length - i)) (endT en)) t else fkT t (topW key (D - os.length + i) (os.drop (os.length - i)) (endT en)) := by
      rw [ed, show D - os.length + (i + 1) = D - os.length + i + 1 by omega, topW_cons]
    dsimp only [gName]
    refine joinS (fun σ' H3 => Gr S (i + 1) H1 H3 ∧ ∃ v3, isT S H3 (topW key (D - os.length + (i + 1)) (os.drop (os.length - (i + 1))) (endT en)) v3 ∧ σ' = [some (.ref f), some (.int key), some (.int D), some (.ref p), some v3, some (.int ((D - os.length + i : Nat) : Int)), some x]) (fun D' hD' => ?_) ?_
    · refine ⟨_, rfl, _, rfl, _, _, rfl, rfl, by omega, _, _, rfl, rfl, rfl, _, rfl, ?_⟩
      rw [et2] at hD'
      refine ite2 (fun c => ?_) (fun c => ?_)
      · have c' : bitAt key (D - os.length + i) = 0 := by
          have z : V.int (Builtin.bitAnd (key / 2 ^ (((D - os.length + i : Nat) : Int)).toNat) 1) = V.int 0 := of_decide_eq_true c
          rw [bit1] at z
          injection z
        rw [if_pos c'] at hD'
        exact ⟨_, rfl, _, rfl, _, rfl, S, f, _, _, _, _, rfl, hS2, hc.go (g1.trans g2).gn (by omega), i5, isT_up g2.gn ixt, fun v3 H3 g3 i3 => hD' _ _ ⟨g2.trans g3, v3, i3, rfl⟩⟩
      · have c' : ¬ bitAt key (D - os.length + i) = 0 := fun z => c (decide_eq_true (show V.int (Builtin.bitAnd (key / 2 ^ (((D - os.length + i : Nat) : Int)).toNat) 1) = V.int 0 by rw [bit1, z]))
        rw [if_neg c'] at hD'
        exact ⟨_, rfl, _, rfl, _, rfl, S, f, _, _, _, _, rfl, hS2, hc.go (g1.trans g2).gn (by omega), isT_up g2.gn ixt, i5, fun v3 H3 g3 i3 => hD' _ _ ⟨g2.trans g3, v3, i3, rfl⟩⟩
    · rintro σ' H3 ⟨g3, v3, i3, rfl⟩
      refine ⟨_, rfl, _, _, rfl, rfl, g3, hio, v3, some x, i3, ?_⟩
      rw [show ((D - os.length + (i + 1) : Nat) : Int) = ((D - os.length + i : Nat) : Int) + 1 by omega]
      rfl
  · rintro σ H2 ⟨g2, _, v5, o6, i5, rfl⟩
    rw [← wl] at g2 i5
    rw [Nat.sub_self, List.drop_zero, show D - os.length + os.length = D by omega] at i5
    exact ⟨_, rfl, q v5 H2 ((g1.trans g2).up (by omega)) i5⟩
end
end My
namespace My
open PySem L2
theorem putNew {k : Str} {v : V} : ∀ {l : List (Str × V)}, (∀ q ∈ l.map (·.1), q ≠ k) → putF k v l = l ++ [(k, v)]
  | [], _ => rfl
  | (g, x) :: r, h => by
    show (if g = k then _ else (g, x) :: putF k v r) = _
    rw [if_neg (h g List.mem_cons_self), putNew fun q hq => h q (List.mem_cons_of_mem _ hq)]; rfl
theorem end_eqB {H : Hp} {v : V} {en : Option (Int × Str)} {p : Addr} {key : Int} {x : Str} (he : EndAt H v en) (hp : H p = some (.tup [.int key, .str x])) : EqB H 1 v (.ref p) (decide (en = some (key, x))) := by
  cases en with
  | none =>
    obtain rfl : v = V.non := he
    rw [decide_eq_false (by simp)]
    exact EqB.base (.inr ⟨rfl, .inl ⟨rfl, .inl ⟨p, _, rfl, hp⟩⟩⟩) _
  | some e =>
    obtain ⟨pe, rfl, hpe⟩ := he
    obtain ⟨k', x'⟩ := e
    refine .inr (.inl ⟨pe, p, _, _, fun i => match i with | 0 => decide (k' = key) | _ => decide (x' = x), rfl, rfl, hpe, hp, fun i u w h1 h2 => ?_, ?_⟩)
    · match i, h1, h2 with
      | 0, h1, h2 =>
        simp at h1 h2; subst h1 h2
        have z : EqB H 0 (V.int k') (V.int key) (eqV (V.int k') (V.int key)) := eqB_flat rfl rfl
        have e : eqV (V.int k') (V.int key) = decide (k' = key) := by rw [Bool.eq_iff_iff]; simp [eqV]
        rw [e] at z; exact z
      | 1, h1, h2 =>
        simp at h1 h2; subst h1 h2
        have z : EqB H 0 (V.str x') (V.str x) (eqV (V.str x') (V.str x)) := eqB_flat rfl rfl
        have e : eqV (V.str x') (V.str x) = decide (x' = x) := by rw [Bool.eq_iff_iff]; simp [eqV]
        rw [e] at z; exact z
      | i + 2, h1, h2 => simp at h1
    · show decide _ = ((decide (k' = key) && (decide (x' = x) && true)) && true)
      rw [Bool.eq_iff_iff]
      simp
section
variable {P : Program} {w : World} {K : PySem.W.Frag} {mg : Str → Option Value} {base : Heap} {C : Addr}
def spWSt (K : PySem.W.Frag) (mg : Str → Option Value) (lf : Srt) (S : Sl) (B : Nat) : Sp := fun vs H Q _ => ∃ (f : Addr) (size place key : Int) (D : Nat) (th : Tm) (vh v : V) (z : Str) (tt : Tm) (po : Option (List Tm)) (os : List Tm) (en : Option (Int × Str)), vs = [.ref f, .int size, vh, .int place, .int key, .int D, v] ∧ SealAt K mg sNumd S H f ∧ Cap S H 100 ∧ isT S H th vh ∧ Gd lf B th ∧ KPap lf S H B v z tt po os en ∧ os.length ≤ 1000 ∧ D ≤ 20 ∧ size ≤ 2 ^ 40 ∧
  ∀ H', Gr S 100 H H' → Q (.bl (wsB po size place th key D z tt os en)) H'
theorem scWS : FnScope ["seal", "size", "head", "place", "key", "depth", "paper", "table", "leaf"] ["seal", "size", "head", "place", "key", "depth", "paper"] (defScope sWStands) := ⟨rfl, rfl, rfl, by decide +kernel, rfl, by decide +kernel, by decide +kernel⟩
theorem ok_wst (lf : Srt) (S : Sl) (B : Nat) (hB1 : 1 ≤ B) (hB : B + 25 ≤ 300) (hlf : lf = .nd) (F : FunAt K mg "way_stands" sWStands) (Ff : FnP P w K mg base 2 "way_fits" ["key", "depth", "way"] (spFit S)) (Ft : FnP P w K mg base 2 "table_seal" ["seal", "depth", "top"] (spMark K mg "table")) (Fw : FnP P w K mg base 3 "top_of_way" ["seal", "key", "depth", "way"] (spTopW K mg)) (Fs : FnP P w K mg base 20 "same" ["one", "other"] spSame) (Fl : FnP P w K mg base 2 "leaf_seal" ["seal", "text", "table"] (spMark K mg "leaf"))
    (Fst : FnP P w K mg base 21 "leaf_stands" ["seal", "size", "head", "place", "leaf", "path"] (spStands K mg lf (B + 25))) : FnP P w K mg base 22 "way_stands" ["seal", "size", "head", "place", "key", "depth", "paper"] (spWSt K mg lf S B) := by
  refine F.ok scWS (fun _ _ _ _ _ _ us hl => match us, hl with | [_, _, _, _, _, _, _], _ => rfl) (fun vs H Q E h => ?_) (fun f0 cdv A outer s H vs Q E hr h => ?_)
  · obtain ⟨f, size, place, key, D, th, vh, v, z, tt, po, os, en, rfl, _⟩ := h; rfl
  obtain ⟨f, size, place, key, D, th, vh, v, z, tt, po, os, en, rfl, hS, hc, ih, gh, hK, hol, hD, hsz, q⟩ := h
  have nd := scWS.nd
  refine ⟨_, pss_cons (ps_if (pt_not (pt_val (pe_callN Ff (hr.mono (by omega)) rfl (pa_cons (pv 4) (pa_cons (pv 5) (pa_cons (pe_ix ix_tup (pv 6) pe_int (fun _ _ => rfl)) pa_nil)))))) (pss_one (ps_ret pe_bl)) pss_nil) <|
    pss_cons (ps_set (i := 7) nd rfl (Or.inl rfl) (pe_callN Ft (hr.mono (by omega)) rfl (pa_cons (pv 0) (pa_cons (pv 5) (pa_cons (pe_callN Fw (hr.mono (by omega)) rfl (pa_cons (pv 0) (pa_cons (pv 4) (pa_cons (pv 5) (pa_cons (pe_ix ix_tup (pv 6) pe_int (fun _ _ => rfl)) pa_nil))))) pa_nil))))) <|
    pss_cons (ps_if (pt_not (pt_val (pe_callN Fs (hr.mono (by omega)) rfl (pa_cons (pv 7) (pa_cons (pe_ix ix_tup (pv 6) pe_int (fun _ _ => rfl)) pa_nil))))) (pss_one (ps_ret pe_bl)) pss_nil) <|
    pss_cons (ps_set (i := 8) nd rfl (Or.inl rfl) (pe_callN Fl (hr.mono (by omega)) rfl (pa_cons (pv 0) (pa_cons (pe_ix ix_tup (pv 6) pe_int (fun _ _ => rfl)) (pa_cons (pv 7) pa_nil))))) <|
    pss_one (ps_ret (pe_callN Fst hr rfl (pa_cons (pv 0) (pa_cons (pv 1) (pa_cons (pv 2) (pa_cons (pv 3) (pa_cons (pv 8) (pa_cons (pe_ix ix_tup (pv 6) pe_int (fun _ _ => rfl)) pa_nil)))))))), ?_⟩
  obtain ⟨p, vt, vp, vw, rfl, hp, it, gt, hpp, hw, hg⟩ := hK
  unfold wsB at q
  refine ⟨_, rfl, _, rfl, _, rfl, p, _, _, _, rfl, rfl, .inl (.inl hp), atI_nat (j := 3) rfl, key, D, vw, os, en, rfl, hw, hol, _, rfl, ?_⟩
  cases hfit : fitB key D os.length en with
  | false =>
    refine iteT ?_
    have z1 := q H ((Gr.refl hS.told).up (by omega))
    rw [hfit] at z1
    exact z1
  | true =>
    refine iteF ?_
    rw [hfit, Bool.true_and] at q
    have hn := fit_len hfit
    refine ⟨_, rfl, _, rfl, _, rfl, _, rfl, _, rfl, _, rfl, p, _, _, _, rfl, rfl, .inl (.inl hp), atI_nat (j := 3) rfl, S, f, key, D, vw, os, en, rfl, hS, hw, hn, hD, hc.dn (by omega), fun v1 H1 g1 i1 => ?_⟩
    have hS1 := hS.up g1.gn
    refine ⟨S, f, .int (D : Int), _, _, _, rfl, hS1, hc.go g1.gn (by omega), rfl, i1, fun v2 H2 g2 i2 => ?_⟩
    have g12 := g1.trans g2
    have hS2 := hS.up g12.gn
    have hp2 := g12.gn.keep _ _ hp rfl
    have gw := topW_gd hB1 (key := key) (e := en) D os hg
    have gtb : Gd lf (B + 22) (tblT D (topW key D os (endT en))) := ⟨by show max 0 _ + 1 ≤ _; have := gw.1; omega, ws_tbl gw.2⟩
    refine ⟨_, rfl, _, rfl, p, _, _, _, rfl, rfl, .inl (.inl hp2), atI_nat (j := 1) rfl, _, _, _, _, rfl, tree_eqB (g := gS lf) (s := .nd) (fun d e => ⟨gtb.2, gt.2, hS2.ints d e⟩) i2 (isT_up g12.gn it), by have := gtb.1; omega, _, rfl, ?_⟩
    cases heq : decide (tblT D (topW key D os (endT en)) = tt) with
    | false =>
      refine iteT ?_
      have z1 := q H2 (g12.up (by omega))
      rw [heq] at z1
      exact z1
    | true =>
      refine iteF ?_
      rw [heq, Bool.true_and] at q
      refine ⟨_, rfl, _, rfl, p, _, _, _, rfl, rfl, .inl (.inl hp2), atI_nat (j := 0) rfl, _, rfl, S, f, .str z, _, _, _, rfl, hS2, hc.go g12.gn (by omega), rfl, i2, fun v3 H3 g3 i3 => ?_⟩
      have g13 := g12.trans g3
      have hp3 := g13.gn.keep _ _ hp rfl
      have glf : Gd lf (B + 25) (.nd "leaf" (.str z) (tblT D (topW key D os (endT en)))) := ⟨by show max 0 _ + 1 ≤ _; have := gtb.1; omega, ws_leaf (by subst hlf; exact gtb.2)⟩
      refine ⟨_, rfl, _, rfl, _, rfl, _, rfl, _, rfl, _, rfl, p, _, _, _, rfl, rfl, .inl (.inl hp3), atI_nat (j := 2) rfl, ?_⟩
      exact ⟨S, f, th, vh, _, _, vp, po, size, place, rfl, hS.up g13.gn, hc.go g13.gn (by omega), isT_up g13.gn ih, i3, gh.mono (by omega), glf, (hpp.up g13).mono (by omega), hsz, hB, fun H4 g4 => q H4 ((g13.trans g4).up (by omega))⟩
structure TxH (K : PySem.W.Frag) (mg : Str → Option Value) (C : Addr) : Prop where
  cl : Cls K C
  n1 : NoAttr K C "place"
  n2 : NoAttr K C "key"
  n3 : NoAttr K C "wanted"
  n4 : NoAttr K C "depth"
  mgC : mg "Holds" = some (.ref C)
structure TxL (K : PySem.W.Frag) (mg : Str → Option Value) (C : Addr) : Prop where
  cl : Cls K C
  n1 : NoAttr K C "place"
  n2 : NoAttr K C "key"
  n4 : NoAttr K C "depth"
  mgC : mg "Lacks" = some (.ref C)
def flH (p k : Int) (x : Str) (D : Nat) : List (Str × V) := [("place", .int p), ("key", .int k), ("wanted", .str x), ("depth", .int D)]
def flL (p k : Int) (D : Nat) : List (Str × V) := [("place", .int p), ("key", .int k), ("depth", .int D)]
def HoAt (C : Addr) (H : Hp) (x : Addr) (p k : Int) (z : Str) (D : Nat) : Prop := ∃ dx, H x = some (.ins C dx (flH p k z D))
def LaAt (C : Addr) (H : Hp) (x : Addr) (p k : Int) (D : Nat) : Prop := ∃ dx, H x = some (.ins C dx (flL p k D))
theorem HoAt.up {S : Sl} {H H' : Hp} {x : Addr} {p k : Int} {z : Str} {D n : Nat} (h : HoAt C H x p k z D) (g : Gr S n H H') : HoAt C H' x p k z D := by
  obtain ⟨dx, h⟩ := h
  exact ⟨dx, g.same h (fun _ e => nomatch e)⟩
theorem LaAt.up {S : Sl} {H H' : Hp} {x : Addr} {p k : Int} {D n : Nat} (h : LaAt C H x p k D) (g : Gr S n H H') : LaAt C H' x p k D := by
  obtain ⟨dx, h⟩ := h
  exact ⟨dx, g.same h (fun _ e => nomatch e)⟩
def spHI (C : Addr) : Sp := fun vs H Q _ => ∃ (p dx : Addr) (pl k : Int) (z : Str) (D : Nat), vs = [.ref p, .int pl, .int k, .str z, .int D] ∧ H p = some (.ins C dx []) ∧ ∀ H', HoAt C H' p pl k z D → (∀ b o, H b = some o → b ≠ p → H' b = some o) → Q .non H'
theorem scHI : FnScope ["self", "place", "key", "value", "depth"] ["self", "place", "key", "value", "depth"] (defScope mHInit) := ⟨rfl, rfl, rfl, by decide +kernel, rfl, by decide +kernel, by decide +kernel⟩
theorem ok_hinit (F : MethAt K C "__init__" "Holds.__init__" mHInit) (T : TxH K mg C) : MtP P w K mg base C 1 "__init__" ["self", "place", "key", "value", "depth"] (spHI C) := by
  refine F.ok scHI (fun _ _ _ _ _ _ us hl => match us, hl with | [_, _, _, _, _], _ => rfl) (fun vs H Q E h => ?_) (fun f0 cdv A outer s H vs Q E hr h => ?_)
  · obtain ⟨p, dx, pl, k, z, D, rfl, _⟩ := h; rfl
  obtain ⟨p, dx, pl, k, z, D, rfl, hp, q⟩ := h
  refine ⟨_, pss_cons (ps_fld (pv 0) (pv 1) rfl) <| pss_cons (ps_fld (pv 0) (pv 2) rfl) <| pss_cons (ps_fld (pv 0) (pv 3) rfl) <| pss_one (ps_fld (pv 0) (pv 4) rfl), ?_⟩
  have e1 : putF "place" (V.int pl) [] = ([("place", .int pl)] : List (Str × V)) := rfl
  have e2 : putF "key" (V.int k) ([("place", .int pl)] : List (Str × V)) = ([("place", .int pl), ("key", .int k)] : List (Str × V)) := putNew (by simp only [List.map_cons, List.map_nil]; decide +kernel)
  have e3 : putF "wanted" (V.str z) ([("place", .int pl), ("key", .int k)] : List (Str × V)) = ([("place", .int pl), ("key", .int k), ("wanted", .str z)] : List (Str × V)) := putNew (by simp only [List.map_cons, List.map_nil]; decide +kernel)
  have e4 : putF "depth" (V.int D) ([("place", .int pl), ("key", .int k), ("wanted", .str z)] : List (Str × V)) = flH pl k z D := putNew (by simp only [List.map_cons, List.map_nil]; decide +kernel)
  refine ⟨_, rfl, _, rfl, p, C, dx, [], rfl, hp, T.cl, T.n1, (by show 0 < 1000; decide), ?_⟩
  rw [e1]
  refine ⟨_, rfl, _, rfl, p, C, dx, _, rfl, upd_same, T.cl, T.n2, (by show 1 < 1000; decide), ?_⟩
  rw [e2, upd_upd]
  refine ⟨_, rfl, _, rfl, p, C, dx, _, rfl, upd_same, T.cl, T.n3, (by show 2 < 1000; decide), ?_⟩
  rw [e3, upd_upd]
  refine ⟨_, rfl, _, rfl, p, C, dx, _, rfl, upd_same, T.cl, T.n4, (by show 3 < 1000; decide), ?_⟩
  rw [e4, upd_upd]
  exact q _ ⟨dx, upd_same⟩ fun b o e hb => by rw [upd_ne hb]; exact e
def spLI (C : Addr) : Sp := fun vs H Q _ => ∃ (p dx : Addr) (pl k : Int) (D : Nat), vs = [.ref p, .int pl, .int k, .int D] ∧ H p = some (.ins C dx []) ∧ ∀ H', LaAt C H' p pl k D → (∀ b o, H b = some o → b ≠ p → H' b = some o) → Q .non H'
theorem scLI : FnScope ["self", "place", "key", "depth"] ["self", "place", "key", "depth"] (defScope mLInit) := ⟨rfl, rfl, rfl, by decide +kernel, rfl, by decide +kernel, by decide +kernel⟩
theorem ok_linit (F : MethAt K C "__init__" "Lacks.__init__" mLInit) (T : TxL K mg C) : MtP P w K mg base C 1 "__init__" ["self", "place", "key", "depth"] (spLI C) := by
  refine F.ok scLI (fun _ _ _ _ _ _ us hl => match us, hl with | [_, _, _, _], _ => rfl) (fun vs H Q E h => ?_) (fun f0 cdv A outer s H vs Q E hr h => ?_)
  · obtain ⟨p, dx, pl, k, D, rfl, _⟩ := h; rfl
  obtain ⟨p, dx, pl, k, D, rfl, hp, q⟩ := h
  refine ⟨_, pss_cons (ps_fld (pv 0) (pv 1) rfl) <| pss_cons (ps_fld (pv 0) (pv 2) rfl) <| pss_one (ps_fld (pv 0) (pv 3) rfl), ?_⟩
  have e1 : putF "place" (V.int pl) [] = ([("place", .int pl)] : List (Str × V)) := rfl
  have e2 : putF "key" (V.int k) ([("place", .int pl)] : List (Str × V)) = ([("place", .int pl), ("key", .int k)] : List (Str × V)) := putNew (by simp only [List.map_cons, List.map_nil]; decide +kernel)
  have e4 : putF "depth" (V.int D) ([("place", .int pl), ("key", .int k)] : List (Str × V)) = flL pl k D := putNew (by simp only [List.map_cons, List.map_nil]; decide +kernel)
  refine ⟨_, rfl, _, rfl, p, C, dx, [], rfl, hp, T.cl, T.n1, (by show 0 < 1000; decide), ?_⟩
  rw [e1]
  refine ⟨_, rfl, _, rfl, p, C, dx, _, rfl, upd_same, T.cl, T.n2, (by show 1 < 1000; decide), ?_⟩
  rw [e2, upd_upd]
  refine ⟨_, rfl, _, rfl, p, C, dx, _, rfl, upd_same, T.cl, T.n4, (by show 2 < 1000; decide), ?_⟩
  rw [e4, upd_upd]
  exact q _ ⟨dx, upd_same⟩ fun b o e hb => by rw [upd_ne hb]; exact e
def spHJ (K : PySem.W.Frag) (mg : Str → Option Value) (C : Addr) (lf : Srt) (S : Sl) (B : Nat) : Sp := fun vs H Q _ => ∃ (x f : Addr) (size place key : Int) (wx : Str) (D : Nat) (th : Tm) (vh v : V) (z : Str) (tt : Tm) (po : Option (List Tm)) (os : List Tm) (en : Option (Int × Str)), vs = [.ref x, .ref f, .int size, vh, v] ∧ HoAt C H x place key wx D ∧ SealAt K mg sNumd S H f ∧ Cap S H 100 ∧ isT S H th vh ∧ Gd lf B th ∧ KPap lf S H B v z tt po os en ∧ os.length ≤ 1000 ∧ D ≤ 20 ∧ size ≤ 2 ^ 40 ∧
  ∀ H', Gr S 100 H H' → Q (.bl (hoB po size place th key wx D z tt os en)) H'
theorem scHJ : FnScope ["self", "seal", "size", "head", "paper"] ["self", "seal", "size", "head", "paper"] (defScope mHJudged) := ⟨rfl, rfl, rfl, by decide +kernel, rfl, by decide +kernel, by decide +kernel⟩
theorem ok_hjudged (lf : Srt) (S : Sl) (B : Nat) (F : MethAt K C "judged" "Holds.judged" mHJudged) (T : TxH K mg C) (Fk : FnP P w K mg base 4 "is_key_paper" ["thing"] (spIsKP lf S B)) (Fs : FnP P w K mg base 20 "same" ["one", "other"] spSame) (Fw : FnP P w K mg base 22 "way_stands" ["seal", "size", "head", "place", "key", "depth", "paper"] (spWSt K mg lf S B)) : MtP P w K mg base C 23 "judged" ["self", "seal", "size", "head", "paper"] (spHJ K mg C lf S B) := by
  refine F.ok scHJ (fun _ _ _ _ _ _ us hl => match us, hl with | [_, _, _, _, _], _ => rfl) (fun vs H Q E h => ?_) (fun f0 cdv A outer s H vs Q E hr h => ?_)
  · obtain ⟨x, f, size, place, key, wx, D, th, vh, v, z, tt, po, os, en, rfl, _⟩ := h; rfl
  obtain ⟨x, f, size, place, key, wx, D, th, vh, v, z, tt, po, os, en, rfl, ⟨dx, hx⟩, hS, hc, ih, gh, hK, hol, hD, hsz, q⟩ := h
  refine ⟨_, pss_cons (ps_if (pt_not (pt_val (pe_callN Fk (hr.mono (by omega)) rfl (pa_cons (pv 4) pa_nil)))) (pss_one (ps_ret pe_bl)) pss_nil) <|
    pss_cons (ps_if (pt_not (pt_val (pe_callN Fs (hr.mono (by omega)) rfl (pa_cons (pe_ix ix_tup (pe_ix ix_tup (pv 4) pe_int (fun _ _ => rfl)) pe_int (fun _ _ => rfl)) (pa_cons (pe_tup (pa_cons (pe_fld (pv 0) rfl) (pa_cons (pe_fld (pv 0) rfl) pa_nil))) pa_nil))))) (pss_one (ps_ret pe_bl)) pss_nil) <|
    pss_one (ps_ret (pe_callN Fw hr rfl (pa_cons (pv 1) (pa_cons (pv 2) (pa_cons (pv 3) (pa_cons (pe_fld (pv 0) rfl) (pa_cons (pe_fld (pv 0) rfl) (pa_cons (pe_fld (pv 0) rfl) (pa_cons (pv 4) pa_nil))))))))), ?_⟩
  refine ⟨_, rfl, v, z, tt, po, os, en, rfl, hK, _, rfl, iteF ?_⟩
  obtain ⟨p, vt, vp, vw, rfl, hp, it, gt, hpp, hw, hg⟩ := id hK
  obtain ⟨pw, a, ws, ve, rfl, hpw, ha, itw, he⟩ := id hw
  refine ⟨_, rfl, p, _, _, _, rfl, rfl, .inl (.inl hp), atI_nat (j := 3) rfl, pw, _, _, _, rfl, rfl, .inl (.inl hpw), atI_nat (j := 1) rfl, _, rfl, x, C, dx, _, _, rfl, hx, T.cl, T.n2, rfl, _, rfl, x, C, dx, _, _, rfl, hx, T.cl, T.n3, rfl, (by show 2 ≤ sizeLine; decide), fun p1 hp1 => ?_⟩
  have g1 : Gr S 0 H (upd H p1 (.tup [.int key, .str wx])) := .new hS.told hp1
  refine ⟨_, _, 1, _, rfl, end_eqB (he.up g1.gn) upd_same, by omega, _, rfl, ?_⟩
  unfold hoB at q
  cases heq : decide (en = some (key, wx)) with
  | false =>
    refine iteT ?_
    have z1 := q _ (g1.up (by omega))
    rw [heq] at z1
    exact z1
  | true =>
    refine iteF ?_
    rw [heq, Bool.true_and] at q
    have hx1 := g1.same hx (fun _ e => nomatch e)
    refine ⟨_, rfl, _, rfl, _, rfl, _, rfl, x, C, dx, _, _, rfl, hx1, T.cl, T.n1, rfl, _, rfl, x, C, dx, _, _, rfl, hx1, T.cl, T.n2, rfl, _, rfl, x, C, dx, _, _, rfl, hx1, T.cl, T.n4, rfl, _, rfl, ?_⟩
    exact ⟨f, size, place, key, D, th, vh, _, z, tt, po, os, en, rfl, hS.up g1.gn, hc.go g1.gn (by omega), isT_up g1.gn ih, gh, hK.up g1, hol, hD, hsz, fun H2 g2 => q H2 ((g1.trans g2).up (by omega))⟩
def spLJ (K : PySem.W.Frag) (mg : Str → Option Value) (C : Addr) (lf : Srt) (S : Sl) (B : Nat) : Sp := fun vs H Q _ => ∃ (x f : Addr) (size place key : Int) (D : Nat) (th : Tm) (vh v : V) (z : Str) (tt : Tm) (po : Option (List Tm)) (os : List Tm) (en : Option (Int × Str)), vs = [.ref x, .ref f, .int size, vh, v] ∧ LaAt C H x place key D ∧ SealAt K mg sNumd S H f ∧ Cap S H 100 ∧ isT S H th vh ∧ Gd lf B th ∧ KPap lf S H B v z tt po os en ∧ os.length ≤ 1000 ∧ D ≤ 20 ∧ size ≤ 2 ^ 40 ∧
  ∀ H', Gr S 100 H H' → Q (.bl (laB po size place th key D z tt os en)) H'
theorem scLJ : FnScope ["self", "seal", "size", "head", "paper", "end"] ["self", "seal", "size", "head", "paper"] (defScope mLJudged) := ⟨rfl, rfl, rfl, by decide +kernel, rfl, by decide +kernel, by decide +kernel⟩
theorem ok_ljudged (lf : Srt) (S : Sl) (B : Nat) (F : MethAt K C "judged" "Lacks.judged" mLJudged) (T : TxL K mg C) (Fk : FnP P w K mg base 4 "is_key_paper" ["thing"] (spIsKP lf S B)) (Fw : FnP P w K mg base 22 "way_stands" ["seal", "size", "head", "place", "key", "depth", "paper"] (spWSt K mg lf S B)) : MtP P w K mg base C 23 "judged" ["self", "seal", "size", "head", "paper"] (spLJ K mg C lf S B) := by
  refine F.ok scLJ (fun _ _ _ _ _ _ us hl => match us, hl with | [_, _, _, _, _], _ => rfl) (fun vs H Q E h => ?_) (fun f0 cdv A outer s H vs Q E hr h => ?_)
  · obtain ⟨x, f, size, place, key, D, th, vh, v, z, tt, po, os, en, rfl, _⟩ := h; rfl
  obtain ⟨x, f, size, place, key, D, th, vh, v, z, tt, po, os, en, rfl, ⟨dx, hx⟩, hS, hc, ih, gh, hK, hol, hD, hsz, q⟩ := h
  have nd := scLJ.nd
  refine ⟨_, pss_cons (ps_if (pt_not (pt_val (pe_callN Fk (hr.mono (by omega)) rfl (pa_cons (pv 4) pa_nil)))) (pss_one (ps_ret pe_bl)) pss_nil) <|
    pss_cons (ps_set (i := 5) nd rfl (Or.inl rfl) (pe_ix ix_tup (pe_ix ix_tup (pv 4) pe_int (fun _ _ => rfl)) pe_int (fun _ _ => rfl))) <|
    pss_cons (ps_if (PW.pt (pw_and (pt_cmpR op_notN (pv 5) pe_non (nomark _)) (pw_and1 (pt_cmpR op_eq (pe_ix ix_tup (pv 5) pe_int (fun _ _ => rfl)) (pe_fld (pv 0) rfl) (nomark _))))) (pss_one (ps_ret pe_bl)) pss_nil) <|
    pss_one (ps_ret (pe_callN Fw hr rfl (pa_cons (pv 1) (pa_cons (pv 2) (pa_cons (pv 3) (pa_cons (pe_fld (pv 0) rfl) (pa_cons (pe_fld (pv 0) rfl) (pa_cons (pe_fld (pv 0) rfl) (pa_cons (pv 4) pa_nil))))))))), ?_⟩
  refine ⟨_, rfl, v, z, tt, po, os, en, rfl, hK, _, rfl, iteF ?_⟩
  obtain ⟨p, vt, vp, vw, rfl, hp, it, gt, hpp, hw, hg⟩ := id hK
  obtain ⟨pw, a, ws, ve, rfl, hpw, ha, itw, he⟩ := id hw
  refine ⟨_, rfl, p, _, _, _, rfl, rfl, .inl (.inl hp), atI_nat (j := 3) rfl, pw, _, _, _, rfl, rfl, .inl (.inl hpw), atI_nat (j := 1) rfl, ?_⟩
  have go : ∀ t, (∀ H', Gr S 100 H H' → Q (.bl (wsB po size place th key D z tt os en)) H') → tRet (tCall (spWSt K mg lf S B) [] E0 (tCons (tVar 1) (tCons (tVar 2) (tCons (tVar 3) (tCons (tFld K (tVar 0) "place") (tCons (tFld K (tVar 0) "key") (tCons (tFld K (tVar 0) "depth") (tCons (tVar 4) tNil)))))))) { nx := fun _ H' => Q .non H', rt := Q } [some (.ref x), some (.ref f), some (.int size), some vh, some (.ref p), t] H := fun t q => by
    refine ⟨_, rfl, _, rfl, _, rfl, _, rfl, x, C, dx, _, _, rfl, hx, T.cl, T.n1, rfl, _, rfl, x, C, dx, _, _, rfl, hx, T.cl, T.n2, rfl, _, rfl, x, C, dx, _, _, rfl, hx, T.cl, T.n4, rfl, _, rfl, ?_⟩
    exact ⟨f, size, place, key, D, th, vh, _, z, tt, po, os, en, rfl, hS, hc, ih, gh, hK, hol, hD, hsz, q⟩
  unfold laB at q
  cases en with
  | none =>
    obtain rfl : ve = V.non := he
    refine ⟨_, rfl, rfl, _, rfl, ?_⟩
    rw [decide_eq_true rfl]
    exact iteF (go _ q)
  | some e =>
    obtain ⟨pe, rfl, hpe⟩ := he
    refine ⟨_, rfl, rfl, _, rfl, ?_⟩
    rw [decide_eq_false (fun h => nomatch h)]
    refine iteT ?_
    refine ⟨_, rfl, pe, _, _, _, rfl, rfl, .inl (.inl hpe), atI_nat (j := 0) rfl, _, rfl, x, C, dx, _, _, rfl, hx, T.cl, T.n2, rfl, rfl, _, rfl, ?_⟩
    have q' : ∀ H', Gr S 100 H H' → Q (.bl ((!decide (e.1 = key)) && wsB po size place th key D z tt os (some e))) H' := q
    refine ite2 (fun c => ?_) (fun c => ?_)
    · have c' : V.int e.1 = V.int key := of_decide_eq_true c
      have c2 : e.1 = key := by injection c'
      have z1 := q' H ((Gr.refl hS.told).up (by omega))
      rw [decide_eq_true c2] at z1
      exact z1
    · have c2 : ¬ e.1 = key := fun h => c (decide_eq_true (by rw [h]))
      rw [decide_eq_false c2] at q'
      exact go _ q'
end
end My
namespace My
open PySem L2
theorem told_p {H : Hp} : Told .plain H := fun d e => by cases e
theorem cap_p {H : Hp} {n : Nat} : Cap .plain H n := fun d kvs e => by cases e
abbrev Ext (H H' : Hp) : Prop := ∀ b o, H b = some o → H' b = some o
theorem Ext.gr {H H' : Hp} (h : Ext H H') : Gr .plain 0 H H' := .ext told_p h
theorem Gr.x {n : Nat} {H H' : Hp} (g : Gr .plain n H H') : Ext H H' := fun b o h => g.all b o h (fun e => by cases e)
theorem Ext.trans {H H1 H2 : Hp} (h : Ext H H1) (h' : Ext H1 H2) : Ext H H2 := fun b o e => h' b o (h b o e)
theorem Ext.refl {H : Hp} : Ext H H := fun _ _ e => e
theorem Ext.new {H : Hp} {p : Addr} {o : HO} (h : H p = none) : Ext H (upd H p o) := fun b u e => by rw [upd_ne (ne_of_none e h)]; exact e
theorem Ext.own {H H' : Hp} {p : Addr} {o : HO} (x : Ext H H') (h : H p = none) : Ext H (upd H' p o) := fun b u e => by rw [upd_ne (ne_of_none e h)]; exact x b u e
theorem Ext.free {H H' : Hp} (x : Ext H H') {p : Addr} (h : H' p = none) : H p = none := by
  cases z : H p with
  | none => rfl
  | some o => rw [x _ _ z] at h; cases h
theorem Ext.t {H H' : Hp} (x : Ext H H') {t : Tm} {v : V} (h : isT .plain H t v) : isT .plain H' t v := isT_up x.gr.gn h
theorem Ext.ts {H H' : Hp} (x : Ext H H') {t : List Tm} {v : List V} (h : isTs .plain H t v) : isTs .plain H' t v := isTs_up x.gr.gn h
theorem tup3 {H : Hp} {p : Addr} {m : Str} {a b : Tm} {va vb : V} (h : H p = none) (ia : isT .plain H a va) (ib : isT .plain H b vb) : isT .plain (upd H p (.tup [.str m, va, vb])) (.nd m a b) (.ref p) :=
  ⟨p, va, vb, rfl, upd_same, (Ext.new h).t ia, (Ext.new h).t ib⟩
section
variable {P : Program} {w : World} {K : PySem.W.Frag} {mg : Str → Option Value} {base : Heap}
def spSome : Sp := fun vs H Q _ => ∃ c k : Int, vs = [.int c, .int k] ∧ 0 ≤ k ∧ ∀ v t H', Ext H H' → isT .plain H' t v → Gd .int 2 t → Q v H'
theorem scSo : FnScope ["_law_cell", "_law_k", "_law_one"] ["_law_cell", "_law_k"] (defScope sSome) := ⟨rfl, rfl, rfl, by decide +kernel, rfl, by decide +kernel, by decide +kernel⟩
theorem ab_len : ("ab" : Str).length = 2 := by decide +kernel
theorem ok_some (F : FunAt K mg "_law_some" sSome) (Fd : FnP P w K mg base 1 "_law_draw" ["_law_cell", "_law_k", "_law_many"] spDraw) : FnP P w K mg base 2 "_law_some" ["_law_cell", "_law_k"] spSome := by
  refine F.ok scSo (fun _ _ _ _ _ _ us hl => match us, hl with | [_, _], _ => rfl) (fun vs H Q E h => ?_) (fun f0 cdv A outer s H vs Q E hr h => ?_)
  · obtain ⟨c, k, rfl, _⟩ := h; rfl
  obtain ⟨c, k, rfl, hk, q⟩ := h
  have nd := scSo.nd
  refine ⟨_, pss_cons (ps_set (i := 2) nd rfl (Or.inl rfl) (pe_tup (pa_cons pe_str (pa_cons (pe_slice sl_str pe_str po_none (po_some (pe_callN Fd hr rfl (pa_cons (pv 0) (pa_cons (pv 1) (pa_cons pe_int pa_nil)))))) (pa_cons (pe_callN Fd hr rfl (pa_cons (pv 0) (pa_cons (pe_op op_add (pv 1) pe_int) (pa_cons pe_int pa_nil)))) pa_nil))))) <|
    pss_cons (ps_if (pt_cmpR op_eq (pe_callN Fd hr rfl (pa_cons (pv 0) (pa_cons (pe_op op_add (pv 1) pe_int) (pa_cons pe_int pa_nil)))) pe_int (nomark _)) (pss_one (ps_ret (pe_tup (pa_cons pe_str (pa_cons (pv 2) (pa_cons (pe_tup (pa_cons pe_str (pa_cons pe_int (pa_cons pe_int pa_nil)))) pa_nil)))))) pss_nil) <|
    pss_one (ps_ret (pv 2)), ?_⟩
  refine ⟨_, rfl, _, rfl, c, k, 3, rfl, hk, by decide, fun v1 H1 _ _ x1 => ⟨v1, rfl, "ab", rfl, by rw [ab_len, sizeLine_eq]; decide, ?_⟩⟩
  refine ⟨_, rfl, _, rfl, _, _, rfl, rfl, c, k + 1, 2, rfl, by omega, by decide, fun v2 H2 _ _ x2 => ⟨by show 3 ≤ sizeLine; decide, fun p hp => ?_⟩⟩
  have x3 : Ext H2 (upd H2 p (.tup [.str "leaf", .str (Txt.slice "ab" none (some v1)), .int v2])) := .new hp
  have i3 := tup3 (m := "leaf") (a := .str (Txt.slice "ab" none (some v1))) (b := .int v2) hp rfl rfl
  have gl : Gd .int 1 (.nd "leaf" (.str (Txt.slice "ab" none (some v1))) (.int v2)) := ⟨Nat.le_refl _, ws_leaf rfl⟩
  refine ⟨_, rfl, _, rfl, _, _, rfl, rfl, c, k + 2, 3, rfl, by omega, by decide, fun v4 H4 _ _ x4 => ⟨rfl, _, rfl, ?_⟩⟩
  have x1 : Ext H H1 := x1
  have x2 : Ext H1 H2 := x2
  have x4 : Ext _ H4 := x4
  have x04 : Ext H H4 := ((x1.trans x2).trans x3).trans x4
  refine ite2 (fun _ => ?_) (fun _ => ⟨_, rfl, q _ _ H4 x04 (Ext.t x4 i3) (gl.mono (by omega))⟩)
  refine ⟨_, rfl, by show 3 ≤ sizeLine; decide, fun p5 hp5 => ⟨by show 3 ≤ sizeLine; decide, fun p6 hp6 => ?_⟩⟩
  have x5 : Ext H4 (upd H4 p5 (.tup [.str "none", .int 0, .int 0])) := .new hp5
  have i5 := tup3 (m := "none") (a := .int 0) (b := .int 0) hp5 rfl rfl
  exact q _ _ _ ((x04.trans x5).trans (.new hp6)) (tup3 (m := "pair") hp6 (x5.t (Ext.t x4 i3)) i5) ⟨by show max 1 1 + 1 ≤ 2; decide, ws_pr gl.2 ws_nl⟩
def spLR (j : Nat) : Sp := fun vs H Q _ => ∃ (vl : V) (tl : Tm) (place size at_ : Int) (aT : Addr) (wt : List V) (tts : List Tm), vs = [vl, .int place, .int size, .ref aT, .int at_] ∧ isT .plain H tl vl ∧ Gd .int 2 tl ∧ H aT = some (.lst wt) ∧ isTs .plain H tts wt ∧ (∀ t ∈ tts, Gd .int 2 t) ∧ tts.length = 3 ∧ 0 ≤ at_ ∧ 1 ≤ size ∧ size ≤ 2 ^ j ∧
  ∀ p v l ws t os H', Ext H H' → H' p = some (.tup [v, .ref l]) → isT .plain H' t v → Gd .int (2 + j) t → H' l = some (.lst ws) → isTs .plain H' os ws → (∀ t ∈ os, Gd .int 2 t) → os.length ≤ j → H l = none → Q (.ref p) H'
abbrev nLR : List Str := ["_law_leaf", "_law_place", "_law_size", "_law_tops", "_law_at", "_law_k", "_law_last", "_law_both"]
theorem scLR : FnScope nLR ["_law_leaf", "_law_place", "_law_size", "_law_tops", "_law_at"] (defScope sLrisen) := ⟨rfl, rfl, rfl, by decide +kernel, rfl, by decide +kernel, by decide +kernel⟩
theorem at_mod {H : Hp} {wt : List V} {tts : List Tm} (it : isTs .plain H tts wt) (hg : ∀ t ∈ tts, Gd .int 2 t) (h3 : tts.length = 3) (a : Int) : ∃ v t, atI wt (a % (wt.length : Int)) = some v ∧ isT .plain H t v ∧ Gd .int 2 t := by
  have wl := pr_len it
  have m0 := Int.emod_nonneg a (show (wt.length : Int) ≠ 0 by omega)
  have m1 := Int.emod_lt_of_pos a (show (0 : Int) < (wt.length : Int) by omega)
  obtain ⟨k, hk⟩ : ∃ k : Nat, a % (wt.length : Int) = (k : Int) := ⟨(a % (wt.length : Int)).toNat, by omega⟩
  have hkl : k < wt.length := by omega
  have ek : wt[k]? = some wt[k] := List.getElem?_eq_getElem hkl
  obtain ⟨t, e1, e2⟩ := pr_get2 it ek
  exact ⟨wt[k], t, by rw [hk]; exact atI_nat ek, e2, hg t (List.mem_of_getElem? e1)⟩
theorem spl_le {size : Int} {j : Nat} (h2 : 2 ≤ size) (hj : size ≤ 2 ^ (j + 1)) : ((Gb.spl size.toNat : Nat) : Int) ≤ 2 ^ j ∧ size - ((Gb.spl size.toNat : Nat) : Int) ≤ 2 ^ j ∧ ((Gb.spl size.toNat : Nat) : Int) < size ∧ 1 ≤ ((Gb.spl size.toNat : Nat) : Int) := by
  obtain ⟨n, rfl⟩ : ∃ n : Nat, size = (n : Int) := ⟨size.toNat, by omega⟩
  have e1 : ((n : Int)).toNat = n := rfl
  rw [e1]
  have a1 := Gb.spl_lt (n := n) (by omega)
  have a2 := Gb.spl_ge (n := n) (by omega)
  have a3 := Gb.spl_pos n
  have hj' : n ≤ 2 ^ (j + 1) := by exact_mod_cast hj
  have h4 : Gb.spl n ≤ 2 ^ j := by
    rw [Nat.pow_succ] at hj'
    unfold Gb.spl at a1 a2 ⊢
    exact Nat.pow_le_pow_right (by omega) (by
      have : 2 ^ (n - 1).log2 < 2 ^ (j + 1) := by rw [Nat.pow_succ]; omega
      have := (Nat.pow_lt_pow_iff_right (by omega : 1 < 2)).mp this
      omega)
  have h5 : ((2 ^ j : Nat) : Int) = (2 : Int) ^ j := by push_cast; rfl
  refine ⟨by rw [← h5]; exact_mod_cast h4, by rw [← h5]; omega, by omega, by omega⟩
theorem ok_lrisen (F : FunAt K mg "_law_risen" sLrisen) (Fs : FnP P w K mg base 1 "_law_split" ["_law_size"] spSplit) (ml : mg "len" = none) : ∀ j : Nat, j ≤ 40 → FnP P w K mg base (j + 2) "_law_risen" ["_law_leaf", "_law_place", "_law_size", "_law_tops", "_law_at"] (spLR j)
  | 0, _ => by
    refine F.ok scLR (fun _ _ _ _ _ _ us hl => match us, hl with | [_, _, _, _, _], _ => rfl) (fun vs H Q E h => ?_) (fun f0 cdv A outer s H vs Q E hr h => ?_)
    · obtain ⟨vl, tl, place, size, at_, aT, wt, tts, rfl, _⟩ := h; rfl
    obtain ⟨vl, tl, place, size, at_, aT, wt, tts, rfl, il, gl, hT, it, hg, h3, ha, s1, s2, q⟩ := h
    refine ⟨_, pss_cons (ps_if (pt_cmpR op_eq (pv 2) pe_int (nomark _)) (pss_one (ps_ret (pe_tup (pa_cons (pv 0) (pa_cons (pe_lst pa_nil) pa_nil))))) pss_nil) <| pss_never, ?_⟩
    have es : size = 1 := by have : (2 : Int) ^ 0 = 1 := rfl; omega
    subst es
    refine ⟨_, rfl, rfl, _, rfl, ?_⟩
    rw [decide_eq_true rfl]
    refine iteT ⟨_, rfl, by show 0 ≤ sizeLine; decide, fun l hl => ⟨by show 2 ≤ sizeLine; decide, fun p hp => ?_⟩⟩
    have x1 : Ext H (upd H l (.lst [])) := .new hl
    have x2 : Ext _ (upd (upd H l (.lst [])) p (.tup [vl, .ref l])) := .new hp
    exact q p vl l [] tl [] _ (x1.trans x2) upd_same ((x1.trans x2).t il) (gl.mono (by omega)) (x2 _ _ upd_same) .nil (fun t ht => nomatch ht) (by simp) hl
  | j + 1, hj => by
    have ih := ok_lrisen F Fs ml j (by omega)
    refine F.ok scLR (fun _ _ _ _ _ _ us hl => match us, hl with | [_, _, _, _, _], _ => rfl) (fun vs H Q E h => ?_) (fun f0 cdv A outer s H vs Q E hr h => ?_)
    · obtain ⟨vl, tl, place, size, at_, aT, wt, tts, rfl, _⟩ := h; rfl
    obtain ⟨vl, tl, place, size, at_, aT, wt, tts, rfl, il, gl, hT, it, hg, h3, ha, s1, s2, q⟩ := h
    have nd := scLR.nd
    refine ⟨_, pss_cons (ps_if (pt_cmpR op_eq (pv 2) pe_int (nomark _)) (pss_one (ps_ret (pe_tup (pa_cons (pv 0) (pa_cons (pe_lst pa_nil) pa_nil))))) pss_nil) <|
      pss_cons (ps_set (i := 5) nd rfl (Or.inl rfl) (pe_callN Fs (hr.mono (by omega)) rfl (pa_cons (pv 2) pa_nil))) <|
      pss_cons (ps_set (i := 6) nd rfl (Or.inl rfl) (pe_ix ix_list (pv 3) (pe_op op_mod (pv 4) (pe_callB call_len_seq rfl ml PySem.boot_len (pa_cons (pv 3) pa_nil))) (fun _ _ => rfl))) <|
      pss_cons (ps_if (pt_cmpR op_lt (pv 1) (pv 5) (nomark _)) (pss_cons (ps_set (i := 7) nd rfl (Or.inl rfl) (pe_callN ih hr rfl (pa_cons (pv 0) (pa_cons (pv 1) (pa_cons (pv 5) (pa_cons (pv 3) (pa_cons (pe_op op_add (pv 4) pe_int) pa_nil))))))) <|
        pss_one (ps_ret (pe_tup (pa_cons (pe_tup (pa_cons pe_str (pa_cons (pe_ix ix_tup (pv 7) pe_int (fun _ _ => rfl)) (pa_cons (pv 6) pa_nil)))) (pa_cons (pe_op op_cat (pe_ix ix_tup (pv 7) pe_int (fun _ _ => rfl)) (pe_lst (pa_cons (pv 6) pa_nil))) pa_nil))))) pss_nil) <|
      pss_cons (ps_set (i := 7) nd rfl (Or.inl rfl) (pe_callN ih hr rfl (pa_cons (pv 0) (pa_cons (pe_op op_sub (pv 1) (pv 5)) (pa_cons (pe_op op_sub (pv 2) (pv 5)) (pa_cons (pv 3) (pa_cons (pe_op op_add (pv 4) pe_int) pa_nil))))))) <|
      pss_one (ps_ret (pe_tup (pa_cons (pe_tup (pa_cons pe_str (pa_cons (pv 6) (pa_cons (pe_ix ix_tup (pv 7) pe_int (fun _ _ => rfl)) pa_nil)))) (pa_cons (pe_op op_cat (pe_ix ix_tup (pv 7) pe_int (fun _ _ => rfl)) (pe_lst (pa_cons (pv 6) pa_nil))) pa_nil)))), ?_⟩
    refine ⟨_, rfl, rfl, _, rfl, ?_⟩
    refine ite2 (fun _ => ?_) (fun c => ?_)
    · refine ⟨_, rfl, by show 0 ≤ sizeLine; decide, fun l hl => ⟨by show 2 ≤ sizeLine; decide, fun p hp => ?_⟩⟩
      have x1 : Ext H (upd H l (.lst [])) := .new hl
      have x2 : Ext _ (upd (upd H l (.lst [])) p (.tup [vl, .ref l])) := .new hp
      exact q p vl l [] tl [] _ (x1.trans x2) upd_same ((x1.trans x2).t il) (gl.mono (by omega)) (x2 _ _ upd_same) .nil (fun t ht => nomatch ht) (by simp) hl
    have c' : ¬ size = 1 := fun z => c (decide_eq_true (by rw [z]))
    have h2 : 2 ≤ size := by omega
    have hb : size < 2 ^ 60 := by
      have : (2 : Int) ^ (j + 1) ≤ 2 ^ 41 := by
        have := Nat.pow_le_pow_right (show 0 < 2 by omega) (show j + 1 ≤ 41 by omega)
        exact_mod_cast this
      have e41 : (2 : Int) ^ 41 < 2 ^ 60 := by decide
      omega
    obtain ⟨k1, k2, k3, k4⟩ := spl_le h2 s2
    refine ⟨_, rfl, size, rfl, h2, hb, ?_⟩
    generalize ((Gb.spl size.toNat : Nat) : Int) = k at k1 k2 k3 k4 ⊢
    obtain ⟨vt, tt, eat, itt, gtt⟩ := at_mod it hg h3 at_
    have wl := pr_len it
    refine ⟨_, rfl, _, rfl, _, rfl, aT, wt, rfl, .inl (SqL.of hT), _, _, rfl, rfl, by omega, aT, wt, _, vt, rfl, rfl, SqL.of hT, eat, ?_⟩
    refine ⟨_, rfl, _, rfl, _, _, rfl, rfl, _, rfl, ?_⟩
    refine ite2 (fun _ => ?_) (fun _ => ?_)
    · refine ⟨_, rfl, _, rfl, _, rfl, _, rfl, _, rfl, _, _, rfl, rfl, vl, tl, place, k, at_ + 1, aT, wt, tts, rfl, il, gl, hT, it, hg, h3, by omega, k4, k1, fun p1 v1 l1 ws1 t1 os1 H1 x1 e1 i1 g1 el1 il1 gs1 len1 nl1 => ?_⟩
      refine ⟨_, rfl, p1, _, _, _, rfl, rfl, .inl (.inl e1), atI_nat (j := 0) rfl, _, rfl, by show 3 ≤ sizeLine; decide, fun p2 hp2 => ?_⟩
      have x2 : Ext H1 (upd H1 p2 (.tup [.str "pair", v1, vt])) := .new hp2
      have i2 := tup3 (m := "pair") hp2 i1 (x1.t itt)
      refine ⟨_, rfl, p1, _, _, _, rfl, rfl, .inl (.inl (x2 _ _ e1)), atI_nat (j := 1) rfl, _, rfl, by show 1 ≤ sizeLine; decide, fun p3 hp3 => ?_⟩
      have x3 : Ext _ (upd (upd H1 p2 (.tup [.str "pair", v1, vt])) p3 (.lst [vt])) := .new hp3
      have w1 := pr_len il1
      refine ⟨l1, p3, ws1, [vt], rfl, rfl, x3 _ _ (x2 _ _ el1), upd_same, by rw [sizeLine_eq]; simp; omega, fun p4 hp4 => ⟨by show 2 ≤ sizeLine; decide, fun p5 hp5 => ?_⟩⟩
      have x4 := Ext.new (o := HO.lst (ws1 ++ [vt])) hp4
      have x5 := Ext.new (o := HO.tup [.ref p2, .ref p4]) hp5
      have x15 := ((x2.trans x3).trans x4).trans x5
      refine q p5 _ p4 (ws1 ++ [vt]) (prT t1 tt) (os1 ++ [tt]) _ (x1.trans x15) upd_same (((x3.trans x4).trans x5).t i2) ⟨by show max _ _ + 1 ≤ _; have := g1.1; have := gtt.1; omega, ws_pr g1.2 gtt.2⟩ (x5 _ _ upd_same) (pr_app (x15.ts il1) (.cons ((x1.trans x15).t itt) .nil)) (fun t ht => ?_) (by simp; omega) (((x1.trans x2).trans x3).free hp4)
      rcases List.mem_append.mp ht with z | z
      · exact gs1 t z
      · rw [List.mem_singleton.mp z]; exact gtt
    · refine ⟨_, rfl, _, rfl, _, rfl, _, _, rfl, rfl, _, rfl, _, rfl, _, _, rfl, rfl, _, rfl, _, rfl, _, _, rfl, rfl, vl, tl, place - k, size - k, at_ + 1, aT, wt, tts, rfl, il, gl, hT, it, hg, h3, by omega, by omega, k2, fun p1 v1 l1 ws1 t1 os1 H1 x1 e1 i1 g1 el1 il1 gs1 len1 nl1 => ?_⟩
      refine ⟨_, rfl, _, rfl, p1, _, _, _, rfl, rfl, .inl (.inl e1), atI_nat (j := 0) rfl, by show 3 ≤ sizeLine; decide, fun p2 hp2 => ?_⟩
      have x2 : Ext H1 (upd H1 p2 (.tup [.str "pair", vt, v1])) := .new hp2
      have i2 := tup3 (m := "pair") hp2 (x1.t itt) i1
      refine ⟨_, rfl, p1, _, _, _, rfl, rfl, .inl (.inl (x2 _ _ e1)), atI_nat (j := 1) rfl, _, rfl, by show 1 ≤ sizeLine; decide, fun p3 hp3 => ?_⟩
      have x3 : Ext _ (upd (upd H1 p2 (.tup [.str "pair", vt, v1])) p3 (.lst [vt])) := .new hp3
      have w1 := pr_len il1
      refine ⟨l1, p3, ws1, [vt], rfl, rfl, x3 _ _ (x2 _ _ el1), upd_same, by rw [sizeLine_eq]; simp; omega, fun p4 hp4 => ⟨by show 2 ≤ sizeLine; decide, fun p5 hp5 => ?_⟩⟩
      have x4 := Ext.new (o := HO.lst (ws1 ++ [vt])) hp4
      have x5 := Ext.new (o := HO.tup [.ref p2, .ref p4]) hp5
      have x15 := ((x2.trans x3).trans x4).trans x5
      refine q p5 _ p4 (ws1 ++ [vt]) (prT tt t1) (os1 ++ [tt]) _ (x1.trans x15) upd_same (((x3.trans x4).trans x5).t i2) ⟨by show max _ _ + 1 ≤ _; have := g1.1; have := gtt.1; omega, ws_pr gtt.2 g1.2⟩ (x5 _ _ upd_same) (pr_app (x15.ts il1) (.cons ((x1.trans x15).t itt) .nil)) (fun t ht => ?_) (by simp; omega) (((x1.trans x2).trans x3).free hp4)
      rcases List.mem_append.mp ht with z | z
      · exact gs1 t z
      · rw [List.mem_singleton.mp z]; exact gtt
end
end My
namespace My
open PySem L2
section
variable {P : Program} {w : World} {K : PySem.W.Frag} {mg : Str → Option Value} {base : Heap} {cS cC cG cD : Addr}
def spLG (j : Nat) : Sp := fun vs H Q _ => ∃ (old size at_ : Int) (aT : Addr) (wt : List V) (tts : List Tm), vs = [.int old, .int size, .ref aT, .int at_] ∧ H aT = some (.lst wt) ∧ isTs .plain H tts wt ∧ (∀ t ∈ tts, Gd .int 2 t) ∧ tts.length = 3 ∧ 0 ≤ at_ ∧ 1 ≤ old ∧ old ≤ size ∧ size ≤ 2 ^ j ∧
  ∀ p v1 v2 l ws t1 t2 os H', Ext H H' → H' p = some (.tup [v1, v2, .ref l]) → isT .plain H' t1 v1 → isT .plain H' t2 v2 → Gd .int (2 + j) t1 → Gd .int (2 + j) t2 → H' l = some (.lst ws) → isTs .plain H' os ws → (∀ t ∈ os, Gd .int 2 t) → os.length ≤ j + 1 → H l = none → Q (.ref p) H'
abbrev nLG : List Str := ["_law_old", "_law_size", "_law_tops", "_law_at", "_law_last", "_law_k", "_law_one"]
theorem scLG : FnScope nLG ["_law_old", "_law_size", "_law_tops", "_law_at"] (defScope sLregrown) := ⟨rfl, rfl, rfl, by decide +kernel, rfl, by decide +kernel, by decide +kernel⟩
theorem ok_lregrown (F : FunAt K mg "_law_regrown" sLregrown) (Fs : FnP P w K mg base 1 "_law_split" ["_law_size"] spSplit) (ml : mg "len" = none) : ∀ j : Nat, j ≤ 40 → FnP P w K mg base (j + 2) "_law_regrown" ["_law_old", "_law_size", "_law_tops", "_law_at"] (spLG j)
  | 0, _ => by
    refine F.ok scLG (fun _ _ _ _ _ _ us hl => match us, hl with | [_, _, _, _], _ => rfl) (fun vs H Q E h => ?_) (fun f0 cdv A outer s H vs Q E hr h => ?_)
    · obtain ⟨old, size, at_, aT, wt, tts, rfl, _⟩ := h; rfl
    obtain ⟨old, size, at_, aT, wt, tts, rfl, hT, it, hg, h3, ha, o1, o2, s2, q⟩ := h
    have nd := scLG.nd
    refine ⟨_, pss_cons (ps_set (i := 4) nd rfl (Or.inl rfl) (pe_ix ix_list (pv 2) (pe_op op_mod (pv 3) (pe_callB call_len_seq rfl ml PySem.boot_len (pa_cons (pv 2) pa_nil))) (fun _ _ => rfl))) <|
      pss_cons (ps_if (pt_cmpR op_eq (pv 0) (pv 1) (nomark _)) (pss_one (ps_ret (pe_tup (pa_cons (pv 4) (pa_cons (pv 4) (pa_cons (pe_lst (pa_cons (pv 4) pa_nil)) pa_nil)))))) pss_nil) <| pss_never, ?_⟩
    obtain ⟨vt, tt, eat, itt, gtt⟩ := at_mod it hg h3 at_
    have wl := pr_len it
    refine ⟨_, rfl, _, rfl, _, rfl, aT, wt, rfl, .inl (SqL.of hT), _, _, rfl, rfl, by omega, aT, wt, _, vt, rfl, rfl, SqL.of hT, eat, ?_⟩
    have es : old = size := by have : (2 : Int) ^ 0 = 1 := rfl; omega
    subst es
    refine ⟨_, rfl, _, rfl, rfl, _, rfl, ?_⟩
    rw [decide_eq_true rfl]
    refine iteT ⟨_, rfl, _, rfl, _, rfl, by show 1 ≤ sizeLine; decide, fun l hl => ⟨by show 3 ≤ sizeLine; decide, fun p hp => ?_⟩⟩
    have x1 : Ext H (upd H l (.lst [vt])) := .new hl
    have x2 := Ext.new (o := HO.tup [vt, vt, .ref l]) hp
    exact q p vt vt l [vt] tt tt [tt] _ (x1.trans x2) upd_same ((x1.trans x2).t itt) ((x1.trans x2).t itt) (gtt.mono (by omega)) (gtt.mono (by omega)) (x2 _ _ upd_same) (.cons ((x1.trans x2).t itt) .nil) (fun t ht => by rw [List.mem_singleton.mp ht]; exact gtt) (by simp) hl
  | j + 1, hj => by
    have ih := ok_lregrown F Fs ml j (by omega)
    refine F.ok scLG (fun _ _ _ _ _ _ us hl => match us, hl with | [_, _, _, _], _ => rfl) (fun vs H Q E h => ?_) (fun f0 cdv A outer s H vs Q E hr h => ?_)
    · obtain ⟨old, size, at_, aT, wt, tts, rfl, _⟩ := h; rfl
    obtain ⟨old, size, at_, aT, wt, tts, rfl, hT, it, hg, h3, ha, o1, o2, s2, q⟩ := h
    have nd := scLG.nd
    refine ⟨_, pss_cons (ps_set (i := 4) nd rfl (Or.inl rfl) (pe_ix ix_list (pv 2) (pe_op op_mod (pv 3) (pe_callB call_len_seq rfl ml PySem.boot_len (pa_cons (pv 2) pa_nil))) (fun _ _ => rfl))) <|
      pss_cons (ps_if (pt_cmpR op_eq (pv 0) (pv 1) (nomark _)) (pss_one (ps_ret (pe_tup (pa_cons (pv 4) (pa_cons (pv 4) (pa_cons (pe_lst (pa_cons (pv 4) pa_nil)) pa_nil)))))) pss_nil) <|
      pss_cons (ps_set (i := 5) nd rfl (Or.inl rfl) (pe_callN Fs (hr.mono (by omega)) rfl (pa_cons (pv 1) pa_nil))) <|
      pss_cons (ps_if (pt_cmpR op_le (pv 0) (pv 5) (nomark _)) (pss_cons (ps_set (i := 6) nd rfl (Or.inl rfl) (pe_callN ih hr rfl (pa_cons (pv 0) (pa_cons (pv 5) (pa_cons (pv 2) (pa_cons (pe_op op_add (pv 3) pe_int) pa_nil)))))) <|
        pss_one (ps_ret (pe_tup (pa_cons (pe_ix ix_tup (pv 6) pe_int (fun _ _ => rfl)) (pa_cons (pe_tup (pa_cons pe_str (pa_cons (pe_ix ix_tup (pv 6) pe_int (fun _ _ => rfl)) (pa_cons (pv 4) pa_nil)))) (pa_cons (pe_op op_cat (pe_ix ix_tup (pv 6) pe_int (fun _ _ => rfl)) (pe_lst (pa_cons (pv 4) pa_nil))) pa_nil)))))) pss_nil) <|
      pss_cons (ps_set (i := 6) nd rfl (Or.inl rfl) (pe_callN ih hr rfl (pa_cons (pe_op op_sub (pv 0) (pv 5)) (pa_cons (pe_op op_sub (pv 1) (pv 5)) (pa_cons (pv 2) (pa_cons (pe_op op_add (pv 3) pe_int) pa_nil)))))) <|
      pss_one (ps_ret (pe_tup (pa_cons (pe_tup (pa_cons pe_str (pa_cons (pv 4) (pa_cons (pe_ix ix_tup (pv 6) pe_int (fun _ _ => rfl)) pa_nil)))) (pa_cons (pe_tup (pa_cons pe_str (pa_cons (pv 4) (pa_cons (pe_ix ix_tup (pv 6) pe_int (fun _ _ => rfl)) pa_nil)))) (pa_cons (pe_op op_cat (pe_ix ix_tup (pv 6) pe_int (fun _ _ => rfl)) (pe_lst (pa_cons (pv 4) pa_nil))) pa_nil))))), ?_⟩
    obtain ⟨vt, tt, eat, itt, gtt⟩ := at_mod it hg h3 at_
    have wl := pr_len it
    refine ⟨_, rfl, _, rfl, _, rfl, aT, wt, rfl, .inl (SqL.of hT), _, _, rfl, rfl, by omega, aT, wt, _, vt, rfl, rfl, SqL.of hT, eat, ?_⟩
    refine ⟨_, rfl, _, rfl, rfl, _, rfl, ?_⟩
    refine ite2 (fun _ => ?_) (fun c => ?_)
    · refine ⟨_, rfl, _, rfl, _, rfl, by show 1 ≤ sizeLine; decide, fun l hl => ⟨by show 3 ≤ sizeLine; decide, fun p hp => ?_⟩⟩
      have x1 : Ext H (upd H l (.lst [vt])) := .new hl
      have x2 := Ext.new (o := HO.tup [vt, vt, .ref l]) hp
      exact q p vt vt l [vt] tt tt [tt] _ (x1.trans x2) upd_same ((x1.trans x2).t itt) ((x1.trans x2).t itt) (gtt.mono (by omega)) (gtt.mono (by omega)) (x2 _ _ upd_same) (.cons ((x1.trans x2).t itt) .nil) (fun t ht => by rw [List.mem_singleton.mp ht]; exact gtt) (by simp) hl
    have c' : ¬ old = size := fun z => c (decide_eq_true (by rw [z]))
    have h2 : 2 ≤ size := by omega
    have hb : size < 2 ^ 60 := by
      have : (2 : Int) ^ (j + 1) ≤ 2 ^ 41 := by
        have := Nat.pow_le_pow_right (show 0 < 2 by omega) (show j + 1 ≤ 41 by omega)
        exact_mod_cast this
      have e41 : (2 : Int) ^ 41 < 2 ^ 60 := by decide
      omega
    obtain ⟨k1, k2, k3, k4⟩ := spl_le h2 s2
    refine ⟨_, rfl, size, rfl, h2, hb, ?_⟩
    generalize ((Gb.spl size.toNat : Nat) : Int) = k at k1 k2 k3 k4 ⊢
    refine ⟨_, rfl, _, rfl, _, _, rfl, rfl, _, rfl, ?_⟩
    refine ite2 (fun c => ?_) (fun c => ?_)
    · have ck : old ≤ k := of_decide_eq_true c
      refine ⟨_, rfl, _, rfl, _, rfl, _, rfl, _, _, rfl, rfl, old, k, at_ + 1, aT, wt, tts, rfl, hT, it, hg, h3, by omega, o1, ck, k1, fun p1 u1 u2 l1 ws1 t1 t2 os1 H1 x1 e1 i1 i2 g1 g2 el1 il1 gs1 len1 nl1 => ?_⟩
      refine ⟨_, rfl, p1, _, _, _, rfl, rfl, .inl (.inl e1), atI_nat (j := 0) rfl, _, rfl, p1, _, _, _, rfl, rfl, .inl (.inl e1), atI_nat (j := 1) rfl, _, rfl, by show 3 ≤ sizeLine; decide, fun p2 hp2 => ?_⟩
      have x2 : Ext H1 (upd H1 p2 (.tup [.str "pair", u2, vt])) := .new hp2
      have i3 := tup3 (m := "pair") hp2 i2 (x1.t itt)
      refine ⟨_, rfl, p1, _, _, _, rfl, rfl, .inl (.inl (x2 _ _ e1)), atI_nat (j := 2) rfl, _, rfl, by show 1 ≤ sizeLine; decide, fun p3 hp3 => ?_⟩
      have x3 : Ext _ (upd (upd H1 p2 (.tup [.str "pair", u2, vt])) p3 (.lst [vt])) := .new hp3
      have w1 := pr_len il1
      refine ⟨l1, p3, ws1, [vt], rfl, rfl, x3 _ _ (x2 _ _ el1), upd_same, by rw [sizeLine_eq]; simp; omega, fun p4 hp4 => ⟨by show 3 ≤ sizeLine; decide, fun p5 hp5 => ?_⟩⟩
      have x4 := Ext.new (o := HO.lst (ws1 ++ [vt])) hp4
      have x5 := Ext.new (o := HO.tup [u1, .ref p2, .ref p4]) hp5
      have x15 := ((x2.trans x3).trans x4).trans x5
      refine q p5 _ _ p4 (ws1 ++ [vt]) t1 (prT t2 tt) (os1 ++ [tt]) _ (x1.trans x15) upd_same (x15.t i1) (((x3.trans x4).trans x5).t i3) (g1.mono (by omega)) ⟨by show max _ _ + 1 ≤ _; have := g2.1; have := gtt.1; omega, ws_pr g2.2 gtt.2⟩ (x5 _ _ upd_same) (pr_app (x15.ts il1) (.cons ((x1.trans x15).t itt) .nil)) (fun t ht => ?_) (by simp; omega) (((x1.trans x2).trans x3).free hp4)
      rcases List.mem_append.mp ht with z | z
      · exact gs1 t z
      · rw [List.mem_singleton.mp z]; exact gtt
    · have ck : ¬ old ≤ k := of_decide_eq_false (Bool.eq_false_iff.mpr c)
      refine ⟨_, rfl, _, rfl, _, _, rfl, rfl, _, rfl, _, rfl, _, _, rfl, rfl, _, rfl, _, rfl, _, _, rfl, rfl, old - k, size - k, at_ + 1, aT, wt, tts, rfl, hT, it, hg, h3, by omega, by omega, by omega, k2, fun p1 u1 u2 l1 ws1 t1 t2 os1 H1 x1 e1 i1 i2 g1 g2 el1 il1 gs1 len1 nl1 => ?_⟩
      refine ⟨_, rfl, _, rfl, p1, _, _, _, rfl, rfl, .inl (.inl e1), atI_nat (j := 0) rfl, by show 3 ≤ sizeLine; decide, fun p2 hp2 => ?_⟩
      have x2 : Ext H1 (upd H1 p2 (.tup [.str "pair", vt, u1])) := .new hp2
      have i3 := tup3 (m := "pair") hp2 (x1.t itt) i1
      refine ⟨_, rfl, _, rfl, p1, _, _, _, rfl, rfl, .inl (.inl (x2 _ _ e1)), atI_nat (j := 1) rfl, by show 3 ≤ sizeLine; decide, fun p6 hp6 => ?_⟩
      have x6 : Ext _ (upd (upd H1 p2 (.tup [.str "pair", vt, u1])) p6 (.tup [.str "pair", vt, u2])) := .new hp6
      have i6 := tup3 (m := "pair") hp6 ((x1.trans x2).t itt) (x2.t i2)
      refine ⟨_, rfl, p1, _, _, _, rfl, rfl, .inl (.inl (x6 _ _ (x2 _ _ e1))), atI_nat (j := 2) rfl, _, rfl, by show 1 ≤ sizeLine; decide, fun p3 hp3 => ?_⟩
      have x3 := Ext.new (o := HO.lst [vt]) hp3
      have w1 := pr_len il1
      refine ⟨l1, p3, ws1, [vt], rfl, rfl, x3 _ _ (x6 _ _ (x2 _ _ el1)), upd_same, by rw [sizeLine_eq]; simp; omega, fun p4 hp4 => ⟨by show 3 ≤ sizeLine; decide, fun p5 hp5 => ?_⟩⟩
      have x4 := Ext.new (o := HO.lst (ws1 ++ [vt])) hp4
      have x5 := Ext.new (o := HO.tup [.ref p2, .ref p6, .ref p4]) hp5
      have x35 := (x3.trans x4).trans x5
      have x15 := (x2.trans x6).trans x35
      refine q p5 _ _ p4 (ws1 ++ [vt]) (prT tt t1) (prT tt t2) (os1 ++ [tt]) _ (x1.trans x15) upd_same ((x6.trans x35).t i3) (x35.t i6) ⟨by show max _ _ + 1 ≤ _; have := g1.1; have := gtt.1; omega, ws_pr gtt.2 g1.2⟩ ⟨by show max _ _ + 1 ≤ _; have := g2.1; have := gtt.1; omega, ws_pr gtt.2 g2.2⟩ (x5 _ _ upd_same) (pr_app (x15.ts il1) (.cons ((x1.trans x15).t itt) .nil)) (fun t ht => ?_) (by simp; omega) ((((x1.trans x2).trans x6).trans x3).free hp4)
      rcases List.mem_append.mp ht with z | z
      · exact gs1 t z
      · rw [List.mem_singleton.mp z]; exact gtt
end
theorem st_uni {os os' : List Tm} {n p : Int} {th tl tl' : Tm} (h : stB (some os) n p th tl = true) (h' : stB (some os') n p th tl' = true) : tl = tl' := by
  have h := of_decide_eq_true h
  have h' := of_decide_eq_true h'
  obtain ⟨_, _, l1, e1⟩ := h
  obtain ⟨_, _, l2, e2⟩ := h'
  rw [← e2] at e1
  injection e1 with _ _ e1
  exact (Gb.rise_inj prT prT_inj (by rw [List.length_reverse]; omega) (by rw [List.length_reverse]; omega) e1).2
theorem gr_uni {po po' : Option (List Tm)} {n p : Int} {th te te' : Tm} (h0 : 0 < p) (h : grB po n p th te = true) (h' : grB po' n p th te' = true) : te = te' := by
  match po, po' with
  | none, _ => cases h
  | some [], _ => rw [gr_nil1 (by omega)] at h; cases h
  | some (g0 :: os), none => cases h'
  | some (g0 :: os), some [] => rw [gr_nil1 (by omega)] at h'; cases h'
  | some (g0 :: os), some (g1 :: os') =>
    have h := of_decide_eq_true h
    have h' := of_decide_eq_true h'
    obtain ⟨_, _, l1, a1, b1⟩ := h
    obtain ⟨_, _, l2, a2, b2⟩ := h'
    rw [← b2] at b1
    injection b1 with _ _ b1
    rw [Gb.riseG_snd, Gb.riseG_snd] at b1
    obtain ⟨r1, r2⟩ := Gb.rise_inj prT prT_inj (by rw [List.length_reverse]; omega) (by rw [List.length_reverse]; omega) b1
    have r2 : g0 = g1 := r2
    subst r1 r2
    rw [← a1, ← a2]
theorem in_bls : ∀ (bs : List Bool), inV (.bl true) (bs.map V.bl) = bs.any id
  | [] => rfl
  | b :: bs => by
    show (eqV (.bl b) (.bl true) || inV (.bl true) (bs.map V.bl)) = (b || bs.any id)
    rw [in_bls bs]
    cases b <;> rfl
theorem flat_bls (bs : List Bool) : (bs.map V.bl).all flatV = true := by
  rw [List.all_eq_true]
  intro x hx
  obtain ⟨b, _, rfl⟩ := List.mem_map.mp hx
  rfl
end My
namespace My
open PySem L2
def EntAt (H : Hp) (e : Str × Int) (v : V) : Prop := ∃ p, v = .ref p ∧ H p = some (.tup [.str e.1, .int e.2])
abbrev lfT (e : Str × Int) : Tm := .nd "leaf" (.str e.1) (.int e.2)
theorem lfT_inj {e e' : Str × Int} (h : lfT e = lfT e') : e = e' := by
  injection h with _ h1 h2
  injection h1 with h1
  injection h2 with h2
  exact Prod.ext h1 h2
def ents : List (Str × Int) := [("a", 0), ("a", 1), ("b", 0), ("", 1)]
theorem ents_nd : ∀ (i j : Nat) (e : Str × Int), ents[i]? = some e → ents[j]? = some e → i = j := by
  have key : ents.Nodup := by decide +kernel
  intro i j e h1 h2
  obtain ⟨l1, e1⟩ := List.getElem?_eq_some_iff.mp h1
  obtain ⟨l2, e2⟩ := List.getElem?_eq_some_iff.mp h2
  exact (List.getElem_inj key).mp (e1.trans e2.symm)
theorem call_listK {X : Cx} (K : PySem.W.Frag) (hK : X.K = K) : CallR X (.type "list") (fun xs H Q => ∃ p ys, xs = [.ref p] ∧ (SqL K H p ys ∨ SqT K H p ys) ∧ ∀ l, H l = none → Q (.ref l) (upd H l (.lst ys))) := by subst hK; exact call_list_of
inductive EntCs : List Expr → List (Str × Int) → Prop
  | nil : EntCs [] []
  | cons {z : Str} {n : Int} {j1 p1 j2 p2 x p} {es : List Expr} {l : List (Str × Int)} (h : EntCs es l) : EntCs (.Tuple [.Constant (.str z) j1 p1, .Constant (.int n) j2 p2] x p :: es) ((z, n) :: l)
def tEnts : List (Str × Int) → TA
  | [] => tNil
  | e :: l => tCons (tTup (tCons (tC (.str e.1)) (tCons (tC (.int e.2)) tNil))) (tEnts l)
theorem pa_ents {X : Cx} {es : List Expr} {l : List (Str × Int)} (h : EntCs es l) : PA X es (tEnts l) := by
  induction h with
  | nil => exact pa_nil
  | cons h ih => exact pa_cons (pe_tup (pa_cons pe_str (pa_cons pe_int pa_nil))) ih
theorem ents_read : ∀ (l : List (Str × Int)) (σ : St) (H : Hp) (Q : List V → Hp → Prop), (∀ vs H', Ext H H' → Paired (EntAt H') l vs → Q vs H') → tEnts l σ H Q
  | [], σ, H, Q, h => h [] H .refl .nil
  | e :: l, σ, H, Q, h => by
    refine ⟨by show 2 ≤ sizeLine; decide, fun p hp => ?_⟩
    refine ents_read l σ _ _ fun vs H' x' e' => ?_
    exact h _ H' ((Ext.new hp).trans x') (.cons ⟨p, rfl, x' _ _ upd_same⟩ e')
def stC : Stmt := (defBody sLstands).getD 2 (.Pass ⟨0, 0, 0, 0⟩)
theorem st_C : ∃ es p1 p2 p3, stC = .Assign [.Name "_law_entries" p1] (.List es p2) p3 ∧ EntCs es ents := ⟨_, _, _, _, rfl, .cons (.cons (.cons (.cons .nil)))⟩
theorem st_eq : defBody sLstands = (defBody sLstands).getD 0 (.Pass ⟨0, 0, 0, 0⟩) :: (defBody sLstands).getD 1 (.Pass ⟨0, 0, 0, 0⟩) :: stC :: (defBody sLstands).drop 3 := rfl
def LaidR (D : Addr) (H : Hp) (x : V) (os : List Tm) : Prop := ∃ p v l ws t, x = .ref p ∧ H p = some (.tup [v, .ref l]) ∧ isT .plain H t v ∧ Gd .int 7 t ∧ H l = some (.lst ws) ∧ isTs .plain H os ws ∧ (∀ t ∈ os, Gd .int 2 t) ∧ os.length ≤ 5 ∧ l ≠ D
theorem LaidR.up {D : Addr} {H H' : Hp} {x : V} {os : List Tm} (h : LaidR D H x os) (e : Ext H H') : LaidR D H' x os := by
  obtain ⟨p, v, l, ws, t, h1, h2, h3, h4, h5, h6, h7, h8, h9⟩ := h
  exact ⟨p, v, l, ws, t, h1, e _ _ h2, e.t h3, h4, e _ _ h5, e.ts h6, h7, h8, h9⟩
theorem LaidR.chg {D : Addr} {H : Hp} {x : V} {os : List Tm} {ys : List V} {o : HO} (h : LaidR D H x os) (hD : H D = some (.lst ys)) : LaidR D (upd H D o) x os := by
  obtain ⟨p, v, l, ws, t, h1, h2, h3, h4, h5, h6, h7, h8, h9⟩ := h
  have g : Gn .plain 0 H (upd H D o) := Gn.chg told_p hD rfl (fun _ e => nomatch e)
  exact ⟨p, v, l, ws, t, h1, g.keep _ _ h2 rfl, isT_up g h3, h4, by rw [upd_ne h9]; exact h5, isTs_up g h6, h7, h8, h9⟩
section
variable {P : Program} {w : World} {K : PySem.W.Frag} {mg : Str → Option Value} {base : Heap} {cS cC cG cD : Addr}
def spTrue : Sp := fun vs H Q _ => ∃ c : Int, vs = [.int c] ∧ ∀ H', Ext H H' → Q (.bl true) H'
abbrev nSt : List Str := ["_law_cell", "_law_size", "_law_place", "_law_entries", "_law_tops", "_law_laid", "_law_head", "_law_shown", "_law_entry", "_law_claim"]
theorem scSt : FnScope nSt ["_law_cell"] (defScope sLstands) := ⟨rfl, rfl, rfl, by decide +kernel, rfl, by decide +kernel, by decide +kernel⟩
abbrev toldB (size place : Int) (th tl : Tm) (oss : List (List Tm)) : List Bool := oss.map fun os => stB (some os) size place th tl
theorem told_uni {size place : Int} {th tl tl' : Tm} {oss : List (List Tm)} (h : (toldB size place th tl oss).any id = true) (h' : (toldB size place th tl' oss).any id = true) : tl = tl' := by
  rw [List.any_eq_true] at h h'
  obtain ⟨b, hb, e⟩ := h
  obtain ⟨b', hb', e'⟩ := h'
  obtain ⟨os, _, rfl⟩ := List.mem_map.mp hb
  obtain ⟨os', _, rfl⟩ := List.mem_map.mp hb'
  exact st_uni e e'
theorem sta_b {fS : Addr} {f0 : Addr} {cdv : Value} {A : Around} {outer : List Env} {s : Shared} {H0 : Hp} {E : XK} {Q : VK} (hr : Room 59 (A.deeper (PyProof.Rows.envOfC "_law_stands" (defScope sLstands) s.heap.objs.size f0 cdv))) (TS : TxS K mg cS cC) (MS : ∃ fI, Mk K cS fI) (Msi : MtP P w K mg base cS 1 "__init__" ["self", "place", "text", "table"] (spSI cS)) (Msj : MtP P w K mg base cS 22 "judged" ["self", "seal", "size", "head", "paper"] (spSJ K mg cS .int 20))
    (hS : mg "_law_seal" = some (.ref fS)) (hSl : ∃ oc od fd sl, K.lookup fS = some ⟨oc, od, .func fd, sl⟩) (ml : mg "len" = none) (mli : mg "list" = none) :
    ∃ t, PSs (cxOf CX0 P w K mg base nSt "_law_stands" (defScope sLstands) f0 cdv A outer s H0 E).nox ((defBody sLstands).drop 6) t ∧
      ∀ (aE aL : Addr) (size place : Int) (th : Tm) (vh : V) (wE wL : List V) (oss : List (List Tm)) (H : Hp) (o0 o4 : Option V), H aE = some (.lst wE) → Paired (EntAt H) ents wE → H aL = some (.lst wL) → Paired (fun os x => LaidR aL H x os) oss wL → oss.length ≤ 10 → isT .plain H th vh → Gd .int 20 th → size ≤ 2 ^ 40 → (∀ H', Ext H H' → Q (.bl true) H') →
        t { nx := fun _ H' => Q .non H', rt := Q } [o0, some (.int size), some (.int place), some (.ref aE), o4, some (.ref aL), some vh, none, none, none] H := by
  have nd := scSt.nd
  refine' ⟨_, pss_cons (ps_set (i := 7) nd rfl (Or.inl rfl) (pe_lst pa_nil)) <|
    pss_cons (ps_for PassesOwn.never rfl (pi_list (pv 3)) (pg_name (i := 8) nd rfl (Or.inl rfl)) <|
      pss_cons (ps_set (i := 9) nd rfl (Or.inr rfl) (pe_makeM MS Msi (hr.mono (by omega)) rfl TS.mgC (pa_cons (pv 2) (pa_cons (pe_ix ix_tup (pv 8) pe_int (fun _ _ => rfl)) (pa_cons (pe_ix ix_tup (pv 8) pe_int (fun _ _ => rfl)) pa_nil))))) <|
      pss_one (ps_if (pt_cmpR op_in_seq pe_bl (pe_comp (ys := ["_law_claim", "_law_size", "_law_head"]) (js := [9, 1, 6]) ?ok (pi_list (pv 5)) (fun _ _ _ => pts_nil) ?he) rfl) (pss_one (ps_expr (pe_bm PySem.F.plainAttrs_list PySem.F.slot_list_append PySem.F.type_list_append mt_append (pv 7) (pa_cons (pv 8) pa_nil)))) pss_nil)) <|
    pss_one (ps_ret (pe_cmpR op_lt (pe_callB call_len_seq rfl ml PySem.boot_len (pa_cons (pv 7) pa_nil)) pe_int (nomark _))), ?rd⟩
  case ok =>
    refine ⟨rfl, rfl, rfl, by decide +kernel, by decide +kernel, rfl, by decide +kernel, same_of (fun p hp => ?_), rfl, fun i y h => ?_, rfl⟩
    · simp only [List.mem_cons, List.not_mem_nil, or_false] at hp
      rcases hp with rfl | rfl | rfl <;> rfl
    · match i, h with
      | 0, h => simp at h; subst h; exact ⟨9, rfl, rfl, rfl, rfl⟩
      | 1, h => simp at h; subst h; exact ⟨1, rfl, rfl, rfl, rfl⟩
      | 2, h => simp at h; subst h; exact ⟨6, rfl, rfl, rfl, rfl⟩
      | i + 3, h => simp at h
  case he =>
    exact fun _ _ _ => pe_methN Msj (pv 1) TS.cl (hr.mono (by omega)) (pa_cons (pe_glob (v := .ref fS) rfl hS rfl) (pa_cons (pv 2) (pa_cons (pv 3) (pa_cons (pe_callTy (call_listK K rfl) rfl mli PyProof.Rows.boot_list (pa_cons (pe_ix (ix_tupK K rfl) (pv 0) pe_int (fun _ _ => rfl)) pa_nil)) pa_nil))))
  case rd =>
  intro aE aL size place th vh wE wL oss H o0 o4 hE ea hL la hol ih gh hsz q
  have el := pr_len ea
  have ll := pr_len la
  refine ⟨by show 0 ≤ sizeLine; decide, fun aS nS => ?_⟩
  have x1 : Ext H (upd H aS (.lst [])) := .new nS
  refine ⟨_, rfl, aE, rfl, ⟨_, SqL.of (x1 _ _ hE)⟩, ?_⟩
  refine for_list (K := K) (xs := wE) (fun i σ H' => Ext H H' ∧ (∃ xs, H' aS = some (.lst xs) ∧ xs.length ≤ 1 ∧ (xs.length = 1 → ∃ j e, j < i ∧ ents[j]? = some e ∧ (toldB size place th (lfT e) oss).any id = true)) ∧ ∃ o8 o9, σ = [o0, some (.int size), some (.int place), some (.ref aE), o4, some (.ref aL), some vh, some (.ref aS), o8, o9]) ⟨x1, ⟨[], upd_same, by simp, fun h => by simp at h⟩, none, none, rfl⟩ (fun i σ H' _ h => SqL.of (h.1 _ _ hE)) ?_ ?_
  · rintro i x σ H1 hx ⟨y1, ⟨xs, hxs, xl, xu⟩, o8, o9, rfl⟩
    obtain ⟨e, ee, pe, rfl, hpe⟩ := pr_get2 ea hx
    have hpe1 := y1 _ _ hpe
    refine ⟨_, rfl, _, rfl, pe, _, _, _, rfl, rfl, .inl (.inl hpe1), atI_nat (j := 0) rfl, _, rfl, pe, _, _, _, rfl, rfl, .inl (.inl hpe1), atI_nat (j := 1) rfl, fun y dy ny ndy ney => ⟨y, dy, place, e.1, .int e.2, rfl, upd_same, fun H2 hy k2 => ⟨rfl, ?_⟩⟩⟩
    have x2 : Ext H1 H2 := fun b o h => k2 b o (by rw [upd_ne (ne_of_none h ny), upd_ne (ne_of_none h ndy)]; exact h) (ne_of_none h ny)
    have y2 := y1.trans x2
    refine ⟨_, rfl, aL, rfl, ⟨_, SqL.of (y2 _ _ hL)⟩, ?_⟩
    refine comp_list (K := K) (xs := wL) (fun D i ys H' => Ext H2 H' ∧ H' D = some (.lst ys) ∧ ys = (toldB size place th (lfT e) (oss.take i)).map V.bl) (fun D hD => ⟨.new hD, upd_same, rfl⟩) (fun D i ys H' hD h => SqL.of (h.1 _ _ (y2 _ _ hL))) ?_ ?_
    · rintro D i x ys H3 Qb hD hx3 ⟨x3, hD3, rfl⟩ hQ
      obtain ⟨os, eo, hla⟩ := pr_get2 la hx3
      obtain ⟨p, v, l, ws, t, rfl, hp, it, gt, hl, iw, gw, ol, _⟩ := hla.up (y2.trans x3)
      have hy3 := hy.up x3.gr
      obtain ⟨dy3, hy4⟩ := id hy3
      refine ⟨_, rfl, y, dy3, _, rfl, hy4, rfl, _, rfl, _, rfl, _, rfl, p, _, _, _, rfl, rfl, .inl (.inl hp), atI_nat (j := 1) rfl, l, ws, rfl, .inl (SqL.of hl), fun p4 hp4 => ?_⟩
      have x4 : Ext H3 (upd H3 p4 (.lst ws)) := .new hp4
      refine ⟨.plain, y, fS, th, vh, .int e.2, .int e.2, .ref p4, some os, size, place, e.1, rfl, hy3.up x4.gr, ⟨rfl, hS, hSl⟩, cap_p, ((y2.trans x3).trans x4).t ih, rfl, gh, ⟨by show (1 : Nat) ≤ 20; decide, ws_leaf rfl⟩, ⟨p4, ws, rfl, upd_same, x4.ts iw, fun t ht => (gw t ht).mono (by omega)⟩, hsz, by omega, fun H5 g5 => ?_⟩
      have x5 := (My.Gr.x g5)
      refine hQ _ H5 (x5 _ _ (x4 _ _ hD3)) (by rw [sizeLine_eq]; simp; omega) ⟨((x3.trans x4).trans x5).own hD, upd_same, ?_⟩
      rw [List.take_succ, eo]
      simp [toldB]
    · rintro D ys H3 hD ⟨x3, hD3, rfl⟩
      have et : oss.take wL.length = oss := by rw [← ll, List.take_length]
      rw [et] at hD3
      refine ⟨D, _, rfl, .inl (SqL.of hD3), rfl, flat_bls _, _, rfl, ?_⟩
      rw [if_neg Bool.false_ne_true, in_bls]
      have hx3 := x3 _ _ (x2 _ _ hxs)
      refine ite2 (fun c => ?_) (fun _ => ⟨y2.trans x3, ⟨xs, hx3, xl, fun h => ?_⟩, _, _, rfl⟩)
      · have x0 : xs = [] := by
          cases xs with
          | nil => rfl
          | cons a r =>
            have l1 : (a :: r).length = 1 := by simp at xl ⊢; exact xl
            obtain ⟨j, e', hj, ej, tj⟩ := xu l1
            have := lfT_inj (told_uni tj c)
            subst this
            have := ents_nd _ _ _ ej ee
            omega
        subst x0
        refine ⟨_, rfl, .inl ⟨rfl, _, SqL.of hx3⟩, _, rfl, aS, _, _, rfl, rfl, hx3, by rw [sizeLine_eq]; simp, ?_⟩
        exact ⟨(y2.trans x3).own nS, ⟨_, upd_same, by simp, fun _ => ⟨i, e, Nat.lt_succ_self _, ee, c⟩⟩, _, _, rfl⟩
      · obtain ⟨j, e', hj, r⟩ := xu h
        exact ⟨j, e', Nat.lt_succ_of_lt hj, r⟩
  · rintro σ H1 ⟨y1, ⟨xs, hxs, xl, _⟩, o8, o9, rfl⟩
    refine ⟨_, rfl, aS, xs, rfl, .inl (SqL.of hxs), _, _, rfl, rfl, ?_⟩
    dsimp only
    rw [decide_eq_true (show ((xs.length : Nat) : Int) < 2 by omega)]
    exact q H1 y1
theorem ok_lstands14 {fS : Addr} (F : FunAt K mg "_law_stands" sLstands) (Fd : FnP P w K mg base 1 "_law_draw" ["_law_cell", "_law_k", "_law_many"] spDraw) (Fso : FnP P w K mg base 2 "_law_some" ["_law_cell", "_law_k"] spSome) (Flr : FnP P w K mg base 7 "_law_risen" ["_law_leaf", "_law_place", "_law_size", "_law_tops", "_law_at"] (spLR 5)) (TS : TxS K mg cS cC) (MS : ∃ fI, Mk K cS fI) (Msi : MtP P w K mg base cS 1 "__init__" ["self", "place", "text", "table"] (spSI cS)) (Msj : MtP P w K mg base cS 22 "judged" ["self", "seal", "size", "head", "paper"] (spSJ K mg cS .int 20))
    (hS : mg "_law_seal" = some (.ref fS)) (hSl : ∃ oc od fd sl, K.lookup fS = some ⟨oc, od, .func fd, sl⟩) (ml : mg "len" = none) (mli : mg "list" = none) (mr : mg "range" = none) : FnP P w K mg base 60 "_law_stands" ["_law_cell"] spTrue := by
  refine F.ok scSt (fun _ _ _ _ _ _ us hl => match us, hl with | [_], _ => rfl) (fun vs H Q E h => ?_) (fun f0 cdv A outer s H vs Q E hr h => ?_)
  · obtain ⟨c, rfl, _⟩ := h; rfl
  obtain ⟨c, rfl, q⟩ := h
  have nd := scSt.nd
  obtain ⟨tr, htr, hrest⟩ := sta_b (P := P) (w := w) (K := K) (mg := mg) (base := base) (outer := outer) (H0 := H) (E := E) (Q := Q) hr TS MS Msi Msj hS hSl ml mli
  obtain ⟨es, q1, q2, q3, eC, hes⟩ := st_C
  rw [st_eq, eC]
  refine' ⟨_, pss_cons (ps_set (i := 1) nd rfl (Or.inr rfl) (pe_op op_add pe_int (pe_callN Fd (hr.mono (by omega)) rfl (pa_cons (pv 0) (pa_cons pe_int (pa_cons pe_int pa_nil)))))) <|
    pss_cons (ps_set (i := 2) nd rfl (Or.inr rfl) (pe_callN Fd (hr.mono (by omega)) rfl (pa_cons (pv 0) (pa_cons pe_int (pa_cons (pv 1) pa_nil))))) <|
    pss_cons (ps_set (i := 3) nd rfl (Or.inr rfl) (pe_lst (pa_ents hes))) <|
    pss_cons (ps_set (i := 4) nd rfl (Or.inr rfl) (pe_comp (ys := ["_law_cell"]) (js := [0]) ?ok1 (pi_range1 rfl mr (pa_cons pe_int pa_nil)) (fun _ _ _ => pts_nil) ?he1)) <|
    pss_cons (ps_setComp (iz := 5) (ys := ["_law_entries", "_law_place", "_law_size", "_law_tops"]) (js := [3, 2, 1, 4]) ?ok2 (pi_range1 rfl mr (pa_cons pe_int pa_nil)) (fun _ _ _ => pts_nil) ?he2 nd rfl (Or.inl rfl) (Or.inl rfl) rfl) <|
    pss_cons (ps_set (i := 6) nd rfl (Or.inr rfl) (pe_tup (pa_cons pe_str (pa_cons (pv 1) (pa_cons (pe_ix ix_tup (pe_ix ix_list (pv 5) pe_int (fun _ _ => rfl)) pe_int (fun _ _ => rfl)) pa_nil))))) <|
    htr, ?rd⟩
  case ok1 =>
    refine ⟨rfl, rfl, rfl, by decide +kernel, by decide +kernel, rfl, by decide +kernel, same_of (fun p hp => ?_), rfl, fun i y h => ?_, rfl⟩
    · simp only [List.mem_cons, List.not_mem_nil, or_false] at hp
      rcases hp with rfl <;> rfl
    · match i, h with
      | 0, h => simp at h; subst h; exact ⟨0, rfl, rfl, rfl, rfl⟩
      | i + 1, h => simp at h
  case he1 =>
    exact fun _ _ _ => pe_callN Fso (hr.mono (by omega)) rfl (pa_cons (pe_op op_add (pv 1) (pv 0)) (pa_cons pe_int pa_nil))
  case ok2 =>
    refine ⟨rfl, rfl, rfl, by decide +kernel, by decide +kernel, rfl, by decide +kernel, same_of (fun p hp => ?_), rfl, fun i y h => ?_, rfl⟩
    · simp only [List.mem_cons, List.not_mem_nil, or_false] at hp
      rcases hp with rfl | rfl | rfl | rfl <;> rfl
    · match i, h with
      | 0, h => simp at h; subst h; exact ⟨3, rfl, rfl, rfl, rfl⟩
      | 1, h => simp at h; subst h; exact ⟨2, rfl, rfl, rfl, rfl⟩
      | 2, h => simp at h; subst h; exact ⟨1, rfl, rfl, rfl, rfl⟩
      | 3, h => simp at h; subst h; exact ⟨4, rfl, rfl, rfl, rfl⟩
      | i + 4, h => simp at h
  case he2 =>
    exact fun _ _ _ => pe_callN Flr (hr.mono (by omega)) rfl (pa_cons (pe_tup (pa_cons pe_str (pa_cons (pe_ix (ix_tupK K rfl) (pe_ix (ix_listK K rfl) (pv 1) (pv 0) (fun _ _ => rfl)) pe_int (fun _ _ => rfl)) (pa_cons (pe_ix (ix_tupK K rfl) (pe_ix (ix_listK K rfl) (pv 1) (pv 0) (fun _ _ => rfl)) pe_int (fun _ _ => rfl)) pa_nil)))) (pa_cons (pv 2) (pa_cons (pv 3) (pa_cons (pv 4) (pa_cons (pv 0) pa_nil)))))
  case rd =>
  refine ⟨_, rfl, c, 0, 20, rfl, by decide, by decide, fun v1 H1 a1 b1 x1 => ⟨_, _, rfl, rfl, ?_⟩⟩
  have x1 : Ext H H1 := x1
  dsimp only [gName]
  generalize hsz : (1 : Int) + v1 = size
  refine ⟨_, rfl, _, rfl, c, 1, size, rfl, by decide, by omega, fun place H2 a2 b2 x2 => ?_⟩
  have x2 : Ext H1 H2 := x2
  -- the entries
  dsimp only [gName, tSeq, tAsg, tLst]
  refine ents_read ents _ _ _ fun wE H2b x2b eb => ?_
  have el := pr_len eb
  refine ⟨by rw [sizeLine_eq, ← el]; decide, fun aE hE => ?_⟩
  have z5 := Ext.new (o := HO.lst wE) hE
  have ea : Paired (EntAt (upd H2b aE (.lst wE))) ents wE := L2.Paired.imp2 (fun e v ⟨p', e1, e2⟩ => ⟨p', e1, z5 _ _ e2⟩) eb
  have hE3 : upd H2b aE (.lst wE) aE = some (.lst wE) := upd_same
  have x3 := x2b.trans z5
  generalize upd H2b aE (.lst wE) = H3 at ea hE3 x3 ⊢
  -- the tops
  refine ⟨3, rfl, by decide, by decide, ?_⟩
  refine comp_range (n := 3) (fun D i ys H' => Ext H3 H' ∧ H' D = some (.lst ys) ∧ ∃ ts, ts.length = i ∧ isTs .plain H' ts ys ∧ ∀ t ∈ ts, Gd .int 2 t) (fun D hD => ⟨.new hD, upd_same, [], rfl, .nil, by simp⟩) ?_ ?_
  · rintro D i ys H4 Qb hD hi ⟨x4, hD4, ts, tl, it, tg⟩ hQ
    have yl := pr_len it
    refine ⟨_, rfl, _, rfl, _, _, rfl, rfl, _, 2, rfl, by decide, fun v t H5 x5 i5 g5 => ?_⟩
    have g6 : Gn .plain 0 H5 (upd H5 D (.lst (ys ++ [v]))) := Gn.chg told_p (x5 _ _ hD4) rfl (fun _ e => nomatch e)
    refine hQ v H5 (x5 _ _ hD4) (by rw [sizeLine_eq]; omega) ⟨(x4.trans x5).own hD, upd_same, ts ++ [t], by simp; omega, pr_app (isTs_up g6 (x5.ts it)) (.cons (isT_up g6 i5) .nil), fun t' ht => ?_⟩
    rcases List.mem_append.mp ht with z | z
    · exact tg t' z
    · rw [List.mem_singleton.mp z]; exact g5
  rintro aT wT H4 hT ⟨x4, hT4, tts, t3, itt, tgg⟩
  have ea4 := L2.Paired.imp2 (fun e v ⟨p', e1, e2⟩ => (⟨p', e1, x4 _ _ e2⟩ : EntAt H4 e v)) ea
  have hE4 := x4 _ _ hE3
  -- two rises
  refine ⟨2, rfl, by decide, by decide, ?_⟩
  refine comp_range (n := 2) (fun D i ys H' => Ext H4 H' ∧ H' D = some (.lst ys) ∧ ∃ oss, oss.length = i ∧ Paired (fun os x => LaidR D H' x os) oss ys) (fun D hD => ⟨.new hD, upd_same, [], rfl, .nil⟩) ?_ ?_
  · rintro D i ys H5 Qb hD hi ⟨x5, hD5, oss, ol, la⟩ hQ
    have yl := pr_len la
    have hi4 : i < 4 := by omega
    obtain ⟨e, ee, pe, epe, hpe⟩ : ∃ e, ents[i]? = some e ∧ ∃ pe, wE[i]? = some (.ref pe) ∧ H4 pe = some (.tup [.str e.1, .int e.2]) := by
      obtain ⟨e, he⟩ : ∃ e, ents[i]? = some e := ⟨_, List.getElem?_eq_getElem (show i < ents.length from hi4)⟩
      obtain ⟨v, hv⟩ : ∃ v, wE[i]? = some v := ⟨_, List.getElem?_eq_getElem (show i < wE.length by rw [← el]; exact hi4)⟩
      obtain ⟨pe, rfl, hp⟩ := pr_get ea4 he hv
      exact ⟨e, he, pe, hv, hp⟩
    have hpe5 := x5 _ _ hpe
    have eat : atI wE ((0 : Int) + (i : Nat)) = some (.ref pe) := by rw [show (0 : Int) + (i : Nat) = (i : Int) by omega]; exact atI_nat epe
    have hE5 := x5 _ _ hE4
    refine ⟨_, rfl, _, rfl, aE, _, _, _, rfl, rfl, SqL.of hE5, eat, pe, _, _, _, rfl, rfl, .inl (.inl hpe5), atI_nat (j := 0) rfl, _, rfl, _, rfl, aE, _, _, _, rfl, rfl, SqL.of hE5, eat, pe, _, _, _, rfl, rfl, .inl (.inl hpe5), atI_nat (j := 1) rfl, by show 3 ≤ sizeLine; decide, fun p6 hp6 => ?_⟩
    have x6 : Ext H5 (upd H5 p6 (.tup [.str "leaf", .str e.1, .int e.2])) := .new hp6
    have i6 := tup3 (m := "leaf") (a := .str e.1) (b := .int e.2) hp6 rfl rfl
    refine ⟨_, rfl, _, rfl, _, rfl, _, rfl, _, _, place, size, _, aT, wT, tts, rfl, i6, ⟨by show (1 : Nat) ≤ 2; decide, ws_leaf rfl⟩, x6 _ _ (x5 _ _ hT4), (x5.trans x6).ts itt, tgg, t3, by omega, by omega, by show size ≤ 2 ^ 5; omega, fun p v l ws t os H7 x7 hp7 it7 gt7 hl7 iw7 gw7 ol7 nl7 => ?_⟩
    have lD : l ≠ D := by rintro rfl; rw [x6 _ _ hD5] at nl7; cases nl7
    have hD7 := x7 _ _ (x6 _ _ hD5)
    have lo : LaidR D H7 (.ref p) os := ⟨p, v, l, ws, t, rfl, hp7, it7, gt7, hl7, iw7, gw7, ol7, lD⟩
    refine hQ _ H7 hD7 (by rw [sizeLine_eq]; omega) ⟨((x5.trans x6).trans x7).own hD, upd_same, oss ++ [os], by simp; omega, pr_app (L2.Paired.imp2 (fun os x h => (h.up (x6.trans x7)).chg hD7) la) (.cons (lo.chg hD7) .nil)⟩
  rintro aL wL H5 hL ⟨x5, hL5, oss, ol, la⟩
  -- the head
  match oss, wL, ol, la with
  | [os0, os1], [y0, y1], _, .cons l0 (.cons l1 .nil) =>
    obtain ⟨q0, v0, ll0, ws0, t0, rfl, hq0, i0, g0, _⟩ := id l0
    refine ⟨_, rfl, _, rfl, aL, _, _, _, rfl, rfl, SqL.of hL5, atI_nat (j := 0) rfl, q0, _, _, _, rfl, rfl, .inl (.inl hq0), atI_nat (j := 0) rfl, by show 3 ≤ sizeLine; decide, fun p6 hp6 => ?_⟩
    have x6 : Ext H5 (upd H5 p6 (.tup [.str "book", .int size, v0])) := .new hp6
    have i6 := tup3 (m := "book") (a := .int size) hp6 rfl i0
    have x36 := (x4.trans x5).trans x6
    refine hrest aE aL size place (.nd "book" (.int size) t0) (.ref p6) _ _ [os0, os1] _ _ _ (x6 _ _ (x5 _ _ hE4)) (L2.Paired.imp2 (fun e v ⟨p', e1, e2⟩ => (⟨p', e1, x6 _ _ (x5 _ _ e2)⟩ : EntAt _ e v)) ea4) (x6 _ _ hL5) (.cons (l0.up x6) (.cons (l1.up x6) .nil)) (by simp) i6 ⟨by show max 0 t0.dep + 1 ≤ 20; have := g0.1; omega, ws_book g0.2⟩ (by omega) fun H' x => q H' ((((x1.trans x2).trans x3).trans x36).trans x)
end
end My
namespace My
open PySem L2
def LaidG (D : Addr) (H : Hp) (x : V) (e : Tm × List Tm) : Prop := ∃ p v1 v2 l ws t2, x = .ref p ∧ H p = some (.tup [v1, v2, .ref l]) ∧ isT .plain H e.1 v1 ∧ isT .plain H t2 v2 ∧ Gd .int 7 e.1 ∧ Gd .int 7 t2 ∧ H l = some (.lst ws) ∧ isTs .plain H e.2 ws ∧ (∀ t ∈ e.2, Gd .int 2 t) ∧ e.2.length ≤ 6 ∧ l ≠ D
theorem LaidG.up {D : Addr} {H H' : Hp} {x : V} {e : Tm × List Tm} (h : LaidG D H x e) (y : Ext H H') : LaidG D H' x e := by
  obtain ⟨p, v1, v2, l, ws, t2, h1, h2, h3, h4, h5, h6, h7, h8, h9, h10, h11⟩ := h
  exact ⟨p, v1, v2, l, ws, t2, h1, y _ _ h2, y.t h3, y.t h4, h5, h6, y _ _ h7, y.ts h8, h9, h10, h11⟩
theorem LaidG.chg {D : Addr} {H : Hp} {x : V} {e : Tm × List Tm} {ys : List V} {o : HO} (h : LaidG D H x e) (hD : H D = some (.lst ys)) : LaidG D (upd H D o) x e := by
  obtain ⟨p, v1, v2, l, ws, t2, h1, h2, h3, h4, h5, h6, h7, h8, h9, h10, h11⟩ := h
  have g : Gn .plain 0 H (upd H D o) := Gn.chg told_p hD rfl (fun _ e => nomatch e)
  exact ⟨p, v1, v2, l, ws, t2, h1, g.keep _ _ h2 rfl, isT_up g h3, isT_up g h4, h5, h6, by rw [upd_ne h11]; exact h7, isTs_up g h8, h9, h10, h11⟩
abbrev toldG (size old : Int) (th te : Tm) (oss : List (Tm × List Tm)) : List Bool := oss.map fun e => grB (some e.2) size old th te
theorem toldG_uni {size old : Int} {th te te' : Tm} {oss : List (Tm × List Tm)} (h0 : 0 < old) (h : (toldG size old th te oss).any id = true) (h' : (toldG size old th te' oss).any id = true) : te = te' := by
  rw [List.any_eq_true] at h h'
  obtain ⟨b, hb, e⟩ := h
  obtain ⟨b', hb', e'⟩ := h'
  obtain ⟨os, _, rfl⟩ := List.mem_map.mp hb
  obtain ⟨os', _, rfl⟩ := List.mem_map.mp hb'
  exact gr_uni h0 e e'
theorem op_neBU {X : Cx} (u : Nat) (hu : X.A.units = u) : OpR X (compareOp .NotEq) (fun x y H Q => ∃ n b, EqB H n x y b ∧ u + n + 1 < cLine ∧ Q (.bl !b) H) := by subst hu; exact op_neB
section
variable {P : Program} {w : World} {K : PySem.W.Frag} {mg : Str → Option Value} {base : Heap} {cS cC cG cD : Addr}
abbrev nGs : List Str := ["_law_cell", "_law_size", "_law_old", "_law_tops", "_law_laid", "_law_head", "_law_shown", "_law_said"]
theorem scGs : FnScope nGs ["_law_cell"] (defScope sLgrows) := ⟨rfl, rfl, rfl, by decide +kernel, rfl, by decide +kernel, by decide +kernel⟩
theorem gro_b {fS : Addr} {f0 : Addr} {cdv : Value} {A : Around} {outer : List Env} {s : Shared} {H0 : Hp} {E : XK} {Q : VK} (hr : Room 59 (A.deeper (PyProof.Rows.envOfC "_law_grows" (defScope sLgrows) s.heap.objs.size f0 cdv))) (TG : TxG K mg cG cD) (MG : ∃ fI, Mk K cG fI) (Mgi : MtP P w K mg base cG 1 "__init__" ["self", "old", "head"] (spGI cG)) (Mgj : MtP P w K mg base cG 22 "judged" ["self", "seal", "size", "head", "paper"] (spGJ K mg cG .int 20))
    (hS : mg "_law_seal" = some (.ref fS)) (hSl : ∃ oc od fd sl, K.lookup fS = some ⟨oc, od, .func fd, sl⟩) (mli : mg "list" = none) :
    ∃ t, PSs (cxOf CX0 P w K mg base nGs "_law_grows" (defScope sLgrows) f0 cdv A outer s H0 E).nox ((defBody sLgrows).drop 5) t ∧
      ∀ (aL : Addr) (size : Nat) (old : Int) (th : Tm) (vh : V) (wL : List V) (oss : List (Tm × List Tm)) (H : Hp) (o0 o3 : Option V), H aL = some (.lst wL) → Paired (fun e x => LaidG aL H x e) oss wL → oss.length ≤ 10 → isT .plain H th vh → Gd .int 20 th → size ≤ 2 ^ 40 → 0 < old → (∀ H', Ext H H' → Q (.bl true) H') →
        t { nx := fun _ H' => Q .non H', rt := Q } [o0, some (.int size), some (.int old), o3, some (.ref aL), some vh, none, none] H := by
  have nd := scGs.nd
  have hun := hr.un
  refine' ⟨_, pss_cons (ps_set (i := 6) nd rfl (Or.inr rfl) (pe_lst pa_nil)) <|
    pss_cons (ps_for PassesOwn.never rfl (pi_list (pe_op op_cat (pe_comp (ys := ["_law_old"]) (js := [2]) ?ok1 (pi_list (pv 4)) (fun _ _ _ => pts_nil) ?he1) (pe_lst (pa_cons (pe_tup (pa_cons pe_str (pa_cons (pv 2) (pa_cons (pe_tup (pa_cons pe_str (pa_cons pe_int (pa_cons pe_int pa_nil)))) pa_nil)))) pa_nil)))) (pg_name (i := 7) nd rfl (Or.inr rfl)) <|
      pss_one (ps_if (pt_cmpR op_in_seq pe_bl (pe_comp (ys := ["_law_old", "_law_said", "_law_size", "_law_head"]) (js := [2, 7, 1, 5]) ?ok2 (pi_list (pv 4)) (fun _ _ _ => pts_nil) ?he2) rfl) (pss_one (ps_expr (pe_bm PySem.F.plainAttrs_list PySem.F.slot_list_append PySem.F.type_list_append mt_append (pv 6) (pa_cons (pv 7) pa_nil)))) pss_nil)) <|
    pss_one (ps_ret (pe_cmpR op_eqB (pe_comp (ys := ["_law_shown"]) (js := [6]) ?ok3 (pi_list (pv 6)) (fun _ _ _ => pts_one (pt_cmpR (op_neBU (A.deeper (PyProof.Rows.envOfC "_law_grows" (defScope sLgrows) s.heap.objs.size f0 cdv)).units rfl) (pv 0) (pe_ix (ix_listK K rfl) (pv 1) pe_int (fun _ _ => rfl)) (nomark _))) (fun _ _ _ => pv 0)) (pe_lst pa_nil) (nomark _))), ?rd⟩
  case ok1 =>
    refine ⟨rfl, rfl, rfl, by decide +kernel, by decide +kernel, rfl, by decide +kernel, same_of (fun p hp => ?_), rfl, fun i y h => ?_, rfl⟩
    · simp only [List.mem_cons, List.not_mem_nil, or_false] at hp
      rcases hp with rfl <;> rfl
    · match i, h with
      | 0, h => simp at h; subst h; exact ⟨2, rfl, rfl, rfl, rfl⟩
      | i + 1, h => simp at h
  case he1 =>
    exact fun _ _ _ => pe_tup (pa_cons pe_str (pa_cons (pv 1) (pa_cons (pe_ix (ix_tupK K rfl) (pv 0) pe_int (fun _ _ => rfl)) pa_nil)))
  case ok2 =>
    refine ⟨rfl, rfl, rfl, by decide +kernel, by decide +kernel, rfl, by decide +kernel, same_of (fun p hp => ?_), rfl, fun i y h => ?_, rfl⟩
    · simp only [List.mem_cons, List.not_mem_nil, or_false] at hp
      rcases hp with rfl | rfl | rfl | rfl <;> rfl
    · match i, h with
      | 0, h => simp at h; subst h; exact ⟨2, rfl, rfl, rfl, rfl⟩
      | 1, h => simp at h; subst h; exact ⟨7, rfl, rfl, rfl, rfl⟩
      | 2, h => simp at h; subst h; exact ⟨1, rfl, rfl, rfl, rfl⟩
      | 3, h => simp at h; subst h; exact ⟨5, rfl, rfl, rfl, rfl⟩
      | i + 4, h => simp at h
  case he2 =>
    exact fun _ _ _ => pe_methN Mgj (pe_makeM MG Mgi (hr.mono (by omega)) rfl TG.mgC (pa_cons (pv 1) (pa_cons (pv 2) pa_nil))) TG.cl (hr.mono (by omega)) (pa_cons (pe_glob (v := .ref fS) rfl hS rfl) (pa_cons (pv 3) (pa_cons (pv 4) (pa_cons (pe_callTy (call_listK K rfl) rfl mli PyProof.Rows.boot_list (pa_cons (pe_ix (ix_tupK K rfl) (pv 0) pe_int (fun _ _ => rfl)) pa_nil)) pa_nil))))
  case ok3 =>
    refine ⟨rfl, rfl, rfl, by decide +kernel, by decide +kernel, rfl, by decide +kernel, same_of (fun p hp => ?_), rfl, fun i y h => ?_, rfl⟩
    · simp only [List.mem_cons, List.not_mem_nil, or_false] at hp
      rcases hp with rfl <;> rfl
    · match i, h with
      | 0, h => simp at h; subst h; exact ⟨6, rfl, rfl, rfl, rfl⟩
      | i + 1, h => simp at h
  case rd =>
  intro aL size old th vh wL oss H o0 o3 hL la hol ih gh hsz h0 q
  have ll := pr_len la
  refine ⟨by show 0 ≤ sizeLine; decide, fun aS nS => ?_⟩
  have x1 : Ext H (upd H aS (.lst [])) := .new nS
  have hS1 : upd H aS (.lst []) aS = some (.lst []) := upd_same
  generalize upd H aS (.lst []) = H1 at x1 hS1 ⊢
  have hL1 := x1 _ _ hL
  -- what is said
  refine ⟨_, rfl, aL, rfl, ⟨_, SqL.of hL1⟩, ?_⟩
  refine comp_list (K := K) (xs := wL) (fun D i ys H' => Ext H1 H' ∧ H' D = some (.lst ys) ∧ ys.length = i ∧ ∃ ts, isTs .plain H' ts ys ∧ ∀ t ∈ ts, Gd .int 20 t) (fun D hD => ⟨.new hD, upd_same, rfl, [], .nil, by simp⟩) (fun D i ys H' hD h => SqL.of (h.1 _ _ hL1)) ?_ ?_
  · rintro D i x ys H2 Qb hD hx ⟨x2, hD2, yl, ts, it, tg⟩ hQ
    obtain ⟨e, ee, hla⟩ := pr_get2 la hx
    obtain ⟨p, v1, v2, l, ws, t2, rfl, hp, i1, i2, g1, g2, _⟩ := hla.up (x1.trans x2)
    have hi : i < wL.length := (List.getElem?_eq_some_iff.mp hx).1
    refine ⟨_, rfl, _, rfl, p, _, _, _, rfl, rfl, .inl (.inl hp), atI_nat (j := 0) rfl, by show 3 ≤ sizeLine; decide, fun p3 hp3 => ?_⟩
    have x3 : Ext H2 (upd H2 p3 (.tup [.str "book", .int old, v1])) := .new hp3
    have i3 := tup3 (m := "book") (a := .int old) hp3 rfl i1
    have g4 : ∀ o, Gn .plain 0 (upd H2 p3 (.tup [.str "book", .int old, v1])) (upd (upd H2 p3 (.tup [.str "book", .int old, v1])) D o) := fun o => Gn.chg told_p (x3 _ _ hD2) rfl (fun _ e => nomatch e)
    refine hQ _ _ (x3 _ _ hD2) (by rw [sizeLine_eq]; omega) ⟨(x2.trans x3).own hD, upd_same, by simp; omega, ts ++ [.nd "book" (.int old) e.1], pr_app (isTs_up (g4 _) (x3.ts it)) (.cons (isT_up (g4 _) i3) .nil), fun t ht => ?_⟩
    rcases List.mem_append.mp ht with z | z
    · exact tg t z
    · rw [List.mem_singleton.mp z]; exact ⟨by show max 0 e.1.dep + 1 ≤ 20; have := g1.1; omega, ws_book g1.2⟩
  rintro aC wC H2 hC ⟨x2, hC2, cl, ts, it, tg⟩
  refine ⟨_, rfl, by show 3 ≤ sizeLine; decide, fun p3 hp3 => ⟨by show 3 ≤ sizeLine; decide, fun p4 hp4 => ⟨by show 1 ≤ sizeLine; decide, fun p5 hp5 => ?_⟩⟩⟩
  have x3 := Ext.new (o := HO.tup [.str "none", .int 0, .int 0]) hp3
  have i3 := tup3 (m := "none") (a := .int 0) (b := .int 0) hp3 rfl rfl
  have x4 := Ext.new (o := HO.tup [.str "book", .int old, .ref p3]) hp4
  have i4 := tup3 (m := "book") (a := .int old) hp4 rfl i3
  have x5 := Ext.new (o := HO.lst [.ref p4]) hp5
  have x35 := (x3.trans x4).trans x5
  refine ⟨aC, p5, wC, [.ref p4], rfl, rfl, x35 _ _ hC2, upd_same, by rw [sizeLine_eq]; simp; omega, fun aW nW => ?_⟩
  have x6 := Ext.new (o := HO.lst (wC ++ [.ref p4])) nW
  have x26 := x35.trans x6
  refine ⟨aW, rfl, ⟨_, SqL.of upd_same⟩, ?_⟩
  have iW := pr_app (x26.ts it) (.cons ((x5.trans x6).t i4) .nil)
  have gW : ∀ t ∈ ts ++ [.nd "book" (.int old) nlT], Gd .int 20 t := fun t ht => by
    rcases List.mem_append.mp ht with z | z
    · exact tg t z
    · rw [List.mem_singleton.mp z]; exact ⟨by show (2 : Nat) ≤ 20; decide, ws_book ws_nl⟩
  have hW6 := upd_same (H := upd (upd (upd H2 p3 (.tup [.str "none", .int 0, .int 0])) p4 (.tup [.str "book", .int old, .ref p3])) p5 (.lst [.ref p4])) (a := aW) (o := HO.lst (wC ++ [.ref p4]))
  have hS6 := x26 _ _ (x2 _ _ hS1)
  have nSW : aW ≠ aS := by rintro rfl; rw [x35 _ _ (x2 _ _ hS1)] at nW; cases nW
  have x06 := (x1.trans x2).trans x26
  generalize upd (upd (upd (upd H2 p3 (.tup [.str "none", .int 0, .int 0])) p4 (.tup [.str "book", .int old, .ref p3])) p5 (.lst [.ref p4])) aW (.lst (wC ++ [.ref p4])) = H6 at iW hW6 hS6 x06 ⊢
  refine for_list (K := K) (xs := wC ++ [.ref p4]) (fun i σ H' => Ext H H' ∧ H' aW = some (.lst (wC ++ [.ref p4])) ∧ isTs .plain H' (ts ++ [.nd "book" (.int old) nlT]) (wC ++ [.ref p4]) ∧ (∃ xs us, H' aS = some (.lst xs) ∧ isTs .plain H' us xs ∧ xs.length ≤ i ∧ ∀ t ∈ us, Gd .int 20 t ∧ (toldG size old th t oss).any id = true) ∧ ∃ o7, σ = [o0, some (.int size), some (.int old), o3, some (.ref aL), some vh, some (.ref aS), o7]) ⟨x06, hW6, iW, ⟨[], [], hS6, .nil, by simp, fun t ht => nomatch ht⟩, none, rfl⟩ (fun i σ H' _ h => SqL.of h.2.1) ?_ ?_
  · rintro i x σ H7 hx ⟨x7, hW7, iW7, ⟨xs, us, hxs, ius, xl, ug⟩, o7, rfl⟩
    obtain ⟨te, ete, ite⟩ := pr_get2 iW7 hx
    have gte := gW te (List.mem_of_getElem? ete)
    have hL7 := x7 _ _ hL
    refine ⟨_, rfl, aL, rfl, ⟨_, SqL.of hL7⟩, ?_⟩
    refine comp_list (K := K) (xs := wL) (fun D i ys H' => Ext H7 H' ∧ H' D = some (.lst ys) ∧ ys = (toldG size old th te (oss.take i)).map V.bl) (fun D hD => ⟨.new hD, upd_same, rfl⟩) (fun D i ys H' hD h => SqL.of (h.1 _ _ hL7)) ?_ ?_
    · rintro D i' x' ys H8 Qb hD hx8 ⟨x8, hD8, rfl⟩ hQ
      have hi8 : i' < wL.length := (List.getElem?_eq_some_iff.mp hx8).1
      obtain ⟨e, ee, hla⟩ := pr_get2 la hx8
      obtain ⟨p, v1, v2, l, ws, t2, rfl, hp, i1, i2, g1, g2, hl, iw, gw, ol, _⟩ := hla.up (x7.trans x8)
      refine ⟨_, rfl, _, rfl, fun y dy ny ndy ney => ⟨y, dy, old, x, rfl, upd_same, fun H9 hy k9 => ⟨rfl, ?_⟩⟩⟩
      have x9 : Ext H8 H9 := fun b o h => k9 b o (by rw [upd_ne (ne_of_none h ny), upd_ne (ne_of_none h ndy)]; exact h) (ne_of_none h ny)
      obtain ⟨dy9, hy9⟩ := id hy
      refine ⟨y, dy9, _, rfl, hy9, rfl, _, rfl, _, rfl, _, rfl, p, _, _, _, rfl, rfl, .inl (.inl (x9 _ _ hp)), atI_nat (j := 2) rfl, l, ws, rfl, .inl (SqL.of (x9 _ _ hl)), fun p10 hp10 => ?_⟩
      have x10 : Ext H9 (upd H9 p10 (.lst ws)) := .new hp10
      have x810 := x9.trans x10
      refine ⟨.plain, y, fS, th, vh, te, x, .ref p10, some e.2, size, old, rfl, hy.up x10.gr, ⟨rfl, hS, hSl⟩, cap_p, ((x7.trans x8).trans x810).t ih, (x8.trans x810).t ite, gh, gte, ⟨p10, ws, rfl, upd_same, x810.ts iw, fun t ht => (gw t ht).mono (by omega)⟩, hsz, by omega, fun H11 g11 => ?_⟩
      have x11 := (My.Gr.x g11)
      refine hQ _ H11 (x11 _ _ (x810 _ _ hD8)) (by rw [sizeLine_eq]; simp; omega) ⟨((x8.trans x810).trans x11).own hD, upd_same, ?_⟩
      rw [List.take_succ, ee]
      simp [toldG]
    · rintro D ys H8 hD ⟨x8, hD8, rfl⟩
      have et : oss.take wL.length = oss := by rw [← ll, List.take_length]
      rw [et] at hD8
      refine ⟨D, _, rfl, .inl (SqL.of hD8), rfl, flat_bls _, _, rfl, ?_⟩
      rw [if_neg Bool.false_ne_true, in_bls]
      have hx8 := x8 _ _ hxs
      have hi9 : i < (wC ++ [V.ref p4]).length := (List.getElem?_eq_some_iff.mp hx).1
      have wl9 : (wC ++ [V.ref p4]).length ≤ 1000 := by simp; omega
      refine ite2 (fun c => ?_) (fun _ => ⟨x7.trans x8, x8 _ _ hW7, x8.ts iW7, ⟨xs, us, hx8, x8.ts ius, by omega, ug⟩, _, rfl⟩)
      refine ⟨_, rfl, .inl ⟨rfl, _, SqL.of hx8⟩, _, rfl, aS, _, _, rfl, rfl, hx8, by rw [sizeLine_eq]; omega, ?_⟩
      have g9 : ∀ o, Gn .plain 0 H8 (upd H8 aS o) := fun o => Gn.chg told_p hx8 rfl (fun _ e => nomatch e)
      refine ⟨(x7.trans x8).own nS, by rw [upd_ne nSW]; exact x8 _ _ hW7, isTs_up (g9 _) (x8.ts iW7), ⟨xs ++ [x], us ++ [te], upd_same, pr_app (isTs_up (g9 _) (x8.ts ius)) (.cons (isT_up (g9 _) (x8.t ite)) .nil), by simp; omega, fun t ht => ?_⟩, _, rfl⟩
      rcases List.mem_append.mp ht with z | z
      · exact ug t z
      · rw [List.mem_singleton.mp z]; exact ⟨gte, c⟩
  · rintro σ H7 ⟨x7, hW7, iW7, ⟨xs, us, hxs, ius, xl, ug⟩, o7, rfl⟩
    refine ⟨_, rfl, aS, rfl, ⟨_, SqL.of hxs⟩, ?_⟩
    refine comp_listT (K := K) (xs := xs) (fun D i ys H' => Ext H7 H' ∧ H' D = some (.lst ys) ∧ ys = []) (fun D hD => ⟨.new hD, upd_same, rfl⟩) (fun D i ys H' hD h => SqL.of (h.1 _ _ hxs)) ?_ ?_
    · rintro D i x ys H8 Qe Qn hD hx ⟨x8, hD8, rfl⟩ hQe hQn
      obtain ⟨t, et, it8⟩ := pr_get2 (x8.ts ius) hx
      have hpos : 0 < xs.length := by have := (List.getElem?_eq_some_iff.mp hx).1; omega
      have e0 : xs[0]? = some xs[0] := List.getElem?_eq_getElem hpos
      obtain ⟨t0, et0, it0⟩ := pr_get2 (x8.ts ius) e0
      have u1 := ug t (List.mem_of_getElem? et)
      have u0 := ug t0 (List.mem_of_getElem? et0)
      have e := toldG_uni h0 u1.2 u0.2
      have z := tree_eqB (g := gS .int) (S := .plain) (s := .nd) (fun d e => nomatch e) it8 it0
      rw [decide_eq_true e] at z
      refine ⟨_, rfl, _, rfl, aS, _, _, _, rfl, rfl, SqL.of (x8 _ _ hxs), atI_nat (j := 0) e0, _, _, z, ?_, _, rfl, ?_⟩
      · have := u1.1.1
        show (A.deeper (PyProof.Rows.envOfC "_law_grows" (defScope sLgrows) s.heap.objs.size f0 cdv)).units + t.dep + 1 < cLine
        omega
      · exact iteF (hQn H8 ⟨x8, hD8, rfl⟩)
    · rintro D ys H8 hD ⟨x8, hD8, rfl⟩
      refine ⟨by show 0 ≤ sizeLine; decide, fun p9 hp9 => ?_⟩
      have x9 : Ext H8 (upd H8 p9 (.lst [])) := .new hp9
      have z := eqB_nil (x9 _ _ hD8) (upd_same (H := H8) (a := p9) (o := HO.lst []))
      rw [decide_eq_true rfl] at z
      refine ⟨_, _, z, ?_, q _ ((x7.trans x8).trans x9)⟩
      show (A.deeper (PyProof.Rows.envOfC "_law_grows" (defScope sLgrows) s.heap.objs.size f0 cdv)).units + 1 + 1 < cLine
      omega
theorem ok_lgrows14 {fS : Addr} (F : FunAt K mg "_law_grows" sLgrows) (Fd : FnP P w K mg base 1 "_law_draw" ["_law_cell", "_law_k", "_law_many"] spDraw) (Fso : FnP P w K mg base 2 "_law_some" ["_law_cell", "_law_k"] spSome) (Flr : FnP P w K mg base 7 "_law_regrown" ["_law_old", "_law_size", "_law_tops", "_law_at"] (spLG 5)) (TG : TxG K mg cG cD) (MG : ∃ fI, Mk K cG fI) (Mgi : MtP P w K mg base cG 1 "__init__" ["self", "old", "head"] (spGI cG)) (Mgj : MtP P w K mg base cG 22 "judged" ["self", "seal", "size", "head", "paper"] (spGJ K mg cG .int 20))
    (hS : mg "_law_seal" = some (.ref fS)) (hSl : ∃ oc od fd sl, K.lookup fS = some ⟨oc, od, .func fd, sl⟩) (mli : mg "list" = none) (mr : mg "range" = none) : FnP P w K mg base 60 "_law_grows" ["_law_cell"] spTrue := by
  refine F.ok scGs (fun _ _ _ _ _ _ us hl => match us, hl with | [_], _ => rfl) (fun vs H Q E h => ?_) (fun f0 cdv A outer s H vs Q E hr h => ?_)
  · obtain ⟨c, rfl, _⟩ := h; rfl
  obtain ⟨c, rfl, q⟩ := h
  have nd := scGs.nd
  obtain ⟨tr, htr, hrest⟩ := gro_b (P := P) (w := w) (K := K) (mg := mg) (base := base) (outer := outer) (H0 := H) (E := E) (Q := Q) hr TG MG Mgi Mgj hS hSl mli
  refine' ⟨_, pss_cons (ps_set (i := 1) nd rfl (Or.inr rfl) (pe_op op_add pe_int (pe_callN Fd (hr.mono (by omega)) rfl (pa_cons (pv 0) (pa_cons pe_int (pa_cons pe_int pa_nil)))))) <|
    pss_cons (ps_set (i := 2) nd rfl (Or.inr rfl) (pe_op op_add pe_int (pe_callN Fd (hr.mono (by omega)) rfl (pa_cons (pv 0) (pa_cons pe_int (pa_cons (pv 1) pa_nil)))))) <|
    pss_cons (ps_set (i := 3) nd rfl (Or.inr rfl) (pe_comp (ys := ["_law_cell"]) (js := [0]) ?ok1 (pi_range1 rfl mr (pa_cons pe_int pa_nil)) (fun _ _ _ => pts_nil) ?he1)) <|
    pss_cons (ps_setComp (iz := 4) (ys := ["_law_old", "_law_size", "_law_tops"]) (js := [2, 1, 3]) ?ok2 (pi_range1 rfl mr (pa_cons pe_int pa_nil)) (fun _ _ _ => pts_nil) ?he2 nd rfl (Or.inl rfl) (Or.inl rfl) rfl) <|
    pss_cons (ps_set (i := 5) nd rfl (Or.inr rfl) (pe_tup (pa_cons pe_str (pa_cons (pv 1) (pa_cons (pe_ix ix_tup (pe_ix ix_list (pv 4) pe_int (fun _ _ => rfl)) pe_int (fun _ _ => rfl)) pa_nil))))) <|
    htr, ?rd⟩
  case ok1 =>
    refine ⟨rfl, rfl, rfl, by decide +kernel, by decide +kernel, rfl, by decide +kernel, same_of (fun p hp => ?_), rfl, fun i y h => ?_, rfl⟩
    · simp only [List.mem_cons, List.not_mem_nil, or_false] at hp
      rcases hp with rfl <;> rfl
    · match i, h with
      | 0, h => simp at h; subst h; exact ⟨0, rfl, rfl, rfl, rfl⟩
      | i + 1, h => simp at h
  case he1 =>
    exact fun _ _ _ => pe_callN Fso (hr.mono (by omega)) rfl (pa_cons (pe_op op_add (pv 1) (pv 0)) (pa_cons pe_int pa_nil))
  case ok2 =>
    refine ⟨rfl, rfl, rfl, by decide +kernel, by decide +kernel, rfl, by decide +kernel, same_of (fun p hp => ?_), rfl, fun i y h => ?_, rfl⟩
    · simp only [List.mem_cons, List.not_mem_nil, or_false] at hp
      rcases hp with rfl | rfl | rfl <;> rfl
    · match i, h with
      | 0, h => simp at h; subst h; exact ⟨2, rfl, rfl, rfl, rfl⟩
      | 1, h => simp at h; subst h; exact ⟨1, rfl, rfl, rfl, rfl⟩
      | 2, h => simp at h; subst h; exact ⟨3, rfl, rfl, rfl, rfl⟩
      | i + 3, h => simp at h
  case he2 =>
    exact fun _ _ _ => pe_callN Flr (hr.mono (by omega)) rfl (pa_cons (pv 1) (pa_cons (pv 2) (pa_cons (pv 3) (pa_cons (pv 0) pa_nil))))
  case rd =>
  refine ⟨_, rfl, c, 3, 20, rfl, by decide, by decide, fun v1 H1 a1 b1 x1 => ⟨_, _, rfl, rfl, ?_⟩⟩
  have x1 : Ext H H1 := x1
  dsimp only [gName]
  obtain ⟨size, hsz, sz20⟩ : ∃ size : Nat, (1 : Int) + v1 = (size : Int) ∧ size ≤ 20 := ⟨(1 + v1).toNat, by omega, by omega⟩
  rw [hsz]
  refine ⟨_, rfl, _, rfl, c, 4, (size : Int), rfl, by decide, by omega, fun v2 H2 a2 b2 x2 => ⟨_, _, rfl, rfl, ?_⟩⟩
  have x2 : Ext H1 H2 := x2
  dsimp only [gName]
  generalize hold : (1 : Int) + v2 = old
  -- the tops
  refine ⟨3, rfl, by decide, by decide, ?_⟩
  refine comp_range (n := 3) (fun D i ys H' => Ext H2 H' ∧ H' D = some (.lst ys) ∧ ∃ ts, ts.length = i ∧ isTs .plain H' ts ys ∧ ∀ t ∈ ts, Gd .int 2 t) (fun D hD => ⟨.new hD, upd_same, [], rfl, .nil, by simp⟩) ?_ ?_
  · rintro D i ys H4 Qb hD hi ⟨x4, hD4, ts, tl, it, tg⟩ hQ
    have yl := pr_len it
    refine ⟨_, rfl, _, rfl, _, _, rfl, rfl, _, 5, rfl, by decide, fun v t H5 x5 i5 g5 => ?_⟩
    have g6 : Gn .plain 0 H5 (upd H5 D (.lst (ys ++ [v]))) := Gn.chg told_p (x5 _ _ hD4) rfl (fun _ e => nomatch e)
    refine hQ v H5 (x5 _ _ hD4) (by rw [sizeLine_eq]; omega) ⟨(x4.trans x5).own hD, upd_same, ts ++ [t], by simp; omega, pr_app (isTs_up g6 (x5.ts it)) (.cons (isT_up g6 i5) .nil), fun t' ht => ?_⟩
    rcases List.mem_append.mp ht with z | z
    · exact tg t' z
    · rw [List.mem_singleton.mp z]; exact g5
  rintro aT wT H4 hT ⟨x4, hT4, tts, t3, itt, tgg⟩
  -- three growths
  refine ⟨3, rfl, by decide, by decide, ?_⟩
  refine comp_range (n := 3) (fun D i ys H' => Ext H4 H' ∧ H' D = some (.lst ys) ∧ ∃ oss, oss.length = i ∧ Paired (fun e x => LaidG D H' x e) oss ys) (fun D hD => ⟨.new hD, upd_same, [], rfl, .nil⟩) ?_ ?_
  · rintro D i ys H5 Qb hD hi ⟨x5, hD5, oss, ol, la⟩ hQ
    have yl := pr_len la
    refine ⟨_, rfl, _, rfl, _, rfl, _, rfl, old, (size : Int), _, aT, wT, tts, rfl, x5 _ _ hT4, x5.ts itt, tgg, t3, by omega, by omega, by omega, by show (size : Int) ≤ 2 ^ 5; omega, fun p v1 v2 l ws t1 t2 os H7 x7 hp7 i1 i2 g1 g2 hl7 iw7 gw7 ol7 nl7 => ?_⟩
    have lD : l ≠ D := by rintro rfl; rw [hD5] at nl7; cases nl7
    have hD7 := x7 _ _ hD5
    have lo : LaidG D H7 (.ref p) (t1, os) := ⟨p, v1, v2, l, ws, t2, rfl, hp7, i1, i2, g1, g2, hl7, iw7, gw7, ol7, lD⟩
    refine hQ _ H7 hD7 (by rw [sizeLine_eq]; omega) ⟨(x5.trans x7).own hD, upd_same, oss ++ [(t1, os)], by simp; omega, pr_app (L2.Paired.imp2 (fun e x h => (LaidG.up h x7).chg hD7) la) (.cons (lo.chg hD7) .nil)⟩
  rintro aL wL H5 hL ⟨x5, hL5, oss, ol, la⟩
  match oss, wL, ol, la with
  | [e0, e1, e2], [y0, y1, y2], _, .cons l0 (.cons l1 (.cons l2 .nil)) =>
    obtain ⟨q0, v0, u0, ll0, ws0, t0, rfl, hq0, i0, j0, g0, k0, _⟩ := id l0
    refine ⟨_, rfl, _, rfl, aL, _, _, _, rfl, rfl, SqL.of hL5, atI_nat (j := 0) rfl, q0, _, _, _, rfl, rfl, .inl (.inl hq0), atI_nat (j := 1) rfl, by show 3 ≤ sizeLine; decide, fun p6 hp6 => ?_⟩
    have x6 : Ext H5 (upd H5 p6 (.tup [.str "book", .int (size : Int), u0])) := .new hp6
    have i6 := tup3 (m := "book") (a := .int (size : Int)) hp6 rfl j0
    refine hrest aL size old (.nd "book" (.int (size : Int)) t0) (.ref p6) _ [e0, e1, e2] _ _ _ (x6 _ _ hL5) (.cons (l0.up x6) (.cons (l1.up x6) (.cons (l2.up x6) .nil))) (by simp) i6 ⟨by show max 0 t0.dep + 1 ≤ 20; have := k0.1; omega, ws_book k0.2⟩ (Nat.le_trans sz20 (by decide)) (by omega) fun H' x => q H' (((((x1.trans x2).trans x4).trans x5).trans x6).trans x)
end
end My
namespace My
open PySem L2
def TrT : Nat → Tm → Prop
  | 0, t => ∃ e, t = endT e
  | d + 1, t => (∃ e, t = endT e) ∨ ∃ a b, t = fkT a b ∧ TrT d a ∧ TrT d b
theorem TrT.ofE {d : Nat} {e : Option (Int × Str)} : TrT d (endT e) := by
  cases d with
  | zero => exact ⟨e, rfl⟩
  | succ d => exact .inl ⟨e, rfl⟩
theorem TrT.ws : ∀ {d : Nat} {t : Tm}, TrT d t → WsN .nd t
  | 0, t, h => by obtain ⟨e, rfl⟩ := h; exact ws_end
  | d + 1, t, h => by
    rcases h with ⟨e, rfl⟩ | ⟨a, b, rfl, h1, h2⟩
    · exact ws_end
    · exact ws_fk h1.ws h2.ws
theorem end_dep {e : Option (Int × Str)} : (endT e).dep = 1 := by cases e <;> rfl
theorem TrT.dp : ∀ {d : Nat} {t : Tm}, TrT d t → t.dep ≤ d + 1
  | 0, t, h => by obtain ⟨e, rfl⟩ := h; rw [end_dep]; omega
  | d + 1, t, h => by
    rcases h with ⟨e, rfl⟩ | ⟨a, b, rfl, h1, h2⟩
    · rw [end_dep]; omega
    · have := h1.dp
      have := h2.dp
      show max _ _ + 1 ≤ _
      omega
theorem TrT.gd {d B : Nat} {t : Tm} (h : TrT d t) (hB : d + 1 ≤ B) : Gd .nd B t := ⟨Nat.le_trans h.dp hB, h.ws⟩
section
variable {P : Program} {w : World} {K : PySem.W.Frag} {mg : Str → Option Value} {base : Heap}
def spLT (j : Nat) : Sp := fun vs H Q _ => ∃ c : Int, vs = [.int c, .int (j : Int)] ∧ ∀ v t H', Ext H H' → isT .plain H' t v → TrT j t → Q v H'
theorem scLT : FnScope ["_law_cell", "_law_depth", "_law_kind"] ["_law_cell", "_law_depth"] (defScope sLtree) := ⟨rfl, rfl, rfl, by decide +kernel, rfl, by decide +kernel, by decide +kernel⟩
theorem tree_b {f0 : Addr} {cdv : Value} {A : Around} {outer : List Env} {s : Shared} {H0 : Hp} {E : XK} {Q : VK} {n : Nat} (hr : Room (n + 1) (A.deeper (PyProof.Rows.envOfC "_law_tree" (defScope sLtree) s.heap.objs.size f0 cdv))) (Fd : FnP P w K mg base 1 "_law_draw" ["_law_cell", "_law_k", "_law_many"] spDraw) :
    ∃ t, PSs (cxOf CX0 P w K mg base ["_law_cell", "_law_depth", "_law_kind"] "_law_tree" (defScope sLtree) f0 cdv A outer s H0 E).nox ((defBody sLtree).drop 2) t ∧
      ∀ (c kd : Int) (H : Hp) (j : Nat), (∀ v t H', Ext H H' → isT .plain H' t v → TrT j t → Q v H') →
        t { nx := fun _ H' => Q .non H', rt := Q } [some (.int c), some (.int (j : Int)), some (.int kd)] H := by
  refine ⟨_, pss_cons (ps_if (pt_cmpR op_eq (pv 2) pe_int (nomark _)) (pss_one (ps_ret (pe_tup (pa_cons pe_str (pa_cons pe_int (pa_cons pe_int pa_nil)))))) pss_nil) <|
    pss_one (ps_ret (pe_tup (pa_cons pe_str (pa_cons (pe_callN Fd (hr.mono (by omega)) rfl (pa_cons (pv 0) (pa_cons pe_int (pa_cons pe_int pa_nil)))) (pa_cons (pe_slice sl_str pe_str po_none (po_some (pe_callN Fd (hr.mono (by omega)) rfl (pa_cons (pv 0) (pa_cons pe_int (pa_cons pe_int pa_nil)))))) pa_nil))))), ?_⟩
  intro c kd H j q
  refine ⟨_, rfl, rfl, _, rfl, ite2 (fun _ => ?_) (fun _ => ?_)⟩
  · refine ⟨by show 3 ≤ sizeLine; decide, fun p hp => ?_⟩
    exact q _ _ _ (.new hp) (tup3 (m := "none") (a := .int 0) (b := .int 0) hp rfl rfl) (TrT.ofE (e := none))
  · refine ⟨_, rfl, c, 10, 16, rfl, by decide, by decide, fun v1 H1 _ _ x1 => ⟨_, rfl, c, 11, 3, rfl, by decide, by decide, fun v2 H2 _ _ x2 => ⟨v2, rfl, "ab", rfl, by rw [ab_len, sizeLine_eq]; decide, by show 3 ≤ sizeLine; decide, fun p hp => ?_⟩⟩⟩
    have x1 : Ext H H1 := x1
    have x2 : Ext H1 H2 := x2
    exact q _ _ _ ((x1.trans x2).trans (.new hp)) (tup3 (m := "row") (a := .int v1) (b := .str (Txt.slice "ab" none (some v2))) hp rfl rfl) (TrT.ofE (e := some (v1, Txt.slice "ab" none (some v2))))
theorem tr_eq : defBody sLtree = (defBody sLtree).getD 0 (.Pass ⟨0, 0, 0, 0⟩) :: (defBody sLtree).getD 1 (.Pass ⟨0, 0, 0, 0⟩) :: (defBody sLtree).drop 2 := rfl
theorem ok_ltree (F : FunAt K mg "_law_tree" sLtree) (Fd : FnP P w K mg base 1 "_law_draw" ["_law_cell", "_law_k", "_law_many"] spDraw) : ∀ j : Nat, FnP P w K mg base (j + 2) "_law_tree" ["_law_cell", "_law_depth"] (spLT j)
  | 0 => by
    refine F.ok scLT (fun _ _ _ _ _ _ us hl => match us, hl with | [_, _], _ => rfl) (fun vs H Q E h => ?_) (fun f0 cdv A outer s H vs Q E hr h => ?_)
    · obtain ⟨c, rfl, _⟩ := h; rfl
    obtain ⟨c, rfl, q⟩ := h
    have nd := scLT.nd
    obtain ⟨tr, htr, hrest⟩ := tree_b (P := P) (w := w) (K := K) (mg := mg) (base := base) (outer := outer) (H0 := H) (E := E) (Q := Q) (n := 0) hr Fd
    rw [tr_eq]
    refine ⟨_, pss_cons (ps_set (i := 2) nd rfl (Or.inl rfl) (pe_callN Fd (hr.mono (by omega)) rfl (pa_cons (pv 0) (pa_cons pe_int (pa_cons pe_int pa_nil))))) <|
      pss_cons (ps_if (PW.pt (pw_and (pt_cmpR op_gt (pv 1) pe_int (nomark _)) (pw_and1 (pt_cmpR op_gt (pv 2) pe_int (nomark _))))) pss_never pss_nil) <| htr, ?_⟩
    refine ⟨_, rfl, c, 9, 5, rfl, by decide, by decide, fun v1 H1 _ _ x1 => ?_⟩
    have x1 : Ext H H1 := x1
    refine ⟨_, rfl, _, _, rfl, rfl, _, rfl, ?_⟩
    rw [decide_eq_false (by omega : ¬ (0 : Int) < ((0 : Nat) : Int))]
    refine iteF (iteF ?_)
    exact hrest c v1 H1 0 fun v t H' x => q v t H' (x1.trans x)
  | j + 1 => by
    have ih := ok_ltree F Fd j
    refine F.ok scLT (fun _ _ _ _ _ _ us hl => match us, hl with | [_, _], _ => rfl) (fun vs H Q E h => ?_) (fun f0 cdv A outer s H vs Q E hr h => ?_)
    · obtain ⟨c, rfl, _⟩ := h; rfl
    obtain ⟨c, rfl, q⟩ := h
    have nd := scLT.nd
    obtain ⟨tr, htr, hrest⟩ := tree_b (P := P) (w := w) (K := K) (mg := mg) (base := base) (outer := outer) (H0 := H) (E := E) (Q := Q) (n := j + 1) hr Fd
    rw [tr_eq]
    refine ⟨_, pss_cons (ps_set (i := 2) nd rfl (Or.inl rfl) (pe_callN Fd (hr.mono (by omega)) rfl (pa_cons (pv 0) (pa_cons pe_int (pa_cons pe_int pa_nil))))) <|
      pss_cons (ps_if (PW.pt (pw_and (pt_cmpR op_gt (pv 1) pe_int (nomark _)) (pw_and1 (pt_cmpR op_gt (pv 2) pe_int (nomark _)))))
        (pss_one (ps_ret (pe_tup (pa_cons pe_str (pa_cons (pe_callN ih hr rfl (pa_cons (pe_op op_add (pe_op op_mul (pv 0) pe_int) pe_int) (pa_cons (pe_op op_sub (pv 1) pe_int) pa_nil))) (pa_cons (pe_callN ih hr rfl (pa_cons (pe_op op_add (pe_op op_mul (pv 0) pe_int) pe_int) (pa_cons (pe_op op_sub (pv 1) pe_int) pa_nil))) pa_nil)))))) pss_nil) <| htr, ?_⟩
    refine ⟨_, rfl, c, 9, 5, rfl, by decide, by decide, fun v1 H1 _ _ x1 => ?_⟩
    have x1 : Ext H H1 := x1
    have ej : ((j + 1 : Nat) : Int) - 1 = (j : Int) := by omega
    refine ⟨_, rfl, _, _, rfl, rfl, _, rfl, ?_⟩
    rw [decide_eq_true (by omega : (0 : Int) < ((j + 1 : Nat) : Int))]
    refine iteT ⟨_, rfl, _, _, rfl, rfl, _, rfl, ite2 (fun _ => ?_) (fun _ => ?_)⟩
    · refine ⟨_, rfl, _, _, rfl, rfl, .inr ⟨by decide, by decide⟩, _, _, rfl, rfl, _, rfl, _, _, rfl, rfl, c * 3 + 1, by dsimp only; rw [ej]; rfl, fun va ta Ha xa ia ga => ?_⟩
      refine ⟨_, rfl, _, _, rfl, rfl, .inr ⟨by decide, by decide⟩, _, _, rfl, rfl, _, rfl, _, _, rfl, rfl, c * 3 + 2, by dsimp only; rw [ej]; rfl, fun vb tb Hb xb ib gb => ⟨by show 3 ≤ sizeLine; decide, fun p hp => ?_⟩⟩
      exact q _ _ _ (((x1.trans xa).trans xb).trans (.new hp)) (tup3 (m := "fork") hp (xb.t ia) ib) (.inr ⟨ta, tb, rfl, ga, gb⟩)
    · exact hrest c v1 H1 (j + 1) fun v t H' x => q v t H' (x1.trans x)
end
end My
namespace My
open PySem L2
theorem tr_tup {t : Tm} {H : Hp} {v : V} {d : Nat} (h : TrT d t) (i : isT .plain H t v) : ∃ p m va vb, v = .ref p ∧ H p = some (.tup [.str m, va, vb]) ∧
    ((m = "fork" ∧ ∃ (d' : Nat) (a b : Tm), d = d' + 1 ∧ t = fkT a b ∧ TrT d' a ∧ TrT d' b ∧ isT .plain H a va ∧ isT .plain H b vb) ∨ (m = "none" ∧ t = endT none) ∨ (m = "row" ∧ ∃ (k : Int) (x : Str), t = endT (some (k, x)) ∧ va = .int k ∧ vb = .str x)) := by
  have one : (∃ e, t = endT e) → ∃ p m va vb, v = .ref p ∧ H p = some (.tup [.str m, va, vb]) ∧
    ((m = "fork" ∧ ∃ (d' : Nat) (a b : Tm), d = d' + 1 ∧ t = fkT a b ∧ TrT d' a ∧ TrT d' b ∧ isT .plain H a va ∧ isT .plain H b vb) ∨ (m = "none" ∧ t = endT none) ∨ (m = "row" ∧ ∃ (k : Int) (x : Str), t = endT (some (k, x)) ∧ va = .int k ∧ vb = .str x)) := by
    rintro ⟨e, rfl⟩
    cases e with
    | none =>
      obtain ⟨p, va, vb, rfl, e2, _, _⟩ := i
      exact ⟨p, _, va, vb, rfl, e2, .inr (.inl ⟨rfl, rfl⟩)⟩
    | some e =>
      obtain ⟨p, va, vb, rfl, e2, i1, i2⟩ := i
      exact ⟨p, _, va, vb, rfl, e2, .inr (.inr ⟨rfl, e.1, e.2, rfl, i1, i2⟩)⟩
  cases d with
  | zero => exact one h
  | succ d =>
    rcases h with h | ⟨a, b, rfl, h1, h2⟩
    · exact one h
    · obtain ⟨p, va, vb, rfl, e2, i1, i2⟩ := i
      exact ⟨p, _, va, vb, rfl, e2, .inl ⟨rfl, d, a, b, rfl, rfl, h1, h2, i1, i2⟩⟩
section
variable {P : Program} {w : World} {K : PySem.W.Frag} {mg : Str → Option Value} {base : Heap}
def spLD : Sp := fun vs H Q _ => ∃ (v : V) (t : Tm) (key : Int) (D : Nat), vs = [v, .int key, .int (D : Int)] ∧ isT .plain H t v ∧ TrT D t ∧ D ≤ 20 ∧
  ∀ p a ws ve os en H', Ext H H' → H' p = some (.tup [.ref a, ve]) → H' a = some (.lst ws) → isTs .plain H' os ws → EndAt H' ve en → os.length ≤ D → (∀ o ∈ os, Gd .nd 21 o) → H a = none → Q (.ref p) H'
abbrev nLD : List Str := ["_law_tree_here", "_law_key", "_law_depth", "_law_others", "_law_bit"]
theorem scLD : FnScope nLD ["_law_tree_here", "_law_key", "_law_depth"] (defScope sLdown) := ⟨rfl, rfl, rfl, by decide +kernel, rfl, by decide +kernel, by decide +kernel⟩
theorem ok_ldown (F : FunAt K mg "_law_down" sLdown) : FnP P w K mg base 1 "_law_down" ["_law_tree_here", "_law_key", "_law_depth"] spLD := by
  refine F.ok scLD (fun _ _ _ _ _ _ us hl => match us, hl with | [_, _, _], _ => rfl) (fun vs H Q E h => ?_) (fun f0 cdv A outer s H vs Q E hr h => ?_)
  · obtain ⟨v, t, key, D, rfl, _⟩ := h; rfl
  obtain ⟨v, t, key, D, rfl, it, gt, hD, q⟩ := h
  have nd := scLD.nd
  refine ⟨_, pss_cons (ps_set (i := 3) nd rfl (Or.inl rfl) (pe_lst pa_nil)) <|
    pss_cons (ps_while PassesOwn.never (PW.pt (pw_and (pt_cmpR op_gt (pv 2) pe_int (nomark _)) (pw_and1 (pt_cmpR op_eq (pe_ix ix_tup (pv 0) pe_int (fun _ _ => rfl)) pe_str (nomark _)))))
      (pss_cons (ps_set (i := 2) nd rfl (Or.inl rfl) (pe_op op_sub (pv 2) pe_int)) <|
       pss_cons (ps_set (i := 4) nd rfl (Or.inl rfl) (pe_op op_mod (pe_op op_fdiv (pv 1) (pe_op op_shl pe_int (pv 2))) pe_int)) <|
       pss_cons (ps_expr (pe_bm PySem.F.plainAttrs_list PySem.F.slot_list_append PySem.F.type_list_append mt_append (pv 3) (pa_cons (pe_ix ix_tup (pv 0) (pe_op op_sub pe_int (pv 4)) (fun _ _ => rfl)) pa_nil))) <|
       pss_one (ps_set (i := 0) nd rfl (Or.inl rfl) (pe_ix ix_tup (pv 0) (pe_op op_add pe_int (pv 4)) (fun _ _ => rfl))))) <|
    pss_cons (ps_if (pt_cmpR op_eq (pe_ix ix_tup (pv 0) pe_int (fun _ _ => rfl)) pe_str (nomark _)) (pss_one (ps_ret (pe_tup (pa_cons (pv 3) (pa_cons (pe_tup (pa_cons (pe_ix ix_tup (pv 0) pe_int (fun _ _ => rfl)) (pa_cons (pe_ix ix_tup (pv 0) pe_int (fun _ _ => rfl)) pa_nil))) pa_nil))))) pss_nil) <|
    pss_one (ps_ret (pe_tup (pa_cons (pv 3) (pa_cons pe_non pa_nil)))), ?_⟩
  refine ⟨by show 0 ≤ sizeLine; decide, fun aO nO => ?_⟩
  dsimp only [gName]
  have x0 : Ext H (upd H aO (.lst [])) := .new nO
  have fork_row : ("fork" : Str) ≠ "row" := by decide +kernel
  have none_row : ("none" : Str) ≠ "row" := by decide +kernel
  have none_fork : ("none" : Str) ≠ "fork" := by decide +kernel
  have row_fork : ("row" : Str) ≠ "fork" := by decide +kernel
  refine joinS (fun σ H' => Ext H H' ∧ ∃ (v' : V) (t' : Tm) (d : Nat) (xs : List V) (os : List Tm) (o4 : Option V), σ = [some v', some (.int key), some (.int (d : Int)), some (.ref aO), o4] ∧ d ≤ D ∧ isT .plain H' t' v' ∧ TrT d t' ∧ H' aO = some (.lst xs) ∧ isTs .plain H' os xs ∧ os.length + d ≤ D ∧ ∀ o ∈ os, Gd .nd 21 o) (fun D' hx => ?_) ?_
  · refine while_by (fun σ H' => Ext H H' ∧ ∃ (v' : V) (t' : Tm) (d : Nat) (xs : List V) (os : List Tm) (o4 : Option V), σ = [some v', some (.int key), some (.int (d : Int)), some (.ref aO), o4] ∧ d ≤ D ∧ isT .plain H' t' v' ∧ TrT d t' ∧ H' aO = some (.lst xs) ∧ isTs .plain H' os xs ∧ os.length + d ≤ D ∧ ∀ o ∈ os, Gd .nd 21 o) (fun σ _ => match σ with | [_, _, some (.int k), _, _] => k.toNat | _ => 0) ⟨x0, v, t, D, [], [], none, rfl, Nat.le_refl _, x0.t it, gt, upd_same, .nil, by simp, fun o ho => nomatch ho⟩ ?_ ?_
    · rintro σ H1 h
      have hx1 := hx σ H1 h
      obtain ⟨x1, v', t', d, xs, os, o4, rfl, hd, it1, gt1, hO, io, ol, og⟩ := h
      obtain ⟨p, m, va, vb, rfl, hp, hm⟩ := tr_tup gt1 it1
      have xl := pr_len io
      refine ⟨_, rfl, _, _, rfl, rfl, _, rfl, ?_⟩
      refine ite2 (fun c => ?_) (fun _ => iteF hx1)
      refine ⟨_, rfl, p, _, _, _, rfl, rfl, .inl (.inl hp), atI_nat (j := 0) rfl, rfl, _, rfl, ?_⟩
      refine ite2 (fun c2 => ?_) (fun _ => hx1)
      have c2' : V.str m = V.str "fork" := of_decide_eq_true c2
      have c3 : m = "fork" := by injection c2'
      subst c3
      rcases hm with ⟨_, d', a, b, rfl, rfl, ga, gb, ia, ib⟩ | ⟨z, _⟩ | ⟨z, _⟩
      · have ed : ((d' + 1 : Nat) : Int) - 1 = (d' : Int) := by omega
        refine ⟨_, rfl, _, _, rfl, rfl, ?_⟩
        dsimp only [gName]
        rw [ed]
        have hb0 := Int.emod_nonneg (key / (1 * 2 ^ ((d' : Int)).toNat)) (show (2 : Int) ≠ 0 by decide)
        have hb1 := Int.emod_lt_of_pos (key / (1 * 2 ^ ((d' : Int)).toNat)) (show (0 : Int) < 2 by decide)
        have hpw : (1 : Int) * 2 ^ ((d' : Int)).toNat ≤ 2 ^ 20 := by
          have e1 : ((d' : Int)).toNat = d' := rfl
          rw [e1, Int.one_mul]
          have := Nat.pow_le_pow_right (show 0 < 2 by omega) (show d' ≤ 20 by omega)
          exact_mod_cast this
        have hpp : (0 : Int) < 1 * 2 ^ ((d' : Int)).toNat := by rw [Int.one_mul]; exact Int.pow_pos (by decide)
        have hp2 : (1 : Int) * 2 ^ ((d' : Int)).toNat < 1073741824 := by
          have : (2 : Int) ^ 20 < 1073741824 := by decide
          omega
        refine ⟨_, rfl, _, rfl, _, _, rfl, rfl, ⟨by omega, by omega, by decide⟩, _, _, rfl, rfl, ⟨hpp, hp2⟩, _, _, rfl, rfl, (by show (0 : Int) < 2; decide), ?_⟩
        dsimp only [gName]
        generalize key / (1 * 2 ^ ((d' : Int)).toNat) % 2 = bt at hb0 hb1 ⊢
        have two : ∃ (o c : Tm) (vo vc : V), atI [V.str "fork", va, vb] (2 - bt) = some vo ∧ atI [V.str "fork", va, vb] (1 + bt) = some vc ∧ isT .plain H1 o vo ∧ isT .plain H1 c vc ∧ TrT d' o ∧ TrT d' c := by
          rcases (by omega : bt = 0 ∨ bt = 1) with rfl | rfl
          · exact ⟨b, a, vb, va, atI_nat (j := 2) rfl, atI_nat (j := 1) rfl, ib, ia, gb, ga⟩
          · exact ⟨a, b, va, vb, atI_nat (j := 1) rfl, atI_nat (j := 2) rfl, ia, ib, ga, gb⟩
        obtain ⟨o, c', vo, vc, e1, e2, i1, i2, g1, g2⟩ := two
        refine ⟨_, rfl, .inl ⟨rfl, _, SqL.of hO⟩, _, rfl, _, rfl, _, _, rfl, rfl, p, _, _, _, rfl, rfl, .inl (.inl hp), e1, aO, _, _, rfl, rfl, hO, by rw [sizeLine_eq]; omega, ?_⟩
        have g9 : ∀ u, Gn .plain 0 H1 (upd H1 aO u) := fun u => Gn.chg told_p hO rfl (fun _ e => nomatch e)
        refine ⟨_, rfl, _, rfl, _, _, rfl, rfl, p, _, _, _, rfl, rfl, .inl (.inl ((g9 _).keep _ _ hp rfl)), e2, ?_⟩
        refine ⟨⟨x1.own nO, vc, c', d', xs ++ [vo], os ++ [o], _, rfl, by omega, isT_up (g9 _) i2, g2, upd_same, pr_app (isTs_up (g9 _) io) (.cons (isT_up (g9 _) i1) .nil), by simp; omega, fun o' ho => ?_⟩, ?_⟩
        · rcases List.mem_append.mp ho with z | z
          · exact og o' z
          · rw [List.mem_singleton.mp z]; exact g1.gd (by omega)
        · show ((d' : Int)).toNat < (((d' + 1 : Nat) : Int)).toNat
          omega
      · exact absurd z.symm none_fork
      · exact absurd z.symm row_fork
    · rintro σ H' Q1 Q2 hq ⟨v', e1, i, j, e2, e3, k, e4, z⟩
      refine ⟨v', e1, i, j, e2, e3, k, e4, ?_⟩
      cases k with
      | false => exact hq _ _ z
      | true =>
        obtain ⟨v2, f1, p, ys, i2, y, f2, f3, f4, f5, f6, k2, f7, z2⟩ := z
        exact ⟨v2, f1, p, ys, i2, y, f2, f3, f4, f5, f6, k2, f7, hq _ _ z2⟩
  · rintro σ H1 ⟨x1, v', t', d, xs, os, o4, rfl, hd, it1, gt1, hO, io, ol, og⟩
    obtain ⟨p, m, va, vb, rfl, hp, hm⟩ := tr_tup gt1 it1
    refine ⟨_, rfl, p, _, _, _, rfl, rfl, .inl (.inl hp), atI_nat (j := 0) rfl, rfl, _, rfl, ?_⟩
    refine ite2 (fun c => ?_) (fun _ => ?_)
    · have c1 : V.str m = V.str "row" := of_decide_eq_true c
      have c3 : m = "row" := by injection c1
      subst c3
      rcases hm with ⟨z, _⟩ | ⟨z, _⟩ | ⟨_, k, x, rfl, rfl, rfl⟩
      · exact absurd z.symm fork_row
      · exact absurd z.symm none_row
      · refine ⟨_, rfl, _, rfl, p, _, _, _, rfl, rfl, .inl (.inl hp), atI_nat (j := 1) rfl, _, rfl, p, _, _, _, rfl, rfl, .inl (.inl hp), atI_nat (j := 2) rfl, by show 2 ≤ sizeLine; decide, fun p2 hp2 => ⟨by show 2 ≤ sizeLine; decide, fun p3 hp3 => ?_⟩⟩
        have x2 := Ext.new (o := HO.tup [.int k, .str x]) hp2
        have x3 := Ext.new (o := HO.tup [.ref aO, .ref p2]) hp3
        have x13 := x2.trans x3
        exact q p3 aO xs (.ref p2) os (some (k, x)) _ (x1.trans x13) upd_same (x13 _ _ hO) (x13.ts io) ⟨p2, rfl, x3 _ _ upd_same⟩ (by omega) og nO
    · refine ⟨_, rfl, by show 2 ≤ sizeLine; decide, fun p3 hp3 => ?_⟩
      have x3 := Ext.new (o := HO.tup [.ref aO, .non]) hp3
      exact q p3 aO xs .non os none _ (x1.trans x3) upd_same (x3 _ _ hO) (x3.ts io) rfl (by omega) og nO
end
end My
namespace My
open PySem L2
def jgB (th : Tm) (D : Nat) (tr : Tm) (key : Int) (k dp : Nat) (e : List Tm × Option (Int × Str)) : Bool :=
  if k < 3 then hoB (some []) 1 0 th key (Txt.slice "ab" none (some (k : Int))) dp "a" (tblT D tr) e.1 e.2 else laB (some []) 1 0 th key dp "a" (tblT D tr) e.1 e.2
theorem ws_out {po : Option (List Tm)} {size place : Int} {th : Tm} {key : Int} {dp D : Nat} {z : Str} {tr : Tm} {os : List Tm} {en : Option (Int × Str)} (h : wsB po size place th key dp z (tblT D tr) os en = true) : dp = D ∧ os.length ≤ D ∧ topW key D os (endT en) = tr := by
  unfold wsB at h
  rw [Bool.and_eq_true, Bool.and_eq_true] at h
  obtain ⟨h1, h2, _⟩ := h
  have h2 := of_decide_eq_true h2
  injection h2 with _ a b
  injection a with a
  have e : dp = D := by omega
  subst e
  exact ⟨rfl, fit_len h1, b⟩
theorem jg_out {th : Tm} {D : Nat} {tr : Tm} {key : Int} {k dp : Nat} {e : List Tm × Option (Int × Str)} (h : jgB th D tr key k dp e = true) : e.1.length ≤ D ∧ topW key D e.1 (endT e.2) = tr ∧ (k < 3 → e.2 = some (key, Txt.slice "ab" none (some (k : Int)))) ∧ (¬ k < 3 → ∀ x, e.2 ≠ some (key, x)) := by
  unfold jgB at h
  by_cases c : k < 3
  · rw [if_pos c] at h
    unfold hoB at h
    rw [Bool.and_eq_true] at h
    obtain ⟨_, w2, w3⟩ := ws_out h.2
    exact ⟨w2, w3, fun _ => of_decide_eq_true h.1, fun z => absurd c z⟩
  · rw [if_neg c] at h
    unfold laB at h
    rw [Bool.and_eq_true] at h
    obtain ⟨_, w2, w3⟩ := ws_out h.2
    refine ⟨w2, w3, fun z => absurd z c, fun _ x ex => ?_⟩
    have h1 := h.1
    rw [ex] at h1
    simp at h1
theorem ab_inj : ∀ i < 3, ∀ j < 3, Txt.slice "ab" none (some ((i : Nat) : Int)) = Txt.slice "ab" none (some ((j : Nat) : Int)) → i = j := by decide +kernel
theorem jg_uni {th : Tm} {D : Nat} {tr : Tm} {key : Int} {k k' dp dp' : Nat} {e e' : List Tm × Option (Int × Str)} (h : jgB th D tr key k dp e = true) (h' : jgB th D tr key k' dp' e' = true) (hk : k < 4) (hk' : k' < 4) : k = k' := by
  obtain ⟨a1, a2, a3, a4⟩ := jg_out h
  obtain ⟨b1, b2, b3, b4⟩ := jg_out h'
  obtain ⟨_, u⟩ := topW_inj D e.1 e'.1 e.2 e'.2 a1 b1 (a2.trans b2.symm)
  by_cases c : k < 3
  · by_cases c' : k' < 3
    · have z := (a3 c).symm.trans (u.trans (b3 c'))
      injection z with z
      injection z with _ z
      exact ab_inj k c k' c' z
    · exact absurd (u.symm.trans (a3 c)) (b4 c' _)
  · by_cases c' : k' < 3
    · exact absurd (u.trans (b3 c')) (a4 c _)
    · omega
def PapR (D : Addr) (H : Hp) (pT : Addr) (v : V) (e : List Tm × Option (Int × Str)) : Prop := ∃ p b pw a ws ve, v = .ref p ∧ H p = some (.tup [.str "a", .ref pT, .ref b, .ref pw]) ∧ H b = some (.lst []) ∧ H pw = some (.tup [.ref a, ve]) ∧ H a = some (.lst ws) ∧ isTs .plain H e.1 ws ∧ EndAt H ve e.2 ∧ e.1.length ≤ 20 ∧ (∀ o ∈ e.1, Gd .nd 21 o) ∧ b ≠ D ∧ a ≠ D
theorem PapR.up {D : Addr} {H H' : Hp} {pT : Addr} {v : V} {e : List Tm × Option (Int × Str)} (h : PapR D H pT v e) (x : Ext H H') : PapR D H' pT v e := by
  obtain ⟨p, b, pw, a, ws, ve, h1, h2, h3, h4, h5, h6, h7, h8, h9, h10, h11⟩ := h
  exact ⟨p, b, pw, a, ws, ve, h1, x _ _ h2, x _ _ h3, x _ _ h4, x _ _ h5, x.ts h6, h7.up x.gr.gn, h8, h9, h10, h11⟩
theorem PapR.chg {D : Addr} {H : Hp} {pT : Addr} {v : V} {e : List Tm × Option (Int × Str)} {ys : List V} {o : HO} (h : PapR D H pT v e) (hD : H D = some (.lst ys)) : PapR D (upd H D o) pT v e := by
  obtain ⟨p, b, pw, a, ws, ve, h1, h2, h3, h4, h5, h6, h7, h8, h9, h10, h11⟩ := h
  have g : Gn .plain 0 H (upd H D o) := Gn.chg told_p hD rfl (fun _ e => nomatch e)
  exact ⟨p, b, pw, a, ws, ve, h1, g.keep _ _ h2 rfl, by rw [upd_ne h10]; exact h3, g.keep _ _ h4 rfl, by rw [upd_ne h11]; exact h5, isTs_up g h6, h7.up g, h8, h9, h10, h11⟩
theorem PapR.kp {D : Addr} {H : Hp} {pT : Addr} {v : V} {e : List Tm × Option (Int × Str)} {tt : Tm} (h : PapR D H pT v e) (it : isT .plain H tt (.ref pT)) (gt : Gd .nd 30 tt) : KPap .nd .plain H 30 v "a" tt (some []) e.1 e.2 := by
  obtain ⟨p, b, pw, a, ws, ve, h1, h2, h3, h4, h5, h6, h7, h8, h9, h10, h11⟩ := h
  exact ⟨p, _, _, _, h1, h2, it, gt, ⟨b, [], rfl, h3, .nil, fun t ht => nomatch ht⟩, ⟨pw, a, ws, ve, rfl, h4, h5, h6, h7⟩, fun t ht => (h9 t ht).mono (by omega)⟩
def ClA (cH cL : Addr) (key : Int) (dp : Nat) (H : Hp) (wC : List V) : Prop := (∀ j : Nat, j < 3 → ∃ x, wC[j]? = some (.ref x) ∧ HoAt cH H x 0 key (Txt.slice "ab" none (some (j : Int))) dp) ∧ ∃ x, wC[3]? = some (.ref x) ∧ LaAt cL H x 0 key dp
theorem ClA.mv {cH cL : Addr} {key : Int} {dp : Nat} {H H' : Hp} {wC : List V} (h : ClA cH cL key dp H wC) (m : ∀ x C dx fl, H x = some (.ins C dx fl) → H' x = some (.ins C dx fl)) : ClA cH cL key dp H' wC := by
  obtain ⟨h1, x, h2, dx, h3⟩ := h
  refine ⟨fun j hj => ?_, x, h2, dx, m _ _ _ _ h3⟩
  obtain ⟨y, y1, dy, y2⟩ := h1 j hj
  exact ⟨y, y1, dy, m _ _ _ _ y2⟩
theorem ins_chg {H : Hp} {D : Addr} {ys : List V} {o : HO} (hD : H D = some (.lst ys)) : ∀ x C dx fl, H x = some (.ins C dx fl) → (upd H D o) x = some (.ins C dx fl) := fun x C dx fl h => by
  rw [upd_ne (fun e => by subst e; rw [hD] at h; cases h)]; exact h
def ShR (th : Tm) (D : Nat) (tr : Tm) (key : Int) (H : Hp) (aS : Addr) : Prop := ∃ xs, H aS = some (.lst xs) ∧ (xs = [] ∨ ∃ k : Nat, xs = [.int (k : Int)] ∧ k < 4 ∧ ∃ dp e, jgB th D tr key k dp e = true)
theorem ShR.up {th : Tm} {D : Nat} {tr : Tm} {key : Int} {H H' : Hp} {aS : Addr} (h : ShR th D tr key H aS) (x : Ext H H') : ShR th D tr key H' aS := by
  obtain ⟨xs, h1, h2⟩ := h
  exact ⟨xs, x _ _ h1, h2⟩
theorem ints2 {a b : Int} {i : Nat} {x : V} (h : [V.int a, V.int b][i]? = some x) : ∃ k : Int, x = .int k ∧ (k = a ∨ k = b) := by
  have := List.mem_of_getElem? h
  simp only [List.mem_cons, List.not_mem_nil, or_false] at this
  rcases this with rfl | rfl
  · exact ⟨a, rfl, .inl rfl⟩
  · exact ⟨b, rfl, .inr rfl⟩
section
variable {P : Program} {w : World} {K : PySem.W.Frag} {mg : Str → Option Value} {base : Heap} {cH cL : Addr}
def spLTa : Sp := fun vs H Q E => ∃ b, b ≤ 4 ∧ spLT b vs H Q E
abbrev nKy : List Str := ["_law_cell", "_law_depth", "_law_tree_here", "_law_table", "_law_head", "_law_key", "_law_papers", "_law_shown", "_law_deep", "_law_k", "_law_claims", "_law_told"]
theorem scKy : FnScope nKy ["_law_cell"] (defScope sLkeys) := ⟨rfl, rfl, rfl, by decide +kernel, rfl, by decide +kernel, by decide +kernel⟩
theorem ok_lkeys {fS : Addr} (F : FunAt K mg "_law_keys" sLkeys) (Fd : FnP P w K mg base 1 "_law_draw" ["_law_cell", "_law_k", "_law_many"] spDraw) (Ft : FnP P w K mg base 6 "_law_tree" ["_law_cell", "_law_depth"] spLTa) (Fn : FnP P w K mg base 1 "_law_down" ["_law_tree_here", "_law_key", "_law_depth"] spLD)
    (TH : TxH K mg cH) (TL : TxL K mg cL) (MH : ∃ fI, Mk K cH fI) (ML : ∃ fI, Mk K cL fI) (Mhi : MtP P w K mg base cH 1 "__init__" ["self", "place", "key", "value", "depth"] (spHI cH)) (Mli : MtP P w K mg base cL 1 "__init__" ["self", "place", "key", "depth"] (spLI cL))
    (Mhj : MtP P w K mg base cH 23 "judged" ["self", "seal", "size", "head", "paper"] (spHJ K mg cH .nd .plain 30)) (Mlj : MtP P w K mg base cL 23 "judged" ["self", "seal", "size", "head", "paper"] (spLJ K mg cL .nd .plain 30))
    (hS : mg "_law_seal" = some (.ref fS)) (hSl : ∃ oc od fd sl, K.lookup fS = some ⟨oc, od, .func fd, sl⟩) (ml : mg "len" = none) (mr : mg "range" = none) : FnP P w K mg base 60 "_law_keys" ["_law_cell"] spTrue := by
  refine F.ok scKy (fun _ _ _ _ _ _ us hl => match us, hl with | [_], _ => rfl) (fun vs H Q E h => ?_) (fun f0 cdv A outer s H vs Q E hr h => ?_)
  · obtain ⟨c, rfl, _⟩ := h; rfl
  obtain ⟨c, rfl, q⟩ := h
  have nd := scKy.nd
  refine' ⟨_, pss_cons (ps_set (i := 1) nd rfl (Or.inr rfl) (pe_op op_add pe_int (pe_callN Fd (hr.mono (by omega)) rfl (pa_cons (pv 0) (pa_cons pe_int (pa_cons pe_int pa_nil)))))) <|
    pss_cons (ps_set (i := 2) nd rfl (Or.inr rfl) (pe_callN Ft (hr.mono (by omega)) rfl (pa_cons (pv 0) (pa_cons (pv 1) pa_nil)))) <|
    pss_cons (ps_set (i := 3) nd rfl (Or.inr rfl) (pe_tup (pa_cons pe_str (pa_cons (pv 1) (pa_cons (pv 2) pa_nil))))) <|
    pss_cons (ps_set (i := 4) nd rfl (Or.inr rfl) (pe_tup (pa_cons pe_str (pa_cons pe_int (pa_cons (pe_tup (pa_cons pe_str (pa_cons pe_str (pa_cons (pv 3) pa_nil)))) pa_nil))))) <|
    pss_cons (ps_for PassesOwn.never rfl (pi_tup (pe_tup (pa_cons (pe_callN Fd (hr.mono (by omega)) rfl (pa_cons (pv 0) (pa_cons pe_int (pa_cons (pe_op op_shl pe_int (pv 1)) pa_nil)))) (pa_cons (pe_callN Fd (hr.mono (by omega)) rfl (pa_cons (pv 0) (pa_cons pe_int (pa_cons (pe_op op_shl pe_int (pv 1)) pa_nil)))) pa_nil)))) (pg_name (i := 5) nd rfl (Or.inr rfl)) <|
      pss_cons (ps_setComp (iz := 6) (ys := ["_law_table", "_law_tree_here", "_law_depth"]) (js := [3, 2, 1]) ?ok1 (pi_tup (pe_tup (pa_cons (pv 5) (pa_cons (pe_op op_xor (pv 5) pe_int) pa_nil)))) (fun _ _ _ => pts_nil) ?he1 nd rfl (Or.inl rfl) (Or.inl rfl) rfl) <|
      pss_cons (ps_set (i := 7) nd rfl (Or.inl rfl) (pe_lst pa_nil)) <|
      pss_cons (ps_for PassesOwn.never rfl (pi_tup (pe_tup (pa_cons (pv 1) (pa_cons (pe_op op_add (pv 1) pe_int) pa_nil)))) (pg_name (i := 8) nd rfl (Or.inr rfl)) <|
        pss_cons (ps_set (i := 10) nd rfl (Or.inr rfl) (pe_op op_cat (pe_comp (ys := ["_law_key", "_law_deep"]) (js := [5, 8]) ?ok2 (pi_range1 rfl mr (pa_cons pe_int pa_nil)) (fun _ _ _ => pts_nil) ?he2) (pe_lst (pa_cons (pe_makeM ML Mli (hr.mono (by omega)) rfl TL.mgC (pa_cons pe_int (pa_cons (pv 5) (pa_cons (pv 8) pa_nil)))) pa_nil)))) <|
        pss_one (ps_for PassesOwn.never rfl (pi_range1 rfl mr (pa_cons pe_int pa_nil)) (pg_name (i := 9) nd rfl (Or.inr rfl)) <|
          pss_cons (ps_setComp (iz := 11) (ys := ["_law_claims", "_law_k", "_law_head"]) (js := [10, 9, 4]) ?ok3 (pi_list (pv 6)) (fun _ _ _ => pts_nil) ?he3 nd rfl (Or.inl rfl) (Or.inl rfl) rfl) <|
          pss_one (ps_if (PW.pt (pw_and (pt_cmpR op_in_seq pe_bl (pv 11) rfl) (pw_and1 (pt_cmpR op_notIn_seq (pv 9) (pv 7) rfl)))) (pss_one (ps_expr (pe_bm PySem.F.plainAttrs_list PySem.F.slot_list_append PySem.F.type_list_append mt_append (pv 7) (pa_cons (pv 9) pa_nil)))) pss_nil))) <|
      pss_one (ps_if (pt_cmpR op_gt (pe_callB call_len_seq rfl ml PySem.boot_len (pa_cons (pv 7) pa_nil)) pe_int (nomark _)) (pss_one (ps_ret pe_bl)) pss_nil)) <|
    pss_one (ps_ret pe_bl), ?rd⟩
  case ok1 =>
    refine ⟨rfl, rfl, rfl, by decide +kernel, by decide +kernel, rfl, by decide +kernel, same_of (fun p hp => ?_), rfl, fun i y h => ?_, rfl⟩
    · simp only [List.mem_cons, List.not_mem_nil, or_false] at hp
      rcases hp with rfl | rfl | rfl <;> rfl
    · match i, h with
      | 0, h => simp at h; subst h; exact ⟨3, rfl, rfl, rfl, rfl⟩
      | 1, h => simp at h; subst h; exact ⟨2, rfl, rfl, rfl, rfl⟩
      | 2, h => simp at h; subst h; exact ⟨1, rfl, rfl, rfl, rfl⟩
      | i + 3, h => simp at h
  case he1 =>
    exact fun _ _ _ => pe_tup (pa_cons pe_str (pa_cons (pv 1) (pa_cons (pe_lst pa_nil) (pa_cons (pe_callN Fn (hr.mono (by omega)) rfl (pa_cons (pv 2) (pa_cons (pv 0) (pa_cons (pv 3) pa_nil)))) pa_nil))))
  case ok2 =>
    refine ⟨rfl, rfl, rfl, by decide +kernel, by decide +kernel, rfl, by decide +kernel, same_of (fun p hp => ?_), rfl, fun i y h => ?_, rfl⟩
    · simp only [List.mem_cons, List.not_mem_nil, or_false] at hp
      rcases hp with rfl | rfl <;> rfl
    · match i, h with
      | 0, h => simp at h; subst h; exact ⟨5, rfl, rfl, rfl, rfl⟩
      | 1, h => simp at h; subst h; exact ⟨8, rfl, rfl, rfl, rfl⟩
      | i + 2, h => simp at h
  case he2 =>
    exact fun _ _ _ => pe_makeM MH Mhi (hr.mono (by omega)) rfl TH.mgC (pa_cons pe_int (pa_cons (pv 1) (pa_cons (pe_slice sl_str pe_str po_none (po_some (pv 0))) (pa_cons (pv 2) pa_nil))))
  case ok3 =>
    refine ⟨rfl, rfl, rfl, by decide +kernel, by decide +kernel, rfl, by decide +kernel, same_of (fun p hp => ?_), rfl, fun i y h => ?_, rfl⟩
    · simp only [List.mem_cons, List.not_mem_nil, or_false] at hp
      rcases hp with rfl | rfl | rfl <;> rfl
    · match i, h with
      | 0, h => simp at h; subst h; exact ⟨10, rfl, rfl, rfl, rfl⟩
      | 1, h => simp at h; subst h; exact ⟨9, rfl, rfl, rfl, rfl⟩
      | 2, h => simp at h; subst h; exact ⟨4, rfl, rfl, rfl, rfl⟩
      | i + 3, h => simp at h
  case he3 =>
    exact fun _ _ _ => pe_ei (pe_methN Mhj (pe_ix (ix_listK K rfl) (pv 1) (pv 2) (fun _ _ => rfl)) TH.cl (hr.mono (by omega)) (pa_cons (pe_glob (v := .ref fS) rfl hS rfl) (pa_cons pe_int (pa_cons (pv 3) (pa_cons (pv 0) pa_nil)))))
      (pe_methN Mlj (pe_ix (ix_listK K rfl) (pv 1) (pv 2) (fun _ _ => rfl)) TL.cl (hr.mono (by omega)) (pa_cons (pe_glob (v := .ref fS) rfl hS rfl) (pa_cons pe_int (pa_cons (pv 3) (pa_cons (pv 0) pa_nil)))))
  case rd =>
  refine ⟨_, rfl, c, 12, 4, rfl, by decide, by decide, fun v1 H1 a1 b1 x1 => ⟨_, _, rfl, rfl, ?_⟩⟩
  have x1 : Ext H H1 := x1
  dsimp only [gName]
  obtain ⟨D, hD, D1, D4⟩ : ∃ D : Nat, (1 : Int) + v1 = (D : Int) ∧ 1 ≤ D ∧ D ≤ 4 := ⟨(1 + v1).toNat, by omega, by omega, by omega⟩
  rw [hD]
  refine ⟨_, rfl, _, rfl, D, D4, c, rfl, fun vt tr H2 x2 it2 gt2 => ?_⟩
  refine ⟨_, rfl, _, rfl, by show 3 ≤ sizeLine; decide, fun pT hpT => ?_⟩
  have x3 := Ext.new (o := HO.tup [.str "table", .int (D : Int), vt]) hpT
  have i3 : isT .plain _ (tblT D tr) (.ref pT) := tup3 (m := "table") (a := .int (D : Int)) hpT rfl it2
  refine ⟨_, rfl, by show 3 ≤ sizeLine; decide, fun p4 hp4 => ⟨by show 3 ≤ sizeLine; decide, fun p5 hp5 => ?_⟩⟩
  have x4 := Ext.new (o := HO.tup [.str "leaf", .str "a", .ref pT]) hp4
  have i4 := tup3 (m := "leaf") (a := .str "a") hp4 rfl i3
  have x5 := Ext.new (o := HO.tup [.str "book", .int 1, .ref p4]) hp5
  have i5 := tup3 (m := "book") (a := .int 1) hp5 rfl i4
  have gtb : Gd .nd 6 (tblT D tr) := ⟨by show max 0 tr.dep + 1 ≤ 6; have := gt2.dp; omega, ws_tbl gt2.ws⟩
  have gth : Gd .nd 30 (.nd "book" (.int 1) (.nd "leaf" (.str "a") (tblT D tr))) := ⟨by show max 0 (max 0 (tblT D tr).dep + 1) + 1 ≤ 30; have := gtb.1; omega, ws_book (ws_leaf gtb.2)⟩
  have gtb : Gd .nd 30 (tblT D tr) := gtb.mono (by omega)
  have x05 := (((x1.trans x2).trans x3).trans x4).trans x5
  have it5 := ((x3.trans x4).trans x5).t it2
  have i35 := (x4.trans x5).t i3
  generalize hth : Tm.nd "book" (.int 1) (.nd "leaf" (.str "a") (tblT D tr)) = th at i5 gth
  dsimp only [gName]
  generalize upd (upd (upd H2 pT (.tup [.str "table", .int (D : Int), vt])) p4 (.tup [.str "leaf", .str "a", .ref pT])) p5 (.tup [.str "book", .int 1, .ref p4]) = H5 at x05 it5 i35 i5 ⊢
  have hm : (0 : Int) < 1 * 2 ^ ((D : Int)).toNat := by rw [Int.one_mul]; exact Int.pow_pos (by decide)
  refine ⟨_, rfl, _, rfl, _, _, rfl, rfl, ⟨by omega, by omega, by decide⟩, c, 13, _, rfl, by decide, hm, fun k1 H6 _ _ x6 => ?_⟩
  refine ⟨_, rfl, _, rfl, _, _, rfl, rfl, ⟨by omega, by omega, by decide⟩, c, 14, _, rfl, by decide, hm, fun k2 H7 _ _ x7 => ⟨by show 2 ≤ sizeLine; decide, fun pK hpK => ⟨pK, rfl, ⟨_, SqT.of upd_same⟩, ?_⟩⟩⟩
  have x6 : Ext H5 H6 := x6
  have x7 : Ext H6 H7 := x7
  have x8 := Ext.new (o := HO.tup [.int k1, .int k2]) hpK
  have hK8 := upd_same (H := H7) (a := pK) (o := HO.tup [.int k1, .int k2])
  have x58 := (x6.trans x7).trans x8
  generalize upd H7 pK (.tup [.int k1, .int k2]) = H8 at hK8 x58 ⊢
  refine for_tup (K := K) (xs := [.int k1, .int k2]) (fun i σ H' => Ext H8 H' ∧ ∃ o5 o6 o7 o8 o9 o10 o11, σ = [some (.int c), some (.int (D : Int)), some vt, some (.ref pT), some (.ref p5), o5, o6, o7, o8, o9, o10, o11]) ⟨Ext.refl, none, none, none, none, none, none, none, rfl⟩ (fun i σ H' _ h => SqT.of (h.1 _ _ hK8)) ?_ ?_
  · rintro i x σ H9 hx ⟨x9, o5, o6, o7, o8, o9, o10, o11, rfl⟩
    obtain ⟨key, rfl, _⟩ := ints2 hx
    dsimp only [gName]
    refine ⟨_, rfl, _, rfl, _, _, rfl, rfl, by show 2 ≤ sizeLine; decide, fun pN hpN => ⟨pN, rfl, ⟨_, SqT.of upd_same⟩, ?_⟩⟩
    have x10 := Ext.new (o := HO.tup [.int key, .int (Builtin.bitXor key 1)]) hpN
    have hN := upd_same (H := H9) (a := pN) (o := HO.tup [.int key, .int (Builtin.bitXor key 1)])
    have x5N := (x58.trans x9).trans x10
    have x8N := x9.trans x10
    refine comp_tup (K := K) (xs := [.int key, .int (Builtin.bitXor key 1)]) (fun D' i ys H' => Ext (upd H9 pN (.tup [.int key, .int (Builtin.bitXor key 1)])) H' ∧ H' D' = some (.lst ys) ∧ ∃ pps, pps.length = i ∧ Paired (fun e v => PapR D' H' pT v e) pps ys) (fun D' hD' => ⟨.new hD', upd_same, [], rfl, .nil⟩) (fun D' i ys H' hD' h => SqT.of (h.1 _ _ hN)) ?_ ?_
    · rintro D' i x ys H11 Qb hD' hx ⟨x11, hD11, pps, ppl, la⟩ hQ
      obtain ⟨near, rfl, _⟩ := ints2 hx
      have hi : i < 2 := (List.getElem?_eq_some_iff.mp hx).1
      have yl := pr_len la
      refine ⟨_, rfl, by show 0 ≤ sizeLine; decide, fun b hb => ?_⟩
      have x12 := Ext.new (o := HO.lst []) hb
      have hbD : b ≠ D' := by rintro rfl; rw [hD11] at hb; cases hb
      refine ⟨_, rfl, _, rfl, _, rfl, vt, tr, near, D, rfl, ((x5N.trans x11).trans x12).t it5, gt2, by omega, fun pw a ws ve os en H13 x13 hpw ha io he ol og na => ⟨by show 4 ≤ sizeLine; decide, fun p hp => ?_⟩⟩
      have haD : a ≠ D' := by rintro rfl; rw [x12 _ _ hD11] at na; cases na
      have x14 := Ext.new (o := HO.tup [.str "a", .ref pT, .ref b, .ref pw]) hp
      have hD14 := x14 _ _ (x13 _ _ (x12 _ _ hD11))
      have x1114 := (x12.trans x13).trans x14
      have pr : PapR D' _ pT (.ref p) (os, en) := ⟨p, b, pw, a, ws, ve, rfl, upd_same, x14 _ _ (x13 _ _ upd_same), x14 _ _ hpw, x14 _ _ ha, x14.ts io, he.up x14.gr.gn, by show os.length ≤ 20; omega, og, hbD, haD⟩
      refine hQ _ _ hD14 (by rw [sizeLine_eq]; omega) ⟨(x11.trans x1114).own hD', upd_same, pps ++ [(os, en)], by simp; omega, pr_app (L2.Paired.imp2 (fun e x h => (PapR.up h x1114).chg hD14) la) (.cons (pr.chg hD14) .nil)⟩
    rintro aP wP H11 hP ⟨x11, hP11, pps, ppl, la⟩
    have ppl : pps.length = 2 := ppl
    have wpl := pr_len la
    have x5e := x5N.trans x11
    have x8e := x8N.trans x11
    dsimp only [gName]
    refine ⟨by show 0 ≤ sizeLine; decide, fun aS nS => ?_⟩
    have x12 := Ext.new (o := HO.lst []) nS
    dsimp only [gName]
    refine ⟨_, rfl, _, rfl, _, _, rfl, rfl, by show 2 ≤ sizeLine; decide, fun pD hpD => ⟨pD, rfl, ⟨_, SqT.of upd_same⟩, ?_⟩⟩
    have x13 := Ext.new (o := HO.tup [.int (D : Int), .int ((D : Int) + 1)]) hpD
    have hD13 := upd_same (H := upd H11 aS (.lst [])) (a := pD) (o := HO.tup [.int (D : Int), .int ((D : Int) + 1)])
    have hS13 : (upd (upd H11 aS (.lst [])) pD (.tup [.int (D : Int), .int ((D : Int) + 1)])) aS = some (.lst []) := x13 _ _ upd_same
    have x1113 := x12.trans x13
    refine for_tup (K := K) (xs := [.int (D : Int), .int ((D : Int) + 1)]) (fun i σ H' => Ext H11 H' ∧ H' pD = some (.tup [.int (D : Int), .int ((D : Int) + 1)]) ∧ ShR th D tr key H' aS ∧ ∃ o8 o9 o10 o11, σ = [some (.int c), some (.int (D : Int)), some vt, some (.ref pT), some (.ref p5), some (.int key), some (.ref aP), some (.ref aS), o8, o9, o10, o11]) ⟨x1113, hD13, ⟨[], hS13, .inl rfl⟩, _, _, _, _, rfl⟩ (fun i σ H' _ h => SqT.of h.2.1) ?_ ?_
    · rintro i x σ H14 hx ⟨x14, hD14, hS14, o8, o9, o10, o11, rfl⟩
      obtain ⟨dp, rfl, hdp⟩ : ∃ dp : Nat, x = .int (dp : Int) ∧ dp ≤ 5 := by
        obtain ⟨z, rfl, hz⟩ := ints2 hx
        rcases hz with rfl | rfl
        · exact ⟨D, rfl, by omega⟩
        · exact ⟨D + 1, rfl, by omega⟩
      dsimp only [gName]
      refine ⟨3, rfl, by decide, by decide, ?_⟩
      refine comp_range (n := 3) (fun D' i ys H' => Ext H14 H' ∧ H' D' = some (.lst ys) ∧ ys.length = i ∧ ∀ j : Nat, j < i → ∃ x, ys[j]? = some (.ref x) ∧ HoAt cH H' x 0 key (Txt.slice "ab" none (some (j : Int))) dp) (fun D' hD' => ⟨.new hD', upd_same, rfl, fun j hj => by omega⟩) ?_ ?_
      · rintro D' i ys H15 Qb hD' hi ⟨x15, hD15, yl, ho⟩ hQ
        refine ⟨_, rfl, _, rfl, _, rfl, "ab", rfl, by rw [ab_len, sizeLine_eq]; decide, _, rfl, fun y dy ny ndy ney => ⟨y, dy, 0, key, _, dp, rfl, upd_same, fun H16 hy k16 => ⟨rfl, ?_⟩⟩⟩
        have x16 : Ext H15 H16 := fun b o h => k16 b o (by rw [upd_ne (ne_of_none h ny), upd_ne (ne_of_none h ndy)]; exact h) (ne_of_none h ny)
        have hD16 := x16 _ _ hD15
        rw [show (0 : Int) + (i : Int) = (i : Int) by omega] at hy
        refine hQ _ H16 hD16 (by rw [sizeLine_eq]; omega) ⟨(x15.trans x16).own hD', upd_same, by simp; omega, fun j hj => ?_⟩
        by_cases hji : j < i
        · obtain ⟨x, e1, e2⟩ := ho j hji
          obtain ⟨dx, e2⟩ := e2.up x16.gr
          exact ⟨x, by rw [List.getElem?_append_left (by omega)]; exact e1, dx, ins_chg hD16 _ _ _ _ e2⟩
        · have ej : j = i := by omega
          subst ej
          obtain ⟨dx, e2⟩ := hy
          exact ⟨y, by rw [List.getElem?_append_right (by omega), yl, Nat.sub_self]; rfl, dx, ins_chg hD16 _ _ _ _ e2⟩
      rintro aC wC H15 hC ⟨x15, hC15, cl, ho⟩
      refine ⟨_, rfl, _, rfl, fun y dy ny ndy ney => ⟨y, dy, 0, key, dp, rfl, upd_same, fun H16 hy k16 => ⟨rfl, by show 1 ≤ sizeLine; decide, fun p17 hp17 => ?_⟩⟩⟩
      have x16 : Ext H15 H16 := fun b o h => k16 b o (by rw [upd_ne (ne_of_none h ny), upd_ne (ne_of_none h ndy)]; exact h) (ne_of_none h ny)
      have x17 := Ext.new (o := HO.lst [.ref y]) hp17
      refine ⟨aC, p17, wC, [.ref y], rfl, rfl, x17 _ _ (x16 _ _ hC15), upd_same, by rw [sizeLine_eq]; simp; omega, fun aW nW => ?_⟩
      have x18 := Ext.new (o := HO.lst (wC ++ [.ref y])) nW
      have hW18 := upd_same (H := upd H16 p17 (.lst [.ref y])) (a := aW) (o := HO.lst (wC ++ [.ref y]))
      have xx := (x16.trans x17).trans x18
      have cla : ClA cH cL key dp (upd (upd H16 p17 (.lst [.ref y])) aW (.lst (wC ++ [.ref y]))) (wC ++ [.ref y]) := by
        refine ⟨fun j hj => ?_, y, by rw [List.getElem?_append_right (by omega), cl]; rfl, hy.up (x17.trans x18).gr⟩
        obtain ⟨x, e1, e2⟩ := ho j hj
        exact ⟨x, by rw [List.getElem?_append_left (by omega)]; exact e1, e2.up xx.gr⟩
      have x1418 := x15.trans xx
      have hWS : aW ≠ aS := by
        obtain ⟨xs, hxs, _⟩ := hS14
        rintro rfl
        rw [(x15.trans (x16.trans x17)) _ _ hxs] at nW
        cases nW
      generalize upd (upd H16 p17 (.lst [.ref y])) aW (.lst (wC ++ [.ref y])) = H18 at hW18 cla x1418 ⊢
      generalize wC ++ [.ref y] = wL at hW18 cla ⊢
      dsimp only [gName]
      refine ⟨4, rfl, by decide, by decide, ?_⟩
      refine for_range (n := 4) (fun i σ H' => Ext H11 H' ∧ H' pD = some (.tup [.int (D : Int), .int ((D : Int) + 1)]) ∧ ShR th D tr key H' aS ∧ H' aW = some (.lst wL) ∧ ClA cH cL key dp H' wL ∧ ∃ o9 o11, σ = [some (.int c), some (.int (D : Int)), some vt, some (.ref pT), some (.ref p5), some (.int key), some (.ref aP), some (.ref aS), some (.int (dp : Int)), o9, some (.ref aW), o11]) ⟨x14.trans x1418, x1418 _ _ hD14, hS14.up x1418, hW18, cla, _, _, rfl⟩ ?_ ?_
      · rintro k σ H19 hk ⟨x19, hD19, hS19, hW19, cla19, o9, o11, rfl⟩
        rw [show (0 : Int) + (k : Int) = (k : Int) by omega]
        dsimp only [gName]
        have hP19 := x19 _ _ hP11
        refine ⟨_, rfl, aP, rfl, ⟨_, SqL.of hP19⟩, ?_⟩
        refine comp_list (K := K) (xs := wP) (fun D' i ys H' => Ext H19 H' ∧ H' D' = some (.lst ys) ∧ ys = ((pps.take i).map (jgB th D tr key k dp)).map V.bl) (fun D' hD' => ⟨.new hD', upd_same, rfl⟩) (fun D' i ys H' hD' h => SqL.of (h.1 _ _ hP19)) ?_ ?_
        · rintro D' i' x' ys H20 Qb hD' hx' ⟨x20, hD20, rfl⟩ hQ
          obtain ⟨e, ee, hpa⟩ := pr_get2 la hx'
          have hpa := hpa.up (x19.trans x20)
          have x520 := (x5e.trans x19).trans x20
          have kp := hpa.kp (x520.t i35) gtb
          obtain ⟨_, _, _, _, _, _, _, _, _, _, _, _, _, hl20, _⟩ := hpa
          have cla20 := cla19.mv (H' := H20) (fun x C dx fl h => x20 _ _ h)
          have hpps : (pps.take (i' + 1)) = pps.take i' ++ [e] := by rw [List.take_succ, ee]; rfl
          have hi' : i' < wP.length := (List.getElem?_eq_some_iff.mp hx').1
          have fin : ∀ H21, Ext H20 H21 → Qb (.bl (jgB th D tr key k dp e)) H21 := fun H21 x21 => by
            refine hQ _ H21 (x21 _ _ hD20) (by rw [sizeLine_eq]; simp; omega) ⟨(x20.trans x21).own hD', upd_same, ?_⟩
            rw [hpps]; simp
          by_cases ck : k < 3
          · obtain ⟨x, e1, dx, e2⟩ := cla20.1 k ck
            refine .inl ⟨_, rfl, _, rfl, aW, _, _, _, rfl, rfl, SqL.of (x20 _ _ hW19), atI_nat (j := k) e1, x, dx, _, rfl, e2, rfl, _, rfl, _, rfl, ?_⟩
            refine ⟨x, fS, 1, 0, key, _, dp, th, _, x', "a", tblT D tr, some [], e.1, e.2, rfl, ⟨dx, e2⟩, ⟨rfl, hS, hSl⟩, cap_p, x520.t i5, gth, kp, by omega, by omega, by decide, fun H21 g21 => ?_⟩
            have := fin H21 (My.Gr.x g21)
            unfold jgB at this
            rw [if_pos ck] at this
            exact this
          · obtain ⟨x, e1, dx, e2⟩ := cla20.2
            have ek : k = 3 := by omega
            subst ek
            refine .inr ⟨_, rfl, _, rfl, aW, _, _, _, rfl, rfl, SqL.of (x20 _ _ hW19), atI_nat (j := 3) e1, x, dx, _, rfl, e2, rfl, _, rfl, _, rfl, ?_⟩
            refine ⟨x, fS, 1, 0, key, dp, th, _, x', "a", tblT D tr, some [], e.1, e.2, rfl, ⟨dx, e2⟩, ⟨rfl, hS, hSl⟩, cap_p, x520.t i5, gth, kp, by omega, by omega, by decide, fun H21 g21 => ?_⟩
            have := fin H21 (My.Gr.x g21)
            unfold jgB at this
            rw [if_neg ck] at this
            exact this
        rintro aR ys H20 hR ⟨x20, hR20, rfl⟩
        have et : pps.take wP.length = pps := by rw [← wpl, List.take_length]
        rw [et] at hR20
        dsimp only [gName]
        refine ⟨_, rfl, aR, _, rfl, .inl (SqL.of hR20), rfl, flat_bls _, _, rfl, ?_⟩
        rw [if_neg Bool.false_ne_true, in_bls]
        have skip : Ext H11 H20 ∧ H20 pD = some (.tup [.int (D : Int), .int ((D : Int) + 1)]) ∧ ShR th D tr key H20 aS ∧ H20 aW = some (.lst wL) ∧ ClA cH cL key dp H20 wL := ⟨x19.trans x20, x20 _ _ hD19, hS19.up x20, x20 _ _ hW19, cla19.mv (fun x C dx fl h => x20 _ _ h)⟩
        obtain ⟨k1', k2', k3', k4', k5'⟩ := skip
        refine ite2 (fun cc => ?_) (fun _ => iteF ⟨k1', k2', k3', k4', k5', _, _, rfl⟩)
        obtain ⟨e0, he0⟩ : ∃ e, jgB th D tr key k dp e = true := by
          rw [List.any_eq_true] at cc
          obtain ⟨b, hb, e⟩ := cc
          obtain ⟨e', _, rfl⟩ := List.mem_map.mp hb
          exact ⟨e', e⟩
        obtain ⟨xs, hxs, hsh⟩ := id k3'
        have fl : xs.all flatV = true := by
          rcases hsh with rfl | ⟨k', rfl, _⟩ <;> rfl
        refine ⟨_, rfl, _, rfl, aS, xs, rfl, .inl (SqL.of hxs), rfl, fl, _, rfl, ?_⟩
        rw [if_pos rfl]
        rcases hsh with rfl | ⟨k', rfl, hk', dp', e', he'⟩
        · refine iteT ⟨_, rfl, .inl ⟨rfl, _, SqL.of hxs⟩, _, rfl, aS, _, _, rfl, rfl, hxs, by rw [sizeLine_eq]; simp, ?_⟩
          have g : ∀ u, Gn .plain 0 H20 (upd H20 aS u) := fun u => Gn.chg told_p hxs rfl (fun _ e => nomatch e)
          exact ⟨k1'.own nS, (g _).keep _ _ k2' rfl, ⟨_, upd_same, .inr ⟨k, rfl, hk, dp, e0, he0⟩⟩, by rw [upd_ne hWS]; exact k4', k5'.mv (ins_chg hxs), _, _, rfl⟩
        · have ek := jg_uni he0 he' hk hk'
          subst ek
          have ei : inV (.int (k : Int)) [.int (k : Int)] = true := by
            show (eqV (.int (k : Int)) (.int (k : Int)) || false) = true
            simp [eqV]
          rw [ei]
          exact iteF ⟨k1', k2', k3', k4', k5', _, _, rfl⟩
      · rintro σ H19 ⟨x19, hD19, hS19, hW19, cla19, o9', o11', rfl⟩
        exact ⟨x19, hD19, hS19, _, _, _, _, rfl⟩
    · rintro σ H14 ⟨x14, hD14, ⟨xs, hxs, hsh⟩, o8', o9', o10', o11', rfl⟩
      refine ⟨_, rfl, aS, xs, rfl, .inl (SqL.of hxs), _, _, rfl, rfl, _, rfl, ?_⟩
      have l1 : xs.length ≤ 1 := by rcases hsh with rfl | ⟨k', rfl, _⟩ <;> simp
      rw [decide_eq_false (by omega : ¬ (1 : Int) < ((xs.length : Nat) : Int))]
      exact iteF ⟨x8e.trans x14, _, _, _, _, _, _, _, rfl⟩
  · rintro σ H9 ⟨x9, _⟩
    exact q H9 ((x05.trans x58).trans x9)
end
end My
namespace My
open PySem L2
def spLaw (K : PySem.W.Frag) (mg : Str → Option Value) (Pt : Addr) : Sp := fun vs H Q _ => ∃ (a : Addr) (ns : List Int), vs = [.ref a] ∧ SqF K H a (ns.map V.int) ∧ ns.length ≤ 63 ∧ ∀ H', Q (.bl true) H'
section
variable {P : Program} {w : World} {K : PySem.W.Frag} {mg : Str → Option Value} {base : Heap} {cS cC cG cD cH cL : Addr}
theorem scL : FnScope ["_law_script", "_law_at", "_law_cell"] ["_law_script"] (defScope sLaw) := ⟨rfl, rfl, rfl, by decide +kernel, rfl, by decide +kernel, by decide +kernel⟩
theorem ok_law {Pt : Addr} (F : FunAt K mg "law" sLaw) (Fs : FnP P w K mg base 60 "_law_stands" ["_law_cell"] spTrue) (Fg : FnP P w K mg base 60 "_law_grows" ["_law_cell"] spTrue) (Fk : FnP P w K mg base 60 "_law_keys" ["_law_cell"] spTrue) (ml : mg "len" = none) (mr : mg "range" = none) (mm : mg "min" = none) : FnP P w K mg base 100 "law" ["_law_script"] (spLaw K mg Pt) := by
  refine F.ok scL (fun _ _ _ _ _ _ us hl => match us, hl with | [_], _ => rfl) (fun vs H Q E h => ?_) (fun f0 cdv A outer s H vs Q E hr h => ?_)
  · obtain ⟨a, ns, rfl, _⟩ := h; rfl
  obtain ⟨a, ns, rfl, hq, h63, q⟩ := h
  have nd := scL.nd
  refine ⟨_, pss_cons (ps_for PassesOwn.never rfl (pi_range1 rfl mr (pa_cons (pe_callB (call_min2 rfl) rfl mm PyProof.Rows.boot_min (pa_cons (pe_callB call_len_seq rfl ml PySem.boot_len (pa_cons (pv 0) pa_nil)) (pa_cons pe_int pa_nil))) pa_nil)) (pg_name (i := 1) nd rfl (Or.inl rfl)) <|
      pss_cons (ps_set (i := 2) nd rfl (Or.inl rfl) (pe_op op_add (pe_ix ix_list (pv 0) (pv 1) (fun _ _ => rfl)) (pe_op op_mul pe_int (pv 1)))) <|
      pss_one (ps_if (PW.pt (pw_or (pt_not (pt_val (pe_callN Fs (hr.mono (by omega)) rfl (pa_cons (pv 2) pa_nil)))) (pw_or (pt_not (pt_val (pe_callN Fg (hr.mono (by omega)) rfl (pa_cons (pv 2) pa_nil)))) (pw_or1 (pt_not (pt_val (pe_callN Fk (hr.mono (by omega)) rfl (pa_cons (pv 2) pa_nil)))))))) (pss_one (ps_ret pe_bl)) pss_nil)) <|
    pss_one (ps_ret pe_bl), ?_⟩
  refine ⟨_, rfl, a, _, rfl, .inl hq.sq, _, _, rfl, ?_⟩
  obtain ⟨n, hn, n1, n2⟩ : ∃ n : Nat, (if (9 : Int) < (((ns.map V.int).length : Nat) : Int) then (9 : Int) else (((ns.map V.int).length : Nat) : Int)) = (n : Int) ∧ n ≤ ns.length ∧ n ≤ 9 := by
    rw [List.length_map]
    by_cases c : (9 : Int) < ((ns.length : Nat) : Int)
    · rw [if_pos c]; exact ⟨9, rfl, by omega, by omega⟩
    · rw [if_neg c]; exact ⟨ns.length, rfl, by omega, by omega⟩
  rw [hn]
  refine ⟨_, rfl, by omega, by omega, ?_⟩
  rw [show ((n : Nat) : Int).toNat = n from rfl]
  refine for_range (n := n) (fun i σ H' => Ext H H' ∧ ∃ o1 o2, σ = [some (.ref a), o1, o2]) ⟨Ext.refl, none, none, rfl⟩ ?_ ?_
  · rintro i σ H1 hi ⟨x1, o1, o2, rfl⟩
    have hq1 := hq.up x1.gr.gn
    have ei : ((ns.map V.int))[i]? = some (.int (ns[i]'(by omega))) := by rw [List.getElem?_map, List.getElem?_eq_getElem (by omega)]; rfl
    rw [show (0 : Int) + (i : Int) = (i : Int) by omega]
    dsimp only [gName]
    refine ⟨_, rfl, _, rfl, a, _, _, _, rfl, rfl, hq1.sq, atI_nat (j := i) ei, _, rfl, _, _, rfl, rfl, .inl ⟨by decide, by decide⟩, _, _, rfl, rfl, ?_⟩
    refine ⟨_, rfl, _, rfl, fun H2 x2 => ⟨_, rfl, iteF ?_⟩⟩
    refine ⟨_, rfl, _, rfl, fun H3 x3 => ⟨_, rfl, iteF ?_⟩⟩
    exact ⟨_, rfl, _, rfl, fun H4 x4 => ⟨_, rfl, iteF ⟨((x1.trans x2).trans x3).trans x4, _, _, rfl⟩⟩⟩
  · rintro σ H1 ⟨x1, _⟩
    exact q H1
theorem all_ok {Pt cP : Addr} (F_split : FunAt K mg "split" sSplit) (F_none : FunAt K mg "none_seal" sNone) (F_leaf : FunAt K mg "leaf_seal" sLeafS) (F_pair : FunAt K mg "pair_seal" sPair) (F_book : FunAt K mg "book_seal" sBook) (F_turns : FunAt K mg "turns_of" sTurns) (F_risen : FunAt K mg "risen" sRisen) (F_gturns : FunAt K mg "growth_turns" sGturns) (F_grown : FunAt K mg "grown" sGrown)
    (F_row : FunAt K mg "row_seal" sRow) (F_fork : FunAt K mg "fork_seal" sFork) (F_tabs : FunAt K mg "table_seal" sTabS) (F_ind : FunAt K mg "in_depth" sInD) (F_same : FunAt K mg "same" sSame) (F_lst : FunAt K mg "leaf_stands" sLStands) (F_isn : FunAt K mg "is_number" sIsNum) (F_ise : FunAt K mg "is_end" sIsEnd) (F_isw : FunAt K mg "is_way" sIsWay) (F_isk : FunAt K mg "is_key_paper" sIsKP) (F_fits : FunAt K mg "way_fits" sWayFits) (F_topw : FunAt K mg "top_of_way" sTopW) (F_wst : FunAt K mg "way_stands" sWStands)
    (F_seal : FunAt K mg "_law_seal" sLSeal) (F_draw : FunAt K mg "_law_draw" sDraw) (F_some : FunAt K mg "_law_some" sSome) (F_lsplit : FunAt K mg "_law_split" sLsplit) (F_lris : FunAt K mg "_law_risen" sLrisen) (F_lreg : FunAt K mg "_law_regrown" sLregrown) (F_lsta : FunAt K mg "_law_stands" sLstands) (F_lgro : FunAt K mg "_law_grows" sLgrows) (F_ltree : FunAt K mg "_law_tree" sLtree) (F_ldown : FunAt K mg "_law_down" sLdown) (F_lkeys : FunAt K mg "_law_keys" sLkeys) (F_law : FunAt K mg "law" sLaw)
    (ml : mg "len" = none) (mli : mg "list" = none) (mr : mg "range" = none) (mi : mg "isinstance" = none) (mt : mg "tuple" = none) (mz : mg "zip" = none) (mre : mg "reversed" = none) (mb : mg "bool" = none) (mm : mg "min" = none) (mn : mg "int" = none) (ms : mg "str" = none)
    (xc : XCls K cP) (hP : mg "BadPaper" = some (.ref cP))
    (TG : TxG K mg cG cD) (MG : ∃ fI, Mk K cG fI) (G_init : MethAt K cG "__init__" "Grows.__init__" mGInit) (G_judged : MethAt K cG "judged" "Grows.judged" mGJudged) (G_none : MethAt K cG "judged_from_none" "Grows.judged_from_none" mGNone)
    (TS : TxS K mg cS cC) (MS : ∃ fI, Mk K cS fI) (S_init : MethAt K cS "__init__" "Stands.__init__" mSInit) (S_judged : MethAt K cS "judged" "Stands.judged" mSJudged)
    (TH : TxH K mg cH) (MH : ∃ fI, Mk K cH fI) (H_init : MethAt K cH "__init__" "Holds.__init__" mHInit) (H_judged : MethAt K cH "judged" "Holds.judged" mHJudged)
    (TL : TxL K mg cL) (ML : ∃ fI, Mk K cL fI) (L_init : MethAt K cL "__init__" "Lacks.__init__" mLInit) (L_judged : MethAt K cL "judged" "Lacks.judged" mLJudged) : FnP P w K mg base 100 "law" ["_law_script"] (spLaw K mg Pt) := by
  have Pl := ok_plain (P := P) (w := w) (base := base) F_seal
  have Sl := seal_ok Pl
  obtain ⟨fS, fdS, hS, _, _, _, oc, od, sl, hl⟩ := Pl
  have hSl : ∃ oc od fd sl, K.lookup fS = some ⟨oc, od, .func fd, sl⟩ := ⟨oc, od, fdS, sl, hl⟩
  have Sp := ok_split (P := P) (w := w) (base := base) F_split
  have Lsp := ok_lsplit (P := P) (w := w) (base := base) F_lsplit
  have No := ok_none (P := P) (w := w) (base := base) F_none Sl
  have Pa := ok_pair (P := P) (w := w) (base := base) F_pair Sl
  have Bk := ok_book (P := P) (w := w) (base := base) F_book Sl
  have Lf := ok_leafS (P := P) (w := w) (base := base) F_leaf Sl
  have Sm := ok_same (P := P) (w := w) (base := base) F_same mb
  have Ri := ok_risen F_risen (ok_turns F_turns Sp) Pa xc hP ml mli mi mz mre kit_ll
  have Gw := ok_grown F_grown (ok_gturns F_gturns Sp) Pa xc hP ml mli mi mz mre
  have Dr := ok_draw (P := P) (w := w) (base := base) F_draw
  have Gj := ok_gjudged G_judged TG Gw Bk Sm .int 20 (ok_gnone G_none TG No Bk Sm ml mli mi .int 20) xc hP
  have Sj := ok_sjudged S_judged TS Lf .int 20 (ok_lstands F_lst Ri Bk Sm xc hP .int 20)
  have So := ok_some F_some Dr
  have Wf := ok_fit .plain F_fits (ok_ind (P := P) (w := w) (base := base) F_ind) ml
  have Tw := ok_topW F_topw No (ok_row F_row Sl) (ok_fork F_fork Sl) ml mre
  have Ws := ok_wst .nd .plain 30 (by omega) (by omega) rfl F_wst Wf (ok_tabS F_tabs Sl) Tw Sm Lf (ok_lstands F_lst Ri Bk Sm xc hP .nd 55)
  have Ik := ok_iskp .nd .plain 30 F_isk (ok_isway .plain F_isw (ok_isend F_ise (ok_isnum (P := P) (w := w) (base := base) F_isn mi mn mb) ml mi mt ms) ml mi mt mli) ml mi mt ms
  have Tr : FnP P w K mg base 6 "_law_tree" ["_law_cell", "_law_depth"] spLTa := FnP.any (n := 4) (sp := spLT) fun b hb => (ok_ltree F_ltree Dr b).mono (by omega)
  exact ok_law F_law (ok_lstands14 F_lsta Dr So (ok_lrisen F_lris Lsp ml 5 (by omega)) TS MS (ok_sinit S_init TS) Sj hS hSl ml mli mr) (ok_lgrows14 F_lgro Dr So (ok_lregrown F_lreg Lsp ml 5 (by omega)) TG MG (ok_ginit G_init TG) Gj hS hSl mli mr)
    (ok_lkeys F_lkeys Dr Tr (ok_ldown F_ldown) TH TL MH ML (ok_hinit H_init TH) (ok_linit L_init TL) (ok_hjudged .nd .plain 30 H_judged TH Ik Sm Ws) (ok_ljudged .nd .plain 30 L_judged TL Ik Ws) hS hSl ml mr) ml mr mm
end
theorem err_mk {K : PySem.W.Frag} {mg : Str → Option Value} {h : Heap} (X : K.In h) (G : h.Ns mainGlobals mg) {cP cB N : Addr} {nm q : Str} {bs : List Value} {hdct : Bool} {sn : List Str} {sub : List Value} {ab : Bool} {col : Option Bool} {dd dB dn1 dn2 : Option Addr} {k0 k1 k2 k3 k5 : Option Value} {cdB : ClassData} {slB sn1 sn2 : Array (Option Value)} {cn1 cn2 : Value} {es1 es2 : Array DictEntry} {ep1 ep2 : Nat}
    (a1 : PySem.W.nsIn K mainGlobals "BadPaper" = some (some (.ref cP)))
    (lB : K.lookup cB = some ⟨.type "type", dB, .cls cdB, slB⟩)
    (lk : K.lookup cP = some (excClassObj nm q cP N bs (.ref cB :: bmVE) hdct sn sub ab col dd k0 k1 k2 k3 k5 "ValueError.__new__"))
    (l1 : K.lookup N = some ⟨cn1, dn1, .dict es1 ep1, sn1⟩) (l2 : K.lookup cdB.ns = some ⟨cn2, dn2, .dict es2 ep2, sn2⟩) (e1 : (es1.toList.all fun e => match e.key with | .str _ _ => true | _ => false) = true) (e2 : (es2.toList.all fun e => match e.key with | .str _ _ => true | _ => false) = true)
    (b1 : PySem.W.nsIn K N "__init__" = some none) (b2 : PySem.W.nsIn K N "__getattribute__" = some none) (b3 : PySem.W.nsIn K N "__getattr__" = some none) (b4 : PySem.W.nsIn K N "args" = some none)
    (c1 : PySem.W.nsIn K cdB.ns "__init__" = some none) (c2 : PySem.W.nsIn K cdB.ns "__getattribute__" = some none) (c3 : PySem.W.nsIn K cdB.ns "__getattr__" = some none) (c4 : PySem.W.nsIn K cdB.ns "args" = some none)
    (ga : PySem.W.findIn K (.ref cP) "__getattribute__" = some (some (.builtin "BaseException.__getattribute__"))) (gn : PySem.W.findIn K (.ref cP) "__getattr__" = some none)
    (fo : PySem.W.findIn K (.ref cP) "__class__" = some (some (.builtin "object.__class__"))) (sp : PySem.W.specialIn K (.builtin "object.__class__") "__get__" = some (some (.builtin "getset_descriptor.__get__")))
    (tk : PySem.W.takesIn K (.builtin "object.__class__") = some true) (mo : PySem.W.mroIn K cP (.type "object") = some true) : ∃ cP, XCls K cP ∧ mg "BadPaper" = some (.ref cP) :=
  ⟨cP, xcls_mk lk (QuietAt.q ⟨nsOk_of l1 e1, b1, b2, b3, b4⟩) (tailQ_one lB ⟨nsOk_of l2 e2, c1, c2, c3, c4⟩) (by simp) ga gn fo sp tk mo, PySem.W.mg_of X G a1⟩
theorem st_mk {K : PySem.W.Frag} {mg : Str → Option Value} {h : Heap} {C fI cC : Addr} {dB : Option Addr} {cdB : ClassData} {slB : Array (Option Value)} (X : K.In h) (G : h.Ns mainGlobals mg) (aC : PySem.W.nsIn K mainGlobals "Stands" = some (some (.ref C)))
    (pg : PySem.W.plainGet K C Str.empty = true) (hd : PySem.W.hasDictIn K C = true) (po : PySem.W.plainOver K C = true) (sa : PySem.W.findIn K (.ref C) "__setattr__" = some (some (.builtin "object.__setattr__"))) (mk : PySem.W.makesIn K C = true) (kc : PySem.W.keepIn K (.ref C) = true)
    (n0 : PySem.W.findIn K (.ref C) "place" = some none) (n1 : PySem.W.findIn K (.ref C) "entry" = some none) (n2 : PySem.W.findIn K (.ref C) "behind" = some none)
    (aI : PySem.W.findIn K (.ref C) "__init__" = some (some (.ref fI))) (iI : PySem.W.isFn K (.ref fI) = true)
    (aB : PySem.W.nsIn K mainGlobals "Claim" = some (some (.ref cC))) (lB : K.lookup cC = some ⟨.type "type", dB, .cls cdB, slB⟩)
    (fo : PySem.W.findIn K (.ref C) "__class__" = some (some (.builtin "object.__class__"))) (sp : PySem.W.specialIn K (.builtin "object.__class__") "__get__" = some (some (.builtin "getset_descriptor.__get__")))
    (tk : PySem.W.takesIn K (.builtin "object.__class__") = some true) (mo : PySem.W.mroIn K C (.type "object") = some true) (kB : PySem.W.mroIn K C (.ref cC) = some true) (ne : C ≠ cC)
    (M_init : MethAt K C "__init__" "Stands.__init__" mSInit) (M_judged : MethAt K C "judged" "Stands.judged" mSJudged) :
    ∃ C cC, TxS K mg C cC ∧ (∃ fI, Mk K C fI) ∧ MethAt K C "__init__" "Stands.__init__" mSInit ∧ MethAt K C "judged" "Stands.judged" mSJudged :=
  ⟨C, cC, ⟨⟨pg, hd, po, sa⟩, n0, n1, n2, PySem.W.mg_of X G aC, PySem.W.mg_of X G aB, fo, sp, tk, mo, kit_ref ne lB kB⟩, ⟨fI, mk, aI, iI, kc⟩, M_init, M_judged⟩
theorem gw_mk {K : PySem.W.Frag} {mg : Str → Option Value} {h : Heap} {C fI cC : Addr} {dB : Option Addr} {cdB : ClassData} {slB : Array (Option Value)} (X : K.In h) (G : h.Ns mainGlobals mg) (aC : PySem.W.nsIn K mainGlobals "Grows" = some (some (.ref C)))
    (pg : PySem.W.plainGet K C Str.empty = true) (hd : PySem.W.hasDictIn K C = true) (po : PySem.W.plainOver K C = true) (sa : PySem.W.findIn K (.ref C) "__setattr__" = some (some (.builtin "object.__setattr__"))) (mk : PySem.W.makesIn K C = true) (kc : PySem.W.keepIn K (.ref C) = true)
    (n0 : PySem.W.findIn K (.ref C) "old" = some none) (n1 : PySem.W.findIn K (.ref C) "early" = some none)
    (aI : PySem.W.findIn K (.ref C) "__init__" = some (some (.ref fI))) (iI : PySem.W.isFn K (.ref fI) = true)
    (aB : PySem.W.nsIn K mainGlobals "Claim" = some (some (.ref cC))) (lB : K.lookup cC = some ⟨.type "type", dB, .cls cdB, slB⟩)
    (fo : PySem.W.findIn K (.ref C) "__class__" = some (some (.builtin "object.__class__"))) (sp : PySem.W.specialIn K (.builtin "object.__class__") "__get__" = some (some (.builtin "getset_descriptor.__get__")))
    (tk : PySem.W.takesIn K (.builtin "object.__class__") = some true) (mo : PySem.W.mroIn K C (.type "object") = some true) (kB : PySem.W.mroIn K C (.ref cC) = some true) (ne : C ≠ cC)
    (M_init : MethAt K C "__init__" "Grows.__init__" mGInit) (M_judged : MethAt K C "judged" "Grows.judged" mGJudged) (M_none : MethAt K C "judged_from_none" "Grows.judged_from_none" mGNone) :
    ∃ C cC, TxG K mg C cC ∧ (∃ fI, Mk K C fI) ∧ MethAt K C "__init__" "Grows.__init__" mGInit ∧ MethAt K C "judged" "Grows.judged" mGJudged ∧ MethAt K C "judged_from_none" "Grows.judged_from_none" mGNone :=
  ⟨C, cC, ⟨⟨pg, hd, po, sa⟩, n0, n1, PySem.W.mg_of X G aC, PySem.W.mg_of X G aB, fo, sp, tk, mo, kit_ref ne lB kB⟩, ⟨fI, mk, aI, iI, kc⟩, M_init, M_judged, M_none⟩
theorem ho_mk {K : PySem.W.Frag} {mg : Str → Option Value} {h : Heap} {C fI : Addr} (X : K.In h) (G : h.Ns mainGlobals mg) (aC : PySem.W.nsIn K mainGlobals "Holds" = some (some (.ref C)))
    (pg : PySem.W.plainGet K C Str.empty = true) (hd : PySem.W.hasDictIn K C = true) (po : PySem.W.plainOver K C = true) (sa : PySem.W.findIn K (.ref C) "__setattr__" = some (some (.builtin "object.__setattr__"))) (mk : PySem.W.makesIn K C = true) (kc : PySem.W.keepIn K (.ref C) = true)
    (n0 : PySem.W.findIn K (.ref C) "place" = some none) (n1 : PySem.W.findIn K (.ref C) "key" = some none) (n2 : PySem.W.findIn K (.ref C) "wanted" = some none) (n3 : PySem.W.findIn K (.ref C) "depth" = some none)
    (aI : PySem.W.findIn K (.ref C) "__init__" = some (some (.ref fI))) (iI : PySem.W.isFn K (.ref fI) = true)
    (M_init : MethAt K C "__init__" "Holds.__init__" mHInit) (M_judged : MethAt K C "judged" "Holds.judged" mHJudged) :
    ∃ C, TxH K mg C ∧ (∃ fI, Mk K C fI) ∧ MethAt K C "__init__" "Holds.__init__" mHInit ∧ MethAt K C "judged" "Holds.judged" mHJudged :=
  ⟨C, ⟨⟨pg, hd, po, sa⟩, n0, n1, n2, n3, PySem.W.mg_of X G aC⟩, ⟨fI, mk, aI, iI, kc⟩, M_init, M_judged⟩
theorem la_mk {K : PySem.W.Frag} {mg : Str → Option Value} {h : Heap} {C fI : Addr} (X : K.In h) (G : h.Ns mainGlobals mg) (aC : PySem.W.nsIn K mainGlobals "Lacks" = some (some (.ref C)))
    (pg : PySem.W.plainGet K C Str.empty = true) (hd : PySem.W.hasDictIn K C = true) (po : PySem.W.plainOver K C = true) (sa : PySem.W.findIn K (.ref C) "__setattr__" = some (some (.builtin "object.__setattr__"))) (mk : PySem.W.makesIn K C = true) (kc : PySem.W.keepIn K (.ref C) = true)
    (n0 : PySem.W.findIn K (.ref C) "place" = some none) (n1 : PySem.W.findIn K (.ref C) "key" = some none) (n2 : PySem.W.findIn K (.ref C) "depth" = some none)
    (aI : PySem.W.findIn K (.ref C) "__init__" = some (some (.ref fI))) (iI : PySem.W.isFn K (.ref fI) = true)
    (M_init : MethAt K C "__init__" "Lacks.__init__" mLInit) (M_judged : MethAt K C "judged" "Lacks.judged" mLJudged) :
    ∃ C, TxL K mg C ∧ (∃ fI, Mk K C fI) ∧ MethAt K C "__init__" "Lacks.__init__" mLInit ∧ MethAt K C "judged" "Lacks.judged" mLJudged :=
  ⟨C, ⟨⟨pg, hd, po, sa⟩, n0, n1, n2, PySem.W.mg_of X G aC⟩, ⟨fI, mk, aI, iI, kc⟩, M_init, M_judged⟩
end My
namespace PySem.W.Fast
def tw18379477507018558255 := ()
def tw7537893916917651565 := ()
def tw3301230080836314913 := ()
def tw9419508316463523913 := ()
def tw13432883266810971423 := ()
def tw16403122229548618316 := ()
def tw17770383239607326140 := ()
def tw13089342504700041812 := ()
def tw8221530587589382297 := ()
def tw16551613776630677415 := ()
def tw8290491765078303702 := ()
def tw11616711462900227411 := ()
def tw1973238797160777542 := ()
def tw14726542648740670562 := ()
def tw10064592257893714771 := ()
def tw14716830532864072366 := ()
def tw9853417397794570184 := ()
def tw17439353181053832482 := ()
def tw3990716207364371523 := ()
def tw10650500517940605119 := ()
def tw10799997983982658054 := ()
def tw4636199730611306611 := ()
def tw875110083861982087 := ()
def tw9762114683977457506 := ()
def tw5169127226592268801 := ()
def tw7133712626156292408 := ()
def tw8805904759497907524 := ()
def tw528373090290685517 := ()
def tw2377522666548354424 := ()
def tw12149580512927915925 := ()
def tw16820004431141563597 := ()
def tw13231270353356808427 := ()
def tw14521485965392678248 := ()
def tw2332721081592035963 := ()
def tw18107257727215339713 := ()
def tw14901460654409777779 := ()
def tw7616709063297545415 := ()
def tw3309388615612682678 := ()
def tw17900204279973002944 := ()
def tw13605842256607249115 := ()
def tw14768362064737949364 := ()
def tw3376004318429154733 := ()
def tw15234070763862972657 := ()
def tw4259903971536753904 := ()
def tw15717722232749445204 := ()
def tw13932910503901666907 := ()
def tw5291231346699616211 := ()
def tw10793132716181492037 := ()
def tw4822548107546924925 := ()
def tw16867707484034578323 := ()
def tw398587854028125602 := ()
def tw8860743190083564544 := ()
def tw8861143528582430856 := ()
def tw11146760115683919579 := ()
def tw5980529888365105516 := ()
def tw4597351697662599659 := ()
def tw13013476073533455340 := ()
def tw13647662694941916948 := ()
def tw1369702703244559033 := ()
def tw12640186696724205275 := ()
def tw12057141212801848194 := ()
def tw16641400061856062436 := ()
def tw8802668067493408511 := ()
def tw7314542901151851030 := ()
def tw17712105454169468803 := ()
def tw4095925603527118248 := ()
def tw134011582803616395 := ()
end PySem.W.Fast
open PySem PySem.W PyProof.Rows
set_option maxRecDepth 100000 in
set_option maxHeartbeats 0 in
theorem PySem.Challenge.cw_growbook_k14_no_two_holds : PySem.Challenge.rw_growbook_k14_no_two.Holds := by
  w_on; o_law; k_head; (case hw => w_witness2)
  k_fill
  refine' L2.walk_ofT (l := PySem.Challenge.rw_growbook_k14_no_two) (n := 63) (k := 100) (x := "_law_script") (xn := "law") (sp := My.spLaw) rfl (by decide) rfl ⟨rfl, by decide, by decide⟩ (fun w h Y => PySem.W.kIn_of Y) rfl ?ht ?hnt ?F ?S
  case ht =>
    intro w
    refine' L2.tabIn_mk ?a ?l ?c ?lc ?v
    (case a => k_is); (case l => k_is); (case c => exact rfl); (case lc => k_is); (case v => exact rfl)
  case hnt => intro w; kernel_rfl
  case F =>
    intro w mg fa h KX G hmg TB
    have F_split : L2.FunAt (L2.KOf KX) mg "split" My.sSplit := by
      dsimp only [L2.KOf]
      refine' L2.funAt_mk KX G ?a ?l ?c ?k
      case a | l | c | k => k_is
    have F_none : L2.FunAt (L2.KOf KX) mg "none_seal" My.sNone := by
      dsimp only [L2.KOf]
      refine' L2.funAt_mk KX G ?a ?l ?c ?k
      case a | l | c | k => k_is
    have F_leaf : L2.FunAt (L2.KOf KX) mg "leaf_seal" My.sLeafS := by
      dsimp only [L2.KOf]
      refine' L2.funAt_mk KX G ?a ?l ?c ?k
      case a | l | c | k => k_is
    have F_pair : L2.FunAt (L2.KOf KX) mg "pair_seal" My.sPair := by
      dsimp only [L2.KOf]
      refine' L2.funAt_mk KX G ?a ?l ?c ?k
      case a | l | c | k => k_is
    have F_book : L2.FunAt (L2.KOf KX) mg "book_seal" My.sBook := by
      dsimp only [L2.KOf]
      refine' L2.funAt_mk KX G ?a ?l ?c ?k
      case a | l | c | k => k_is
    have F_turns : L2.FunAt (L2.KOf KX) mg "turns_of" My.sTurns := by
      dsimp only [L2.KOf]
      refine' L2.funAt_mk KX G ?a ?l ?c ?k
      case a | l | c | k => k_is
    have F_risen : L2.FunAt (L2.KOf KX) mg "risen" My.sRisen := by
      dsimp only [L2.KOf]
      refine' L2.funAt_mk KX G ?a ?l ?c ?k
      case a | l | c | k => k_is
    have F_gturns : L2.FunAt (L2.KOf KX) mg "growth_turns" My.sGturns := by
      dsimp only [L2.KOf]
      refine' L2.funAt_mk KX G ?a ?l ?c ?k
      case a | l | c | k => k_is
    have F_grown : L2.FunAt (L2.KOf KX) mg "grown" My.sGrown := by
      dsimp only [L2.KOf]
      refine' L2.funAt_mk KX G ?a ?l ?c ?k
      case a | l | c | k => k_is
    have F_row : L2.FunAt (L2.KOf KX) mg "row_seal" My.sRow := by
      dsimp only [L2.KOf]
      refine' L2.funAt_mk KX G ?a ?l ?c ?k
      case a | l | c | k => k_is
    have F_fork : L2.FunAt (L2.KOf KX) mg "fork_seal" My.sFork := by
      dsimp only [L2.KOf]
      refine' L2.funAt_mk KX G ?a ?l ?c ?k
      case a | l | c | k => k_is
    have F_tabs : L2.FunAt (L2.KOf KX) mg "table_seal" My.sTabS := by
      dsimp only [L2.KOf]
      refine' L2.funAt_mk KX G ?a ?l ?c ?k
      case a | l | c | k => k_is
    have F_ind : L2.FunAt (L2.KOf KX) mg "in_depth" My.sInD := by
      dsimp only [L2.KOf]
      refine' L2.funAt_mk KX G ?a ?l ?c ?k
      case a | l | c | k => k_is
    have F_same : L2.FunAt (L2.KOf KX) mg "same" My.sSame := by
      dsimp only [L2.KOf]
      refine' L2.funAt_mk KX G ?a ?l ?c ?k
      case a | l | c | k => k_is
    have F_lst : L2.FunAt (L2.KOf KX) mg "leaf_stands" My.sLStands := by
      dsimp only [L2.KOf]
      refine' L2.funAt_mk KX G ?a ?l ?c ?k
      case a | l | c | k => k_is
    have F_isn : L2.FunAt (L2.KOf KX) mg "is_number" My.sIsNum := by
      dsimp only [L2.KOf]
      refine' L2.funAt_mk KX G ?a ?l ?c ?k
      case a | l | c | k => k_is
    have F_ise : L2.FunAt (L2.KOf KX) mg "is_end" My.sIsEnd := by
      dsimp only [L2.KOf]
      refine' L2.funAt_mk KX G ?a ?l ?c ?k
      case a | l | c | k => k_is
    have F_isw : L2.FunAt (L2.KOf KX) mg "is_way" My.sIsWay := by
      dsimp only [L2.KOf]
      refine' L2.funAt_mk KX G ?a ?l ?c ?k
      case a | l | c | k => k_is
    have F_isk : L2.FunAt (L2.KOf KX) mg "is_key_paper" My.sIsKP := by
      dsimp only [L2.KOf]
      refine' L2.funAt_mk KX G ?a ?l ?c ?k
      case a | l | c | k => k_is
    have F_fits : L2.FunAt (L2.KOf KX) mg "way_fits" My.sWayFits := by
      dsimp only [L2.KOf]
      refine' L2.funAt_mk KX G ?a ?l ?c ?k
      case a | l | c | k => k_is
    have F_topw : L2.FunAt (L2.KOf KX) mg "top_of_way" My.sTopW := by
      dsimp only [L2.KOf]
      refine' L2.funAt_mk KX G ?a ?l ?c ?k
      case a | l | c | k => k_is
    have F_wst : L2.FunAt (L2.KOf KX) mg "way_stands" My.sWStands := by
      dsimp only [L2.KOf]
      refine' L2.funAt_mk KX G ?a ?l ?c ?k
      case a | l | c | k => k_is
    have F_seal : L2.FunAt (L2.KOf KX) mg "_law_seal" My.sLSeal := by
      dsimp only [L2.KOf]
      refine' L2.funAt_mk KX G ?a ?l ?c ?k
      case a | l | c | k => k_is
    have F_draw : L2.FunAt (L2.KOf KX) mg "_law_draw" My.sDraw := by
      dsimp only [L2.KOf]
      refine' L2.funAt_mk KX G ?a ?l ?c ?k
      case a | l | c | k => k_is
    have F_some : L2.FunAt (L2.KOf KX) mg "_law_some" My.sSome := by
      dsimp only [L2.KOf]
      refine' L2.funAt_mk KX G ?a ?l ?c ?k
      case a | l | c | k => k_is
    have F_lsplit : L2.FunAt (L2.KOf KX) mg "_law_split" My.sLsplit := by
      dsimp only [L2.KOf]
      refine' L2.funAt_mk KX G ?a ?l ?c ?k
      case a | l | c | k => k_is
    have F_lris : L2.FunAt (L2.KOf KX) mg "_law_risen" My.sLrisen := by
      dsimp only [L2.KOf]
      refine' L2.funAt_mk KX G ?a ?l ?c ?k
      case a | l | c | k => k_is
    have F_lreg : L2.FunAt (L2.KOf KX) mg "_law_regrown" My.sLregrown := by
      dsimp only [L2.KOf]
      refine' L2.funAt_mk KX G ?a ?l ?c ?k
      case a | l | c | k => k_is
    have F_lsta : L2.FunAt (L2.KOf KX) mg "_law_stands" My.sLstands := by
      dsimp only [L2.KOf]
      refine' L2.funAt_mk KX G ?a ?l ?c ?k
      case a | l | c | k => k_is
    have F_lgro : L2.FunAt (L2.KOf KX) mg "_law_grows" My.sLgrows := by
      dsimp only [L2.KOf]
      refine' L2.funAt_mk KX G ?a ?l ?c ?k
      case a | l | c | k => k_is
    have F_ltree : L2.FunAt (L2.KOf KX) mg "_law_tree" My.sLtree := by
      dsimp only [L2.KOf]
      refine' L2.funAt_mk KX G ?a ?l ?c ?k
      case a | l | c | k => k_is
    have F_ldown : L2.FunAt (L2.KOf KX) mg "_law_down" My.sLdown := by
      dsimp only [L2.KOf]
      refine' L2.funAt_mk KX G ?a ?l ?c ?k
      case a | l | c | k => k_is
    have F_lkeys : L2.FunAt (L2.KOf KX) mg "_law_keys" My.sLkeys := by
      dsimp only [L2.KOf]
      refine' L2.funAt_mk KX G ?a ?l ?c ?k
      case a | l | c | k => k_is
    have F_law : L2.FunAt (L2.KOf KX) mg "law" My.sLaw := by
      dsimp only [L2.KOf]
      refine' L2.funAt_mk KX G ?a ?l ?c ?k
      case a | l | c | k => k_is
    have z0 : mg "len" = none := by
      refine' PySem.W.mg_none_of KX G ?z; (case z => k_is)
    have z1 : mg "list" = none := by
      refine' PySem.W.mg_none_of KX G ?z; (case z => k_is)
    have z2 : mg "range" = none := by
      refine' PySem.W.mg_none_of KX G ?z; (case z => k_is)
    have z3 : mg "isinstance" = none := by
      refine' PySem.W.mg_none_of KX G ?z; (case z => k_is)
    have z4 : mg "tuple" = none := by
      refine' PySem.W.mg_none_of KX G ?z; (case z => k_is)
    have z5 : mg "zip" = none := by
      refine' PySem.W.mg_none_of KX G ?z; (case z => k_is)
    have z6 : mg "reversed" = none := by
      refine' PySem.W.mg_none_of KX G ?z; (case z => k_is)
    have z7 : mg "bool" = none := by
      refine' PySem.W.mg_none_of KX G ?z; (case z => k_is)
    have z8 : mg "min" = none := by
      refine' PySem.W.mg_none_of KX G ?z; (case z => k_is)
    have z9 : mg "int" = none := by
      refine' PySem.W.mg_none_of KX G ?z; (case z => k_is)
    have z10 : mg "str" = none := by
      refine' PySem.W.mg_none_of KX G ?z; (case z => k_is)
    obtain ⟨cP, XC, HP⟩ : ∃ cP, L2.XCls (L2.KOf KX) cP ∧ mg "BadPaper" = some (.ref cP) := by
      dsimp only [L2.KOf]
      refine' My.err_mk KX G ?a1 ?lB ?lk ?l1 ?l2 ?e1 ?e2 ?b1 ?b2 ?b3 ?b4 ?c1 ?c2 ?c3 ?c4 ?ga ?gn ?fo ?sp ?tk ?mo
      (case a1 | lk | lB | l1 | l2 => k_is); (case e1 => rfl); (case e2 => rfl); (case b1 | b2 | b3 | b4 | c1 | c2 | c3 | c4 | ga | gn | fo | sp | tk | mo => k_is)
    obtain ⟨cG, cD, TG, MG, G_init, G_judged, G_none⟩ : ∃ C cC, My.TxG (L2.KOf KX) mg C cC ∧ (∃ fI, L2.Mk (L2.KOf KX) C fI) ∧ L2.MethAt (L2.KOf KX) C "__init__" "Grows.__init__" My.mGInit ∧ L2.MethAt (L2.KOf KX) C "judged" "Grows.judged" My.mGJudged ∧ L2.MethAt (L2.KOf KX) C "judged_from_none" "Grows.judged_from_none" My.mGNone := by
      dsimp only [L2.KOf]
      refine' My.gw_mk KX G ?aC ?pg ?hd ?po ?sa ?mk ?kc ?n0 ?n1 ?aI ?iI ?aB ?lB ?fo ?sp ?tk ?mo ?kB ?ne ?m0 ?m1 ?m2
      (case aC | pg | hd | po | sa | mk | kc | n0 | n1 | aI | iI | aB | lB | fo | sp | tk | mo | kB => k_is); (case ne => decide)
      case m0 =>
        refine' L2.methAt_mk ?a ?i ?l ?c ?k
        case a | i | l | c | k => k_is
      case m1 =>
        refine' L2.methAt_mk ?a ?i ?l ?c ?k
        case a | i | l | c | k => k_is
      case m2 =>
        refine' L2.methAt_mk ?a ?i ?l ?c ?k
        case a | i | l | c | k => k_is
    obtain ⟨cS, cC, TS, MS, S_init, S_judged⟩ : ∃ C cC, My.TxS (L2.KOf KX) mg C cC ∧ (∃ fI, L2.Mk (L2.KOf KX) C fI) ∧ L2.MethAt (L2.KOf KX) C "__init__" "Stands.__init__" My.mSInit ∧ L2.MethAt (L2.KOf KX) C "judged" "Stands.judged" My.mSJudged := by
      dsimp only [L2.KOf]
      refine' My.st_mk KX G ?aC ?pg ?hd ?po ?sa ?mk ?kc ?n0 ?n1 ?n2 ?aI ?iI ?aB ?lB ?fo ?sp ?tk ?mo ?kB ?ne ?m0 ?m1
      (case aC | pg | hd | po | sa | mk | kc | n0 | n1 | n2 | aI | iI | aB | lB | fo | sp | tk | mo | kB => k_is); (case ne => decide)
      case m0 =>
        refine' L2.methAt_mk ?a ?i ?l ?c ?k
        case a | i | l | c | k => k_is
      case m1 =>
        refine' L2.methAt_mk ?a ?i ?l ?c ?k
        case a | i | l | c | k => k_is
    obtain ⟨cH, TH, MH, H_init, H_judged⟩ : ∃ C, My.TxH (L2.KOf KX) mg C ∧ (∃ fI, L2.Mk (L2.KOf KX) C fI) ∧ L2.MethAt (L2.KOf KX) C "__init__" "Holds.__init__" My.mHInit ∧ L2.MethAt (L2.KOf KX) C "judged" "Holds.judged" My.mHJudged := by
      dsimp only [L2.KOf]
      refine' My.ho_mk KX G ?aC ?pg ?hd ?po ?sa ?mk ?kc ?n0 ?n1 ?n2 ?n3 ?aI ?iI ?m0 ?m1
      (case aC | pg | hd | po | sa | mk | kc | n0 | n1 | n2 | n3 | aI | iI => k_is)
      case m0 =>
        refine' L2.methAt_mk ?a ?i ?l ?c ?k
        case a | i | l | c | k => k_is
      case m1 =>
        refine' L2.methAt_mk ?a ?i ?l ?c ?k
        case a | i | l | c | k => k_is
    obtain ⟨cL, TL, ML, L_init, L_judged⟩ : ∃ C, My.TxL (L2.KOf KX) mg C ∧ (∃ fI, L2.Mk (L2.KOf KX) C fI) ∧ L2.MethAt (L2.KOf KX) C "__init__" "Lacks.__init__" My.mLInit ∧ L2.MethAt (L2.KOf KX) C "judged" "Lacks.judged" My.mLJudged := by
      dsimp only [L2.KOf]
      refine' My.la_mk KX G ?aC ?pg ?hd ?po ?sa ?mk ?kc ?n0 ?n1 ?n2 ?aI ?iI ?m0 ?m1
      (case aC | pg | hd | po | sa | mk | kc | n0 | n1 | n2 | aI | iI => k_is)
      case m0 =>
        refine' L2.methAt_mk ?a ?i ?l ?c ?k
        case a | i | l | c | k => k_is
      case m1 =>
        refine' L2.methAt_mk ?a ?i ?l ?c ?k
        case a | i | l | c | k => k_is
    obtain ⟨fd, hb, hF⟩ := L2.law_fn (x := "_law_script") (ps := ["_law_script"]) hmg F_law (fun base kb nb hC hB => My.all_ok (P := PySem.Challenge.rw_growbook_k14_no_two.prog) (w := w) (base := base) F_split F_none F_leaf F_pair F_book F_turns F_risen F_gturns F_grown F_row F_fork F_tabs F_ind F_same F_lst F_isn F_ise F_isw F_isk F_fits F_topw F_wst F_seal F_draw F_some F_lsplit F_lris F_lreg F_lsta F_lgro F_ltree F_ldown F_lkeys F_law z0 z1 z2 z3 z4 z5 z6 z7 z8 z9 z10 XC HP TG MG G_init G_judged G_none TS MS S_init S_judged TH MH H_init H_judged TL ML L_init L_judged)
    exact ⟨fd, hb, hF⟩
  case S =>
    intro K mg Pt H a ns hl hS hScr hP
    exact ⟨a, ns, rfl, My.sqF_of hS hScr, hl, fun _ => rfl⟩
#print axioms PySem.Challenge.cw_growbook_k14_no_two_holds
